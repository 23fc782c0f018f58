import PyProof.Rows.All
import Wide.All
import OpenK.AllK
import Wide.FinOn
import PyProof.EqAt
import PyProof.EqKinds
import PyProof.NeKinds
import PyProof.TupleCall
import KE.KRevIter
import PyProof.ZipIter
import PyProof.Rows.SetFrom
import PyProof.StrWalks
import PyProof.DictStraight
import PyProof.StrLawsFrom
import PyProof.Rows.StrNews2
import KE.KMinBuiltin
import PyProof.Rows.CallKwBuiltin
import PyProof.Rows.SortShell
import KE.KSortTup
import KE.KBoundM
import KE.KLam
import Lean
import PySem.Challenge.RW_letterlaw_k80_whole_least_of_class
set_option compiler.extract_closed false
open PySem.Heap renaming get?_push_of_some→aa,lt_size→ay,get?_push_size→aI,get?_update_other→aL,size_push→bG,get?_update_self→bV,size_update→dz
open List renaming getD_eq_getElem?_getD→ac,mem_of_getElem?→ae,length_map→af,getElem?_eq_getElem→ak,length_append→am,size_toArray→au,mem_cons_of_mem→aw,append_assoc→ax,map_cons→az,mem_append_right→aC,mem_cons_self→aD,map_append→aE,getElem?_map→aH,length_take→aK,length_cons→aM,map_nil→aP,take_length→aQ,take_append_of_le_length→aT,drop_eq_getElem_cons→aU,append_nil→aV,lookup_cons→aW,range→aX,drop_of_length_le→aY,replicate→aZ,length_drop→ba,toArray→be,set_cons_zero→bf,set_cons_succ→bg,lookup→bi,sum_cons→bj,mem_append_left→bn,take_of_length_le→bp,mem_of_mem_take→br,getElem?_take_of_lt→bv,take_append_drop→bw,getElem?_reverse→bx,getElem?_eq_none→bz,nil_append→bA,idxOf_lt_length_of_mem→bC,cons_append→bE,take_zero→bI,drop_append_of_le_length→bK,getElem?_append_right→bR,length_replicate→bU,getElem?_append_left→bX,length_nil→cb,mem_of_mem_drop→cj,length_reverse→cq,drop_left→cw,take_left→cD,map_congr_left→cF,countP_cons_of_pos→cG,range_succ→cL,filter_append→cM,length_singleton→cP,length_filter_le→cQ,replicate_succ→cY,flatMap_append→cZ,of_mem_zip→db,forIn_cons→dc,filter_nil→df,contains_cons→dh,zip_cons_cons→di,drop_drop→dj,append_cancel_left→dk,countP_cons_of_neg→dm,flatten_cons→dn,length_range→dq,mem_cons→dw,map_map→dD,find?_some→dF,eq_nil_of_length_eq_zero→dH,filterMap_cons→dI,take_succ_cons→dM,drop_zero→dO,getElem_idxOf→dP,extract_eq_drop_take→d5,mem_of_find?_eq_some→d6,drop_length→d9,mem_nil_iff→ef,getElem_mem→em,filter_cons→et,not_mem_nil→eC,getElem?_replicate→eD,pairwise_singleton→eE,getElem?_cons_zero→eF,filter_cons_of_pos→eG,filter_cons_of_neg→eI,getElem?_set_self→eL,length→eN,range_succ_eq_map→eO,forIn_nil→eS,mem_range→eV,take_take→eW,mem_of_mem_head?→eX,getElem?_set_ne→eZ,getElem?_drop→fm,getElem_range→fo
open PySem.W renaming findIn→ah,keepIn→aj,nsIn→al,mg_of→ao,codeIn→ar,fnOf→av,mg_none_of→aN,kitOne→aS,isFn→bc,kia_one→bh,emptyDict→bJ,callWith_K→bL,mroIn→bN,hasDictIn→bP,plainGet→bS,methodCall_KW→bT,kla_fn→bW,instObj→bY,plainOver→cA,specialIn→cB,looks_findIn→cC,subIn→cI,makesIn→cJ,takesIn→dB,plainGet_of→dL,lookIn→dN,methodObj→dX,kitx_list→dY,envX→eh,takerIn→eJ,cellsFrom_some→eM,callWith_K0→e9,kitx_tuple→fh,set_plain→fq,kitx_dict→ft,handedIn→fu,bind_fn→fw,findObj→fz,readsIn→fA,findCls→fB,kat_nil→fG,kas_ask→fH
open Nat renaming le_refl→aq,lt_of_lt_of_le→aB,ne_of_lt→aF,zero_le→aJ,le_trans→aR,ne_of_gt→bZ,lt_succ_of_lt→cp,le_add_right→cu,min_eq_left→cy,not_lt_zero→cz,lt_irrefl→cH,lt_of_le_of_lt→cK,le_succ→cN,le_of_not_lt→cU,le_of_lt→dg,min_eq_right→dA,lt_trichotomy→d4,lt_succ_self→d7,succ_mul→d8,lt_or_ge→ee,zero_add→eg,min_self→fj
open PySem renaming boot_len→aA,mem_of_lookup→bQ,strKind→cX,frameOf→dU,passOn→fk,call→fF
open Bool renaming false_ne_true→aG,false_eq_true→bM,eq_false_or_eq_true→ce,and_eq_true→cE,eq_iff_iff→da,or_true→dC,not_eq_true'→dZ,and_false→eR,and_true→e8
open Int renaming toNat_natCast→aO,emod_nonneg→bt,emod_lt_of_pos→bu,eq_ofNat_of_zero_le→bD,le_refl→dv,natCast_nonneg→dQ
open PySem.F renaming plainAttrs_str→bq,plain_max_loop→bH,plainAttrs_list→bO,slot_list_append→cf,type_list_append→ci,slot_str_find→cS,type_str_find→cT,entry_max_loop→du,excBase_ValueError→dW,slot_str_count→eP,type_str_count→eQ
open PyProof.Rows renaming callWith_type1→bB,boot_sum→eU,boot_any→eY
open PySem.Str renaming ofString→bF,empty→eK
open Option renaming bind_some→cr,getD_none→fv
open Decidable renaming byContradiction→de
open Array renaming length_toList→dJ,getD→e7,toList_append→fg
open PySem renaming wpAny_bind→oH,wpAny_pure→oJ,mainGlobals→oK,starEach→oM,sizeLine→oN
open PySem.W renaming Frag→oO
open PySem renaming Addr→oP,Value→oQ,Shared→oR,wpAny→oS,FuncData→oU,Program→oV,Str→oW,World→oX,Around→oY,Expr→oZ,Heap→pb,compareOp→pc,Stmt→pf,keywordEach→ph,wpAny_field→pi,backTo→pj,strIterType→pq,wpAny_Call_Name_kw→px,sizeLine_eq→pz,wpAny_truthy_bool→pA,wpAny_noRaise→pB,Obj→pC,wpAny_holding→pD,bootBuiltins→pE,backToKw→pF,wpAny_seqItems→pG,wpAny_loadPart_at→pH,Scope→pJ,IsPair→pK,wpAny_passesOwn→pL,wpAny_standAt→pM,codeAny→pN,wpAny_setField→pO,wpAny_setField_rec→pP,wpAny_execs_nil→pQ,Pos→pR,wpAny_mono→pS,wpAny_call→pT,wpAny_execs_cons→pV,codeAny_mono→pW,wpAny_isSubtype_exc→pX,wpAny_comprehension_free→pY,codeAny_builtin→pZ,wpAny_letGo→ra,wpAny_tryCatch→rb,plainObj_wpAny_Assign_Attribute→re,wpAny_attempt→rf,wpAny_newFunctionEnv→rg,codeAny_call_builtin→rh,NameKind→rj,Arguments→rp,IsZip→rq,wpAny_pyIter_list→rz,wpAny_newObj_type→rA,Tok→rB,wpAny_getItem_str_slice→rD,wpAny_call_entry→rE,wpAny_rule→rF,codeAny_compStart_list→rH,wpAny_updateSeq→rJ,Env→rK,wpAny_updateSeq_pair→rL,wpAny_pyIter_revIter→rM,wpAny_loadPart→rN,recursionLimit→rO,excClassObj→rP,Result→rQ,BindsTo→rR,wpAny_onRaise→rS,wpAny_newList→rT,ExceptHandler→rW,wpAny_pyIter_tuple→rX,wpAny_pyIter_enum→rY,wpAny_assign_Name→rZ,wpAny_Return_some→sf,wpAny_Assign_Name→si,Model→sj,GenState→so,wpAny_pyIter_zip→sq,wpAny_lookBehind→sr,wpAny_Try_except→su,isCodeTable→sv,Sem→sw,Keyword→sx,wpAny_Name→sy,TriplesOk→sB,Paired→sC
open PyProof.Rows renaming seqObj→pw,envOfC→rm,AllBare→rn,subscriptTail_builtinR→rG,subscriptTail→rV,IntsAre→sk,Subscript_→sA
open Option renaming some→sE,none→sF
open Bool renaming true→sG,false→sH
open PySem PySem.Spec PyProof.Rows
set_option Elab.async false
set_option linter.all false
set_option maxRecDepth 100000
set_option maxHeartbeats 4000000
namespace L2
noncomputable abbrev Key:=Sum Int oW
noncomputable def za4:Key->oQ->Bool
 | .inl k,v=>Value.isInt k v
 | .inr x,v=>Value.isStrOf x v
noncomputable def zcZ(w:oX):Key->Int
 | .inl k=>hashInt k
 | .inr x=>hashStr w x
theorem ym:∀{k:Key} {v:oQ},za4 k v=sG->(∃i t,k=Sum.inl i/\v=Value.int i t)\/(∃x t,k=Sum.inr x/\v=Value.str x t)
 | .inl i,v,h=>by
  obtain⟨t,e⟩:=Value.isInt_shape (k:=i) (v:=v) h
  exact .inl ⟨i,t,rfl,e⟩
 | .inr x,v,h=>by
  obtain⟨t,e⟩:=Value.isStrOf_shape (x:=x) (v:=v) h
  exact .inr ⟨x,t,rfl,e⟩
theorem zbi(a b:Int):decide ((Sum.inl a:Key)=Sum.inl b)=(a == b):=by
 by_cases e:a=b
 ·subst e;simp
 ·have h:¬ (Sum.inl a:Key)=Sum.inl b:=λq=>e (Sum.inl.inj q)
  rw[decide_eq_false h]
  exact (beq_eq_false_iff_ne.mpr e).symm
theorem zbd(a b:oW):decide ((Sum.inr a:Key)=Sum.inr b)=decide (a=b):=by
 by_cases e:a=b
 ·subst e;simp
 ·have h:¬ (Sum.inr a:Key)=Sum.inr b:=λq=>e (Sum.inr.inj q)
  rw[decide_eq_false h,decide_eq_false e]
theorem zaG(a:Int)(b:oW):decide ((Sum.inl a:Key)=Sum.inr b)=sH:=decide_eq_false (λq=>nomatch q)
theorem zaA(a:oW)(b:Int):decide ((Sum.inr a:Key)=Sum.inl b)=sH:=decide_eq_false (λq=>nomatch q)
noncomputable def Yc(prog:oV)(w:oX):PySem.KeyKind prog w Key where
 is:=za4
 hash:=zcZ w
 inj:=λv a b ha hb=>by
  rcases ym ha with ⟨i,t,rfl,rfl⟩ | ⟨x,t,rfl,rfl⟩
  ·rcases ym hb with ⟨j,u,rfl,e⟩ | ⟨y,u,rfl,e⟩
   ·injection e with e1 _;rw[e1]
   ·exact nomatch e
  ·rcases ym hb with ⟨j,u,rfl,e⟩ | ⟨y,u,rfl,e⟩
   ·exact nomatch e
   ·injection e with e1 _;rw[e1]
 byValue:=λk v h=>by
  rcases ym h with ⟨i,t,rfl,rfl⟩ | ⟨x,t,rfl,rfl⟩ <;> rfl
 pyHash:=λhv h=>by
  rcases ym hv with ⟨i,t,rfl,rfl⟩ | ⟨x,t,rfl,rfl⟩
  ·exact wpAny_pyHash_int h
  ·exact wpAny_pyHash_str h
 eqBool:=λhu hv h=>by
  rcases ym hu with ⟨i,t,rfl,rfl⟩ | ⟨x,t,rfl,rfl⟩
  ·rcases ym hv with ⟨j,u,rfl,rfl⟩ | ⟨y,u,rfl,rfl⟩
   ·rw[zbi] at h;exact wpAny_eqBool_int h
   ·rw[zaG] at h;exact SeqAt.EqAt.int_str i t y u _ _ _ _ h
  ·rcases ym hv with ⟨j,u,rfl,rfl⟩ | ⟨y,u,rfl,rfl⟩
   ·rw[zaA] at h;exact SeqAt.EqAt.str_int x t j u _ _ _ _ h
   ·rw[zbd] at h;exact wpAny_eqBool_str h
 «strs»:=λk x t v h=>by
  rcases ym h with ⟨i,u,rfl,e⟩ | ⟨y,u,rfl,e⟩
  ·exact nomatch e
  ·injection e with e1 _
   subst e1
   cases v <;> rfl
end L2
namespace L2
inductive V where
 | non | bl (b:Bool) | int (i:Int) | str (x:oW) | byt (b:Array UInt8) | flt (b:UInt64) | ref (a:oP) | ty (n:String)
 deriving DecidableEq
def RelV:V->oQ->Prop
 | .non,u=>u=Value.none
 | .bl b,u=>u=Value.bool b
 | .int i,u=>∃t,u=Value.int i t
 | .str x,u=>∃t,u=Value.str x t
 | .byt b,u=>∃t,u=Value.bytes b t
 | .flt b,u=>∃t,u=Value.float b t
 | .ref a,u=>u=Value.ref a
 | .ty n,u=>u=Value.type n
abbrev Vals:List V->List oQ->Prop:=sC RelV
theorem Vals.length{xs:List V}{us:List oQ}(r:Vals xs us):xs.length=us.length:=Paired.length r
theorem Vals.get:∀{xs:List V} {us:List oQ} {i:Nat} {x:V},Vals xs us->xs[i]? = sE x->∃u,us[i]? = sE u/\RelV x u
 | _,_,_,_,.nil,e=>by simp at e
 | _,_,0,_,.cons r _,e=>by simp at e;subst e;exact⟨_,rfl,r⟩
 | _,_,i+1,x,.cons _ t,e=>by
  obtain⟨u,h1,h2⟩:=Vals.get (i:=i) (x:=x) t (by simpa using e)
  exact⟨u,by simpa using h1,h2⟩
theorem Vals.set{x:V}{u:oQ}(r:RelV x u):∀{xs:List V} {us:List oQ} (i:Nat),Vals xs us->Vals (xs.set i x) (us.set i u)
 | _,_,_,.nil=>.nil
 | _,_,0,.cons _ t=>.cons r t
 | _,_,i+1,.cons q t=>.cons q (Vals.set r i t)
theorem Vals.append:∀{xs ys:List V} {us ws:List oQ},Vals xs us->Vals ys ws->Vals (xs ++ ys) (us ++ ws)
 | _,_,_,_,.nil,s=>s
 | _,_,_,_,.cons r t,s=>.cons r (Vals.append t s)
theorem Vals.take:∀{xs:List V} {us:List oQ} (n:Nat),Vals xs us->Vals (xs.take n) (us.take n)
 | _,_,0,_=>.nil
 | _,_,_+1,.nil=>.nil
 | _,_,n+1,.cons r t=>.cons r (Vals.take n t)
theorem Vals.drop:∀{xs:List V} {us:List oQ} (n:Nat),Vals xs us->Vals (xs.drop n) (us.drop n)
 | _,_,0,r=>r
 | _,_,_+1,.nil=>.nil
 | _,_,n+1,.cons _ t=>Vals.drop n t
def RelO:Option V->Option oQ->Prop
 | some v,sE u=>RelV v u
 | none,sF=>True
 | _,_=>False
def KV{κ:Type}:List (κ × V)->List (κ × oQ)->Prop:=sC λ(p:κ × V) (q:κ × oQ)=>p.1=q.1/\RelV p.2 q.2
noncomputable def kV:Key->V
 | .inl i=>.int i
 | .inr x=>.str x
inductive HO where
  | lst (xs:List V)
  | tup (xs:List V)
  | dK (kvs:List (Key × V)) | dT (kvs:List (List Key × V))
  | set (S:Int->Bool) (n:Nat)
  | ins (C dx:oP) (fs:List (oW × V))
  | own (x:oP)
  | xd (fs:List (oW × V))
  | met (f x:oP)
  | rng (lo hi:Int)
  | frz (o:pC) (u:HO)
  | tbl (ps:Array oQ)
  | ext (φ:pb->Prop)
noncomputable abbrev Hp:=oP->Option HO
noncomputable def upd(H:Hp)(a:oP)(o:HO):Hp:=λb=>if b=a then sE o else H b
theorem ze{H:Hp}{a:oP}{o:HO}:upd H a o a=sE o:=by unfold upd;rw[if_pos rfl]
theorem zo{H:Hp}{a b:oP}{o:HO}(h:b≠a):upd H a o b=H b:=by unfold upd;rw[if_neg h]
theorem zH{H:Hp}{a b:oP}{o:HO}(h:H a=sE o)(h':H b=sF):a≠b:=by
 intro e;subst e;rw[h] at h';cases h'
section
variable(P:oV)(w:oX)
def ObjOk(H:Hp)(h:pb)(a:oP):HO->Prop
 | .lst xs=>xs.length<=oN/\∃(its:List oQ) (n:Nat),Vals xs its/\h.get? a=sE { cls:=.type "list",data:=.seq its.toArray n }
 | .tup xs=>xs.length<=oN/\∃its:List oQ,Vals xs its/\IsTup h a its.toArray
 | .dK kvs=>kvs.length<=oN/\(a == sysModules)=sH/\∃vs,KV kvs vs/\h.DictOf (Yc P w) a vs
 | .dT kvs=>kvs.length<=oN/\(a == sysModules)=sH/\∃xs:List (List Key × oP × oQ),
   sC (λ(p:List Key × V) (q:List Key × oP × oQ)=>p.1=q.1/\H q.2.1=sE (.tup (p.1.map kV))/\RelV p.2 q.2.2) kvs xs /\
   ∃o es ep,h.get? a=sE o/\o.ExactDict/\o.data=.dict es ep/\es.toList=xs.map (entryOfKey (tupleKind (Yc P w)))/\(xs.map (·.1)).Nodup
 | .set S n=>h.SetOf (intKind P w) a S n
 | .ins C dx fs=>H dx=sE (.own a)/\fs.length<=1000/\dx≠a/\h.get? a=sE (bY C dx) /\
   ∃mA,h.Ns1 dx mA/\(∀f,RelO (fs.lookup f) (mA f))/\PySem.Within mA (fs.map (·.1))
 | .own _=>∃o,h.get? a=sE o
 | .xd fs=>∃mA,h.Ns1 a mA/\∀f,RelO (fs.lookup f) (mA f)
 | .rng lo hi=>∃t u v,h.get? a=sE { cls:=.type "range",data:=.fields #[.int lo t,.int hi u,.int 1 v] }
 | .frz o u=>h.get? a=sE o/\ObjOk H h a u
 | .tbl ps=>h.get? a=sE { cls:=.none,data:=.fields ps }
 | .met f x=>h.get? a=sE (dX (.ref f) (.ref x))
 | .ext φ=>φ h/\(∃o,h.get? a=sE o)/\∀h1 h2:pb,φ h1->(∀o,h1.get? a=sE o->h2.get? a=sE o)->φ h2
def HOk(H:Hp)(h:pb):Prop:=∀a o,H a=sE o->ObjOk P w H h a o
end
section
variable{P:oV}{w:oX}{H H':Hp}{h h':pb}{a:oP}{o:HO}
theorem ObjOk.lt(x:ObjOk P w H h a o):a<h.objs.size:=by
 cases o with
 | lst xs=>obtain⟨_,_,_,_,e⟩:=x;exact ay e
 | tup xs=>obtain⟨_,_,_,p⟩:=x;exact p.lt
 | dK kvs=>obtain⟨_,_,_,_,o,_,_,e,_⟩:=x;exact ay e
 | dT kvs=>obtain⟨_,_,_,_,o,_,_,e,_⟩:=x;exact ay e
 | set S n=>obtain⟨o,_,_,_,e,_⟩:=x;exact ay e
 | ins C dx fs=>obtain⟨_,_,_,e,_⟩:=x;exact ay e
 | own y=>obtain⟨_,e⟩:=x;exact ay e
 | xd fs=>obtain⟨_,⟨_,_,_,e,_⟩,_⟩:=x;exact ay e
 | rng lo hi=>obtain⟨_,_,_,e⟩:=x;exact ay e
 | frz ob u=>obtain⟨e,_⟩:=x;exact ay e
 | tbl ps=>exact ay (show h.get? a=sE _ from x)
 | met f y=>exact ay (show h.get? a=sE _ from x)
 | ext φ=>obtain⟨_,⟨_,e⟩,_⟩:=x;exact ay e
theorem Paired.mapP{α β:Type}{F G:α->β->Prop}:∀{l₁:List α} {l₂:List β},sC F l₁ l₂->(∀a b,F a b->G a b)->sC G l₁ l₂
 | _,_,.nil,_=>.nil
 | _,_,.cons r t,f=>.cons (f _ _ r) (Paired.mapP t f)
theorem ObjOk.stay(x:ObjOk P w H h a o)(k:∀b u,(b=a\/H b=sE (.own a))->h.get? b=sE u->h'.get? b=sE u)
  (ho:∀b,H b=sE (.own a)->H' b=sE (.own a)) (ht:∀b xs,H b=sE (.tup xs)->H' b=sE (.tup xs)):ObjOk P w H' h' a o:=by
 induction o with
 | lst xs=>obtain⟨z,its,n,r,e⟩:=x;exact⟨z,its,n,r,k _ _ (.inl rfl) e⟩
 | tup xs=>obtain⟨z,its,r,ob,e,c⟩:=x;exact⟨z,its,r,ob,k _ _ (.inl rfl) e,c⟩
 | dK kvs=>obtain⟨z,y,vs,r,ob,es,ep,e,c⟩:=x;exact⟨z,y,vs,r,ob,es,ep,k _ _ (.inl rfl) e,c⟩
 | dT kvs =>
  obtain⟨z,y,xs,r,ob,es,ep,e,c⟩:=x
  exact⟨z,y,xs,Paired.mapP r λp q z=>⟨z.1,ht _ _ z.2.1,z.2.2⟩,ob,es,ep,k _ _ (.inl rfl) e,c⟩
 | set S n=>obtain⟨ob,es,ep,t,e,c⟩:=x;exact⟨ob,es,ep,t,k _ _ (.inl rfl) e,c⟩
 | ins C dx fs =>
  obtain⟨d,z,ne,e,mA,⟨od,es,ep,e2,c⟩,r⟩:=x
  exact⟨ho _ d,z,ne,k _ _ (.inl rfl) e,mA,⟨od,es,ep,k _ _ (.inr d) e2,c⟩,r⟩
 | own y=>obtain⟨ob,e⟩:=x;exact⟨ob,k _ _ (.inl rfl) e⟩
 | xd fs=>obtain⟨mA,⟨od,es,ep,e,c⟩,r⟩:=x;exact⟨mA,⟨od,es,ep,k _ _ (.inl rfl) e,c⟩,r⟩
 | rng lo hi=>obtain⟨t,u,v,e⟩:=x;exact⟨t,u,v,k _ _ (.inl rfl) e⟩
 | frz ob u ih=>obtain⟨e,q⟩:=x;exact⟨k _ _ (.inl rfl) e,ih q⟩
 | tbl ps =>
  have e:h.get? a=sE { cls:=.none,data:=.fields ps }:=x
  show h'.get? a=sE { cls:=.none,data:=.fields ps }
  exact k a _ (.inl rfl) e
 | met f y =>
  have e:h.get? a=sE (dX (.ref f) (.ref y)):=x
  show h'.get? a=sE (dX (.ref f) (.ref y))
  exact k a _ (.inl rfl) e
 | ext φ=>obtain⟨p,⟨o,e⟩,st⟩:=x;exact⟨st _ _ p λo q=>k _ _ (.inl rfl) q,⟨o,k _ _ (.inl rfl) e⟩,st⟩
theorem HOk.lt(x:HOk P w H h)(e:H a=sE o):a<h.objs.size:=(x a o e).lt
theorem HOk.fresh(x:HOk P w H h)(e:h.objs.size<=a):H a=sF:=by
 cases q:H a with
 | none=>rfl
 | some u=>exact absurd (aB (x.lt q) e) (cH _)
theorem HOk.kept(x:HOk P w H h)(k:∀b u,h.get? b=sE u->h'.get? b=sE u):HOk P w H h':=λa o e =>
 (x a o e).stay (λb u _ q=>k b u q) (λ_ q=>q) λ_ _ q=>q
theorem HOk.laid(x:HOk P w H h)(k:∀b u,h.get? b=sE u->h'.get? b=sE u)(hp:h.objs.size<=a)(new:ObjOk P w (upd H a o) h' a o):HOk P w (upd H a o) h':=λb u e=>by
 have hn:=x.fresh hp
 by_cases hb:b=a
 ·subst hb;rw[ze] at e;cases e;exact new
 ·rw[zo hb] at e
  exact (x b u e).stay (λc v _ q=>k c v q) (λc q=>by rw[zo (zH q hn)];exact q) λc xs q=>by rw[zo (zH q hn)];exact q
end
def Rd(H:Hp)(a:oP)(u:HO):Prop:=H a=sE u\/∃o,H a=sE (.frz o u)
theorem Rd.ok{P:oV}{w:oX}{H:Hp}{h:pb}{a:oP}{u:HO}(r:Rd H a u)(x:HOk P w H h):ObjOk P w H h a u:=by
 rcases r with r | ⟨o,r⟩
 ·exact x a u r
 ·obtain⟨_,q⟩:=x a _ r
  exact q
def Mut:Option HO->Prop
 | some (.lst _)=>True
 | some (.dK _)=>True
 | some (.dT _)=>True
 | some (.set _ _)=>True
 | some (.ins _ _ _)=>True
 | some (.ext _)=>True
 | _=>False
section
variable{P:oV}{w:oX}{H:Hp}{h h':pb}{x e:oP}{o':HO}
theorem HOk.write(ok:HOk P w H h)(mu:Mut (H x))(he:e=x\/H e=sE (.own x))(k:∀b u,b≠e->h.get? b=sE u->h'.get? b=sE u)(heo:∃u,h'.get? e=sE u)
  (new:ObjOk P w (upd H x o') h' x o'):HOk P w (upd H x o') h':=λb u q=>by
 have nown:∀c y,H c=sE (.own y)->c≠x:=λc y r z=>by subst z;rw[r] at mu;exact mu
 have ntup:∀c xs,H c=sE (.tup xs)->c≠x:=λc xs r z=>by subst z;rw[r] at mu;exact mu
 by_cases hb:b=x
 ·subst hb;rw[ze] at q;cases q;exact new
 ·rw[zo hb] at q
  by_cases hbe:b=e
  ·have q':H b=sE (.own x):=by
    rcases he with z | z
    ·exact absurd (hbe.trans z) hb
    ·rw[hbe];exact z
   rw[q] at q';cases q'
   obtain⟨v,hv⟩:=heo
   exact⟨v,by rw[hbe];exact hv⟩
  ·refine (ok b u q).stay (λc v hc r=>k c v ?_ r) (λc r=>by rw[zo (nown c b r)];exact r) λc xs r=>by rw[zo (ntup c xs r)];exact r
   rcases hc with rfl | hc
   ·exact hbe
   ·rintro rfl
    rcases he with z | z
    ·exact nown c b hc z
    ·rw[hc] at z;cases z;exact hb rfl
end
structure Un(fs ex:List oP)(H H':Hp)(h h':pb):Prop where
 keep:∀b o,h.get? b=sE o->H b=sF->b ∉ fs->b ∉ ex->h'.get? b=sE o
 slot:∀b o,h.get? b=sE o->H b=sF->b ∈ fs->b ∉ ex->∃sl,h'.get? b=sE { o with slots:=sl }
 free:∀b o,h.get? b=sE o->H b=sF->b ∉ ex->H' b=sF
 there:∀b o,h.get? b=sE o->b ∉ ex->∃o',h'.get? b=sE o'
 tups:∀b xs,H b=sE (.tup xs)->H' b=sE (.tup xs)
 frzs:∀b o u,H b=sE (.frz o u)->H' b=sE (.frz o u)
 tbls:∀b ps,H b=sE (.tbl ps)->∃more,H' b=sE (.tbl (ps ++ more))
section
variable{fs fs' ex ex':List oP}{H H1 H2:Hp}{h h1 h2 h':pb}{a x e:oP}{o:HO}
theorem Un.any(u:Un fs ex H H1 h h1){b:oP}{ob:pC}(q:h.get? b=sE ob)(n:H b=sF)(hx:b ∉ ex):∃sl,h1.get? b=sE { ob with slots:=sl }:=by
 by_cases hb:b ∈ fs
 ·exact u.slot b ob q n hb hx
 ·exact⟨ob.slots,u.keep b ob q n hb hx⟩
theorem Un.kept(k:∀b u,h.get? b=sE u->h'.get? b=sE u):Un fs ex H H h h' :=
 ⟨λb ob q _ _ _=>k b ob q,λb ob q _ _ _=>⟨ob.slots,k b ob q⟩,λ_ _ _ n _=>n,λb ob q _=>⟨ob,k b ob q⟩,λ_ _ q=>q,λ_ _ _ q=>q,λ_ ps q=>⟨#[],by rw[q];simp⟩⟩
theorem Un.refl:Un fs ex H H h h:=Un.kept λ_ _ q=>q
theorem Un.laid(k:∀b u,h.get? b=sE u->h'.get? b=sE u)(hp:h.objs.size<=a)(hn:H a=sF):Un fs ex H (upd H a o) h h' where
 keep:=λb u q _ _ _=>k b u q
 slot:=λb u q _ _ _=>⟨u.slots,k b u q⟩
 free:=λb u q n _=>by rw[zo (aF (aB (ay q) hp))];exact n
 there:=λb u q _=>⟨u,k b u q⟩
 tups:=λb xs q=>by rw[zo (zH q hn)];exact q
 frzs:=λb u xs q=>by rw[zo (zH q hn)];exact q
 tbls:=λb ps q=>⟨#[],by rw[zo (zH q hn),q];simp⟩
theorem Un.write(mu:Mut (H x))(he:e=x\/H e=sE (.own x))(k:∀b u,b≠e->h.get? b=sE u->h'.get? b=sE u)(heo:∃u,h'.get? e=sE u):Un fs ex H (upd H x o) h h':=by
 have hx:∀b,H b=sF->b≠x:=λb n z=>by subst z;rw[n] at mu;exact mu
 have hb:∀b,H b=sF->b≠e:=λb n z=>by
  subst z
  rcases he with r | r
  ·exact hx b n r
  ·rw[n] at r;cases r
 have hm:∀b u,H b=sE u->¬ Mut (sE u)->b≠x:=λb u q nm z=>by subst z;rw[q] at mu;exact nm mu
 refine⟨λb u q n _ _=>k b u (hb b n) q,λb u q n _ _=>⟨u.slots,k b u (hb b n) q⟩,λb u q n _=>by rw[zo (hx b n)];exact n,λb u q _=>?_,
  λb xs q=>by rw[zo (hm b _ q λz=>z)];exact q,λb u xs q=>by rw[zo (hm b _ q λz=>z)];exact q,λb ps q=>⟨#[],by rw[zo (hm b _ q λz=>z),q];simp⟩⟩
 by_cases hbe:b=e
 ·subst hbe;exact heo
 ·exact⟨u,k b u hbe q⟩
end
noncomputable def trk(h:pb)(H:Hp):List oP:=(aX h.objs.size).filter λa=>(H a).isSome
noncomputable def VO(h:pb)(H:Hp):pb:=PySem.W.hideAll h (trk h H)
theorem Wj(h:pb)(H:Hp):(VO h H).objs.size=h.objs.size:=PySem.W.hideAll_size _ _
theorem Xr{h:pb}{H:Hp}{b:oP}{o:pC}(e:h.get? b=sE o)(n:H b=sF):(VO h H).get? b=sE o :=
 PySem.W.hideAll_get _ e λhm=>by
  have q:(H b).isSome=sG:=(List.mem_filter.mp hm).2
  rw[n] at q;simp at q
theorem Jp{h:pb}{H:Hp}{b:oP}{o:pC}(e:(VO h H).get? b=sE o):h.get? b=sE o/\H b=sF:=by
 have e':h.get? b=sE o:=PySem.W.of_hideAll (trk h H) e
 refine⟨e',?_⟩
 cases q:H b with
 | none=>rfl
 | some x =>
  have hm:b ∈ trk h H:=List.mem_filter.mpr ⟨List.mem_range.mpr (ay e'),by simp [q]⟩
  have z:(VO h H).get? b=sF:=PySem.W.hideAll_none (trk h H) hm
  rw[z] at e;cases e
noncomputable def KN(g h:pb)(L:oP):List (oP × pC):=(aX h.objs.size).filterMap λa=>if a=L\/(g.get? a).isSome=sG then sF else (h.get? a).map λo=>(a,o)
noncomputable def rest(g h:pb)(L d:oP):List (oP × pC):=(KN g h L).filter λp=>decide (p.1≠d)
end L2
namespace L2
structure Mod(K:oO)(mg:oW->Option oQ)(base:pb):Prop where
 kin:K.In base
 glob:base.Ns oK mg
 blt:∃mb,base.Ns builtinsNs mb/\∀x:oW,x≠"__name__"->mb x=pE x
 nolimit:base.NoLimit
structure Cx where
 prog:oV
 w:oX
 K:oO
 mg:oW->Option oQ
 base:pb
 A:oY
 N:List oW
 s₀:oR
 H₀:Hp
 env:rK
 outer:List rK
 stack:List rK
 ex:List oP
 fn:oW->Bool
 calm:Bool
 pn:List (oP × pC)
 xe:oQ->oR->Prop
noncomputable def frs(l:List rK):List oP:=l.filterMap (·.frame)
noncomputable abbrev Cx.fs(X:Cx):List oP:=frs X.outer
def Vis(sc:pJ)(x:oW):Prop:=sc.names.lookup x=sE .local\/sc.names.lookup x=sE .cell\/sc.names.lookup x=sE .free
def Loc(sc:pJ)(x:oW):Prop:=sc.names.lookup x=sE .local\/sc.names.lookup x=sE .cell
def zdf(env:rK)(h:pb)(m:oW->Option oQ)(x:oW)(u:oQ):Prop :=
 (env.kindOf x=sE .local/\m x=sE u)\/((env.kindOf x=sE .cell\/env.kindOf x=sE .free)/\∃c,env.cells.lookup x=sE c/\h.IsCell c (sE u))
structure Cx.Ok(X:Cx):Prop where
 mod:Mod X.K X.mg X.base
 kind:X.env.scope.kind=.function
 glob:X.env.globals=oK
 blt:X.env.builtins=builtinsNs
 above:X.s₀.heap.objs.size<=X.env.locals
 inj:∀x y c,X.env.cells.lookup x=sE c->X.env.cells.lookup y=sE c->x=y
 has:∀x,(X.env.kindOf x=sE .cell\/X.env.kindOf x=sE .free)->∃c,X.env.cells.lookup x=sE c
 cab:∀x c,X.fn x=sG->X.env.cells.lookup x=sE c->X.s₀.heap.objs.size<=c
 hd:X.calm=sG->X.A.handled=sF
 frames:X.A.frames=sE X.stack
 stk:X.stack=X.outer\/(X.stack=X.env::X.outer/\X.env.frame=sE X.env.locals)
 exf:∀b ∈ X.ex,b≠X.env.locals/\∀x c,X.env.cells.lookup x=sE c->c≠b
 bs:∀b o,X.base.get? b=sE o->X.s₀.heap.get? b=sE o/\X.H₀ b=sF
 bsz:X.base.objs.size<=X.s₀.heap.objs.size
 noex:∀b o,X.base.get? b=sE o->b ∉ X.ex
 exfs:∀b ∈ X.ex,b ∉ X.fs
 funs:X.s₀.heap.FunFrames X.base X.outer
 frf:∀b ∈ X.fs,X.H₀ b=sF
structure Inv(X:Cx)(sI:List (oP × pC))(σ:List (Option V))(H:Hp)(s:oR):Prop where
 ok:X.Ok
 os:s.os=X.s₀.os
 bare:rn s.gens
 base:Un X.fs X.ex X.H₀ H X.s₀.heap s.heap
 loc:∃m,s.heap.Ns X.env.locals m/\∀(i:Nat) (x:oW) (v:V),X.N[i]? = sE x->σ[i]? = sE (sE v)->Vis X.env.scope x->∃u,RelV v u/\zdf X.env s.heap m x u
 cell:∀x c,X.env.cells.lookup x=sE c->∃v,s.heap.IsCell c v
 free:H X.env.locals=sF
 freeC:∀x c,X.env.cells.lookup x=sE c->H c=sF
 pin:∀p ∈ X.pn ++ sI,s.heap.get? p.1=sE p.2/\H p.1=sF/\p.1≠X.env.locals/\p.1 ∉ X.fs/\∀v,p.2.data≠.cell v
 hok:HOk X.prog X.w H s.heap
 len:σ.length=X.N.length
section
variable{X:Cx}{sI:List (oP × pC)}{σ:List (Option V)}{H H':Hp}{s:oR}{h':pb}
theorem Cx.Ok.nofr(ok:X.Ok){b:oP}{o:pC}(e:X.base.get? b=sE o):b ∉ X.fs:=λhb=>by
 have:=(ok.funs.mem hb).1
 rw[e] at this;cases this
theorem Inv.bs(I:Inv X sI σ H s):∀b o,X.base.get? b=sE o->s.heap.get? b=sE o/\H b=sF:=λb o e =>
 ⟨I.base.keep b o (I.ok.bs b o e).1 (I.ok.bs b o e).2 (I.ok.nofr e) (I.ok.noex b o e),I.base.free b o (I.ok.bs b o e).1 (I.ok.bs b o e).2 (I.ok.noex b o e)⟩
theorem Inv.bk(I:Inv X sI σ H s):∀b o,X.base.get? b=sE o->s.heap.get? b=sE o:=λb o e=>(I.bs b o e).1
theorem Inv.mod(I:Inv X sI σ H s):Mod X.K X.mg X.base:=I.ok.mod
theorem Inv.kIn(I:Inv X sI σ H s):X.K.In s.heap:=I.ok.mod.kin.keeps I.bk
theorem Inv.nolimit(I:Inv X sI σ H s):s.heap.NoLimit:=I.ok.mod.nolimit.keeps I.bk
theorem Inv.fr(I:Inv X sI σ H s):∃m,Fr X.base X.env.locals s.heap m :=
 let ⟨m,hn,_⟩:=I.loc
 ⟨m,hn,I.bk,aR I.ok.bsz I.ok.above⟩
theorem Inv.lt(I:Inv X sI σ H s):X.env.locals<s.heap.objs.size:=let ⟨_,hn,_⟩:=I.loc;hn.lt
theorem Inv.sz(I:Inv X sI σ H s):X.s₀.heap.objs.size<=s.heap.objs.size:=aR I.ok.above (dg I.lt)
theorem Inv.nofs(I:Inv X sI σ H s){a:oP}(h:s.heap.objs.size<=a):a ∉ X.fs:=λhb=>by
 obtain⟨_,o,ho,_⟩:=I.ok.funs.mem hb
 exact absurd (aB (ay ho) (aR I.sz h)) (cH _)
theorem Inv.cne(I:Inv X sI σ H s):∀x c,X.env.cells.lookup x=sE c->c≠X.env.locals:=λx c e z=>by
 obtain⟨v,o,ho,hd⟩:=I.cell x c e
 obtain⟨m,⟨o',es,ep,ho',hd',_⟩,_⟩:=I.loc
 rw[z,ho'] at ho;cases ho;rw[hd'] at hd;cases hd
theorem Inv.funs(I:Inv X sI σ H s):s.heap.FunFrames X.base X.outer:=by
 have all:∀(l:List rK),(∀b ∈ frs l,b ∈ X.fs)->X.s₀.heap.FunFrames X.base l->s.heap.FunFrames X.base l:=by
  intro l
  induction l with
  | nil=>intro _ _;trivial
  | cons env r ih =>
   intro hs hl
   obtain⟨hk,⟨L,o,hf,hn,ho,hd⟩,hr⟩:=hl
   have hL:L ∈ X.fs:=hs L (by unfold frs;rw[dI,hf];exact aD)
   obtain⟨sl,e⟩:=I.base.slot L o ho (I.ok.frf L hL) hL λz=>I.ok.exfs L z hL
   exact⟨hk,⟨L,_,hf,hn,e,hd⟩,ih (λb hb=>hs b (by unfold frs;rw[dI,hf];exact aw _ hb)) hr⟩
 exact all X.outer (λ_ hb=>hb) I.ok.funs
theorem Inv.stack(I:Inv X sI σ H s):s.heap.FunFrames X.base X.stack:=by
 rcases I.ok.stk with e | ⟨e,hf⟩
 ·rw[e];exact I.funs
 ·rw[e]
  obtain⟨m,hn,_⟩:=I.loc
  refine .cons (by rw[I.ok.kind];decide) hf hn ?_ I.funs
  exact Heap.get?_none_of_le (aR I.ok.bsz I.ok.above)
theorem Inv.stkSub(I:Inv X sI σ H s):∀b ∈ frs X.stack,b ∈ X.env.locals::X.fs:=λb hb=>by
 rcases I.ok.stk with e | ⟨e,hf⟩
 ·rw[e] at hb;exact aw _ hb
 ·rw[e] at hb
  unfold frs at hb
  rw[dI,hf] at hb
  exact hb
theorem Inv.stkFree(I:Inv X sI σ H s):∀b ∈ frs X.stack,H b=sF:=λb hb=>by
 rcases List.mem_cons.mp (I.stkSub b hb) with e | hb
 ·rw[e];exact I.free
 ·obtain⟨_,o,ho,_⟩:=I.ok.funs.mem hb
  exact I.base.free b o ho (I.ok.frf b hb) λz=>I.ok.exfs b z hb
theorem Inv.step{g':Array so}{t':Nat}{d':Drawn}{ch:List oP}(I:Inv X sI σ H s)
  (hch:∀b ∈ ch,(b ∈ X.ex\/X.s₀.heap.objs.size<=b)/\b≠X.env.locals/\(∀x c,X.env.cells.lookup x=sE c->c≠b)/\∀p ∈ X.pn ++ sI,p.1≠b)
  (keep:∀b o,b≠X.env.locals->b ∉ X.fs->b ∉ ch->s.heap.get? b=sE o->H b=sF->h'.get? b=sE o)
  (slot:∀b o,b≠X.env.locals->b ∈ X.fs->b ∉ ch->s.heap.get? b=sE o->H b=sF->∃sl,h'.get? b=sE { o with slots:=sl }) (free:∀b o,b ∉ ch->s.heap.get? b=sE o->H b=sF->H' b=sF)
  (there:∀b o,b ∉ ch->s.heap.get? b=sE o->∃o',h'.get? b=sE o')
  (tups:∀b xs,H b=sE (.tup xs)->H' b=sE (.tup xs)) (frzs:∀b o u,H b=sE (.frz o u)->H' b=sE (.frz o u)) (tbls:∀b ps,H b=sE (.tbl ps)->∃more,H' b=sE (.tbl (ps ++ more)))
  (ns:∀m,s.heap.Ns X.env.locals m->h'.Ns X.env.locals m) (hok:HOk X.prog X.w H' h') (hg:rn g') :
  Inv X sI σ H' { s with heap:=h',gens:=g',drawn:=d',toks:=t' }:=by
 have neL:∀b o,X.s₀.heap.get? b=sE o->b≠X.env.locals:=λb o e=>aF (aB (ay e) I.ok.above)
 have neC:∀b o,X.s₀.heap.get? b=sE o->b ∉ X.ex->b ∉ ch:=λb o e hx hb=>by
  rcases (hch b hb).1 with z | z
  ·exact hx z
  ·exact absurd (aB (ay e) z) (cH _)
 have cellK:∀x c,X.env.cells.lookup x=sE c->∀v,s.heap.IsCell c v->h'.IsCell c v:=λx c e v ⟨o,ho,hd⟩=>by
  have nch:c ∉ ch:=λz=>(hch c z).2.2.1 x c e rfl
  by_cases hc:c ∈ X.fs
  ·obtain⟨sl,q⟩:=slot c o (I.cne x c e) hc nch ho (I.freeC x c e)
   exact⟨_,q,hd⟩
  ·exact⟨o,keep c o (I.cne x c e) hc nch ho (I.freeC x c e),hd⟩
 refine⟨I.ok,I.os,hg,⟨λb o e n hb hx=>?_,λb o e n hb hx=>?_,λb o e n hx=>?_,λb o e hx=>?_,λb xs e=>tups b xs (I.base.tups b xs e),λb o xs e=>frzs b o xs (I.base.frzs b o xs e),λb ps e=>?_⟩,?_,λx c e=>?_,?_,λx c e=>?_,λp hp=>?_,hok,I.len⟩
 ·exact keep b o (neL b o e) hb (neC b o e hx) (I.base.keep b o e n hb hx) (I.base.free b o e n hx)
 ·obtain⟨sl,e1⟩:=I.base.slot b o e n hb hx
  obtain⟨sl',e2⟩:=slot b _ (neL b o e) hb (neC b o e hx) e1 (I.base.free b o e n hx)
  exact⟨sl',e2⟩
 ·obtain⟨o',e1⟩:=I.base.there b o e hx
  exact free b o' (neC b o e hx) e1 (I.base.free b o e n hx)
 ·obtain⟨o',e1⟩:=I.base.there b o e hx
  exact there b o' (neC b o e hx) e1
 ·obtain⟨m1,e1⟩:=I.base.tbls b ps e
  obtain⟨m2,e2⟩:=tbls b _ e1
  exact⟨m1 ++ m2,by rw[e2,Array.append_assoc]⟩
 ·obtain⟨m,hn,hl⟩:=I.loc
  refine⟨m,ns m hn,λi x v e1 e2 e3=>?_⟩
  obtain⟨u,r,l⟩:=hl i x v e1 e2 e3
  refine⟨u,r,?_⟩
  rcases l with l | ⟨k,c,e,z⟩
  ·exact .inl l
  ·exact .inr ⟨k,c,e,cellK x c e _ z⟩
 ·obtain⟨v,z⟩:=I.cell x c e
  exact⟨v,cellK x c e v z⟩
 ·obtain⟨m,⟨o,_,_,ho,_⟩,_⟩:=I.loc
  exact free _ o (λz=>(hch _ z).2.1 rfl) ho I.free
 ·obtain⟨v,o,ho,hd⟩:=I.cell x c e
  exact free c o (λz=>(hch c z).2.2.1 x c e rfl) ho (I.freeC x c e)
 ·obtain⟨e,n,ne,nf,d⟩:=I.pin p hp
  have nch:p.1 ∉ ch:=λz=>(hch p.1 z).2.2.2 p hp rfl
  exact⟨keep p.1 p.2 ne nf nch e n,free p.1 p.2 nch e n,ne,nf,d⟩
theorem Inv.un{t':Nat}(I:Inv X sI σ H s)(u:Un X.fs [] H H' s.heap h')(hok:HOk X.prog X.w H' h'):Inv X sI σ H' { s with heap:=h',toks:=t' }:=by
 obtain⟨m,⟨o,es,ep,ho,r⟩,_⟩:=id I.loc
 obtain⟨sl,hL⟩:=u.any ho I.free (by simp)
 exact I.step (g':=s.gens) (d':=s.drawn) (ch:=[]) (λ_ z=>nomatch z) (λb o _ hb _ e n=>u.keep b o e n hb (by simp)) (λb o _ hb _ e n=>u.slot b o e n hb (by simp)) (λb o _ e n=>u.free b o e n (by simp)) (λb o _ e=>u.there b o e (by simp)) u.tups u.frzs u.tbls (λm' hm=>by
  obtain⟨o',es',ep',ho',r'⟩:=hm
  rw[ho] at ho';cases ho'
  exact⟨_,es',ep',hL,r'⟩) hok I.bare
theorem Inv.call{g':Array so}{t':Nat}{d':Drawn}{ch:List oP}(I:Inv X sI σ H s)(u:Un (frs X.stack) ch H H' s.heap h')(hok:HOk X.prog X.w H' h')(hg:rn g')
  (hch:∀b ∈ ch,(b ∈ X.ex\/X.s₀.heap.objs.size<=b)/\b≠X.env.locals/\(∀x c,X.env.cells.lookup x=sE c->c≠b)/\∀p ∈ X.pn ++ sI,p.1≠b) :
  Inv X sI σ H' { s with heap:=h',gens:=g',drawn:=d',toks:=t' }:=by
 obtain⟨m,⟨o,es,ep,ho,r⟩,_⟩:=id I.loc
 obtain⟨sl,hL⟩:=u.any ho I.free λz=>(hch _ z).2.1 rfl
 exact I.step (ch:=ch) hch (λb o hL hb hc e n=>u.keep b o e n (λz=>(List.mem_cons.mp (I.stkSub b z)).elim hL hb) hc) (λb o _ _ hc e n=>u.any e n hc) (λb o hc e n=>u.free b o e n hc) (λb o hc e=>u.there b o e hc) u.tups u.frzs u.tbls (λm' hm=>by
  obtain⟨o',es',ep',ho',r'⟩:=hm
  rw[ho] at ho';cases ho'
  exact⟨_,es',ep',hL,r'⟩) hok hg
theorem Inv.turned{t':Nat}{it:oP}(I:Inv X sI σ H s)(k:∀b o,b≠it->s.heap.get? b=sE o->h'.get? b=sE o)(hn:H it=sF)(hL:it≠X.env.locals)
  (h1:it ∈ X.ex\/X.s₀.heap.objs.size<=it) (h2:∀x c,X.env.cells.lookup x=sE c->c≠it) (h3:∀p ∈ X.pn ++ sI,p.1≠it):Inv X sI σ H { s with heap:=h',toks:=t' }:=by
 have nit:∀b u,H b=sE u->b≠it:=λb u e z=>by rw[z,hn] at e;cases e
 refine I.step (g':=s.gens) (d':=s.drawn) (ch:=[it]) (λb hb=>?_) (λb o _ _ hc e _=>k b o (λz=>hc (by simp [z])) e) (λb o _ _ hc e _=>⟨o.slots,k b o (λz=>hc (by simp [z])) e⟩) (λ_ _ _ _ n=>n)
  (λb o hc e=>⟨o,k b o (λz=>hc (by simp [z])) e⟩) (λ_ _ e=>e) (λ_ _ _ e=>e) (λb ps e=>⟨#[],by rw[e];simp⟩) (λm hm=>?_) (λb u e=>?_) I.bare
 ·have e:b=it:=by simpa using hb
  subst e
  exact⟨h1,hL,h2,h3⟩
 ·obtain⟨o,es,ep,ho,r⟩:=hm
  exact⟨o,es,ep,k _ o (Ne.symm hL) ho,r⟩
 ·refine (I.hok b u e).stay (λc v hc q=>k c v ?_ q) (λ_ q=>q) λ_ _ q=>q
  rcases hc with z | z
  ·rw[z];exact nit b u e
  ·exact nit c _ z
theorem Inv.tok(I:Inv X sI σ H s)(t:Nat):Inv X sI σ H { s with toks:=t }:=I.un (h':=s.heap) (t':=t) Un.refl I.hok
theorem Inv.kept{t':Nat}(I:Inv X sI σ H s)(k:∀b u,s.heap.get? b=sE u->h'.get? b=sE u):Inv X sI σ H { s with heap:=h',toks:=t' }:=I.un (Un.kept k) (I.hok.kept k)
theorem Inv.laid{a:oP}{o:HO}{t':Nat}(I:Inv X sI σ H s)(k:∀b u,s.heap.get? b=sE u->h'.get? b=sE u)(hp:s.heap.objs.size<=a)(new:ObjOk X.prog X.w (upd H a o) h' a o) :
  Inv X sI σ (upd H a o) { s with heap:=h',toks:=t' }:=I.un (Un.laid k hp (I.hok.fresh hp)) (I.hok.laid k hp new)
theorem Inv.write{x e:oP}{o:HO}{t':Nat}(I:Inv X sI σ H s)(mu:Mut (H x))(he:e=x\/H e=sE (.own x))(k:∀b u,b≠e->s.heap.get? b=sE u->h'.get? b=sE u)(heo:∃u,h'.get? e=sE u)
  (new:ObjOk X.prog X.w (upd H x o) h' x o):Inv X sI σ (upd H x o) { s with heap:=h',toks:=t' }:=I.un (Un.write mu he k heo) (I.hok.write mu he k heo new)
theorem Inv.weak{σ':List (Option V)}(I:Inv X sI σ H s)(hl:σ'.length=σ.length)(w:∀(i:Nat) v,σ'[i]? = sE (sE v)->σ[i]? = sE (sE v)):Inv X sI σ' H s :=
 ⟨I.ok,I.os,I.bare,I.base,let ⟨m,hn,hl'⟩:=I.loc; ⟨m,hn,λi x v e1 e2 e3=>hl' i x v e1 (w i v e2) e3⟩,I.cell,I.free,I.freeC,I.pin,I.hok,hl.trans I.len⟩
theorem Inv.pins_of{pins':List (oP × pC)}(I:Inv X sI σ H s)(h:∀p ∈ pins',s.heap.get? p.1=sE p.2/\H p.1=sF/\p.1≠X.env.locals/\p.1 ∉ X.fs/\∀v,p.2.data≠.cell v):Inv X pins' σ H s :=
 ⟨I.ok,I.os,I.bare,I.base,I.loc,I.cell,I.free,I.freeC,λp hp=>(List.mem_append.mp hp).elim (λz=>I.pin p (bn _ z)) (h p),I.hok,I.len⟩
theorem YH{N:List oW}(hN:N.Nodup){i j:Nat}{x:oW}(a:N[i]? = sE x)(b:N[j]? = sE x):i=j:=by
 obtain⟨h1,e1⟩:=List.getElem?_eq_some_iff.mp a
 obtain⟨h2,e2⟩:=List.getElem?_eq_some_iff.mp b
 exact (List.getElem_inj hN).mp (e1.trans e2.symm)
theorem Zl{M:sj}{A:oY}{E:oQ->oR->Prop}{i:Nat}{x:oW}{v:V}{u:oQ}{Q:Unit->oR->Prop}(I:Inv X sI σ H s)(hN:X.N.Nodup)(hi:X.N[i]? = sE x)(hx:Loc X.env.scope x)(r:RelV v u)
  (h:∀s',Inv X sI (σ.set i (sE v)) H s'->(∃a,Heap.SameBut a s.heap s'.heap/\(a=X.env.locals\/X.env.cells.lookup x=sE a))->Q () s') (hf:X.fn x=sG\/X.env.scope.names.lookup x=sE .local:=by first | exact .inl rfl | exact .inr rfl | assumption):oS M A (storeName X.env x u) Q E s:=by
 obtain⟨m,hn,hl⟩:=id I.loc
 have hcls:(X.env.scope.kind == .class || (X.env.scope.kind == .module && X.env.locals != X.env.globals))=sH:=by rw[I.ok.kind];rfl
 have hiσ:i<σ.length:=by rw[I.len];exact (List.getElem?_eq_some_iff.mp hi).1
 have cne:=I.cne
 have tracked:∀{a:oP} {h':pb},(∃o,s.heap.get? a=sE o/\H a=sF)->Heap.SameBut a s.heap h'->HOk X.prog X.w H h':=λ{a h'} ha hs b ob e=>by
  obtain⟨_,_,hfree⟩:=ha
  refine (I.hok b ob e).stay (λc w' hc q=>(hs.2 c ?_).trans q) (λ_ q=>q) λ_ _ q=>q
  rintro rfl
  rcases hc with rfl | hc
  ·rw[hfree] at e;cases e
  ·rw[hfree] at hc;cases hc
 rcases hx with hk | hk
 ·refine wpAny_storeName_local hk hn (λh' hn' hs=>?_) hcls
  obtain⟨oL,_,_,hoL,_⟩:=id hn
  refine h _ ⟨I.ok,I.os,I.bare,⟨λb o e n hb hx=>?_,λb o e n hb hx=>?_,I.base.free,λb o e hx=>?_,I.base.tups,I.base.frzs,I.base.tbls⟩,⟨_,hn',λj y v' e1 e2 e3=>?_⟩,λy c e=>?_,I.free,I.freeC,λp hp=>?_,tracked ⟨oL,hoL,I.free⟩ hs,by simpa using I.len⟩ ⟨_,hs,.inl rfl⟩
  ·exact (hs.2 b (aF (aB (ay e) I.ok.above))).trans (I.base.keep b o e n hb hx)
  ·obtain⟨sl,e1⟩:=I.base.slot b o e n hb hx
   exact⟨sl,(hs.2 b (aF (aB (ay e) I.ok.above))).trans e1⟩
  ·obtain⟨o',e1⟩:=I.base.there b o e hx
   exact⟨o',(hs.2 b (aF (aB (ay e) I.ok.above))).trans e1⟩
  ·by_cases hj:j=i
   ·subst hj
    rw[hi] at e1;cases e1
    rw[eL hiσ] at e2
    cases e2
    exact⟨u,r,.inl ⟨hk,by simp⟩⟩
   ·rw[eZ (Ne.symm hj)] at e2
    obtain⟨u',r',q⟩:=hl j y v' e1 e2 e3
    refine⟨u',r',?_⟩
    rcases q with ⟨k,e⟩ | ⟨k,c,e,z⟩
    ·refine .inl ⟨k,?_⟩
     have:y≠x:=λe=>hj (YH hN e1 (e ▸ hi))
     simp [this,e]
    ·exact .inr ⟨k,c,e,z.sameBut hs (cne y c e)⟩
  ·obtain⟨w',z⟩:=I.cell y c e
   exact⟨w',z.sameBut hs (cne y c e)⟩
  ·obtain⟨e,n,ne,nf,d⟩:=I.pin p hp
   exact⟨(hs.2 p.1 ne).trans e,n,ne,nf,d⟩
 ·have hfn:X.fn x=sG:=by
   rcases hf with z | z
   ·exact z
   ·rw[z] at hk;cases hk
  obtain⟨c,hc⟩:=I.ok.has x (.inl hk)
  obtain⟨w',z⟩:=I.cell x c hc
  refine wpAny_storeName_cell I.ok.kind hk hc z (λh' hc' hs=>?_)
  obtain⟨oc,hoc,hocd⟩:=id z
  refine h { s with heap:=h' } ⟨I.ok,I.os,I.bare,⟨λb o e n hb hx=>?_,λb o e n hb hx=>?_,I.base.free,λb o e hx=>?_,I.base.tups,I.base.frzs,I.base.tbls⟩,⟨m,hn.sameBut hs (Ne.symm (cne x c hc)),λj y v' e1 e2 e3=>?_⟩,λy c' e=>?_,I.free,I.freeC,λp hp=>?_,tracked ⟨oc,hoc,I.freeC x c hc⟩ hs,by simpa using I.len⟩ ⟨c,hs,.inr hc⟩
  ·exact (hs.2 b (aF (aB (ay e) (I.ok.cab x c hfn hc)))).trans (I.base.keep b o e n hb hx)
  ·obtain⟨sl,e1⟩:=I.base.slot b o e n hb hx
   exact⟨sl,(hs.2 b (aF (aB (ay e) (I.ok.cab x c hfn hc)))).trans e1⟩
  ·obtain⟨o',e1⟩:=I.base.there b o e hx
   exact⟨o',(hs.2 b (aF (aB (ay e) (I.ok.cab x c hfn hc)))).trans e1⟩
  ·by_cases hj:j=i
   ·subst hj
    rw[hi] at e1;cases e1
    rw[eL hiσ] at e2
    cases e2
    exact⟨u,r,.inr ⟨.inl hk,c,hc,hc'⟩⟩
   ·rw[eZ (Ne.symm hj)] at e2
    obtain⟨u',r',q⟩:=hl j y v' e1 e2 e3
    refine⟨u',r',?_⟩
    rcases q with q | ⟨k,c',e,z'⟩
    ·exact .inl q
    ·refine .inr ⟨k,c',e,z'.sameBut hs ?_⟩
     rintro rfl
     exact hj (YH hN e1 (I.ok.inj _ _ _ e hc ▸ hi))
  ·by_cases hcc:c'=c
   ·subst hcc;exact⟨_,hc'⟩
   ·obtain⟨w2,z2⟩:=I.cell y c' e
    exact⟨w2,z2.sameBut hs hcc⟩
  ·obtain⟨e,n,ne,nf,d⟩:=I.pin p hp
   refine⟨(hs.2 p.1 ?_).trans e,n,ne,nf,d⟩
   intro q
   rw[q,hoc] at e
   have q':oc=p.2:=Option.some.inj e
   exact d w' (by rw[<- q'];exact hocd)
theorem ka{M:sj}{A:oY}{E:oQ->oR->Prop}{i:Nat}{x:oW}{v:V}{u:oQ}{Q:Unit->oR->Prop}(I:Inv X sI σ H s)(hN:X.N.Nodup)(hi:X.N[i]? = sE x)(hx:Loc X.env.scope x)(r:RelV v u)
  (h:∀s',Inv X sI (σ.set i (sE v)) H s'->Q () s') (hf:X.fn x=sG\/X.env.scope.names.lookup x=sE .local:=by first | exact .inl rfl | exact .inr rfl | assumption):oS M A (storeName X.env x u) Q E s :=
 Zl I hN hi hx r (λs' I' _=>h s' I') hf
theorem Inv.call'{s':oR}{ch:List oP}(I:Inv X sI σ H s)(ho:s'.os=s.os)(u:Un (frs X.stack) ch H H' s.heap s'.heap)(hok:HOk X.prog X.w H' s'.heap)(hg:rn s'.gens)
  (hch:∀b ∈ ch,(b ∈ X.ex\/X.s₀.heap.objs.size<=b)/\b≠X.env.locals/\(∀x c,X.env.cells.lookup x=sE c->c≠b)/\∀p ∈ X.pn ++ sI,p.1≠b):Inv X sI σ H' s':=by
 obtain⟨h',g',d',t',o'⟩:=s'
 have e:o'=s.os:=ho
 subst e
 exact I.call (g':=g') (t':=t') (d':=d') u hok hg hch
end
noncomputable abbrev XK:=oQ->Option oP->Hp->Prop
noncomputable abbrev St:=List (Option V)
noncomputable abbrev VK:=V->Hp->Prop
noncomputable abbrev TE:=St->Hp->VK->Prop
noncomputable abbrev TT:=St->Hp->(Bool->Hp->Prop)->Prop
noncomputable abbrev TA:=St->Hp->(List V->Hp->Prop)->Prop
structure vh where
 nx:St->Hp->Prop
 rt:VK
 bk:St->Hp->Prop:=λ_ _=>False
 ct:St->Hp->Prop:=λ_ _=>False
noncomputable abbrev TS:=vh->St->Hp->Prop
def EP(X:Cx)(sI:List (oP × pC))(σ:St)(Q:VK)(u:oQ)(s':oR):Prop:=∃v H',Inv X sI σ H' s'/\RelV v u/\Q v H'
def TP(X:Cx)(sI:List (oP × pC))(σ:St)(Q:Bool->Hp->Prop)(b:Bool)(s':oR):Prop:=∃H',Inv X sI σ H' s'/\Q b H'
def AP(X:Cx)(sI:List (oP × pC))(σ:St)(Q:List V->Hp->Prop)(us:List oQ)(s':oR):Prop:=∃vs H',Inv X sI σ H' s'/\Vals vs us/\Q vs H'
def SP(X:Cx)(sI:List (oP × pC))(D:vh)(f:Flow)(s':oR):Prop :=
 match f with
 | .next=>∃σ' H',Inv X sI σ' H' s'/\D.nx σ' H'
 | .brk=>∃σ' H',Inv X sI σ' H' s'/\D.bk σ' H'
 | .cont=>∃σ' H',Inv X sI σ' H' s'/\D.ct σ' H'
 | .ret u=>∃v σ' H',Inv X sI σ' H' s'/\RelV v u/\D.rt v H'
def PE(X:Cx)(e:oZ)(t:TE):Prop :=
 ∀(sI:List (oP × pC)) (s:oR) (σ:St) (H:Hp) (Q:VK),Inv X sI σ H s->t σ H Q->oS (model X.prog X.w) X.A (eval e X.env) (EP X sI σ Q) X.xe s
def PT(X:Cx)(e:oZ)(t:TT):Prop :=
 ∀(sI:List (oP × pC)) (s:oR) (σ:St) (H:Hp) (Q:Bool->Hp->Prop),Inv X sI σ H s->t σ H Q->oS (model X.prog X.w) X.A (isTrue e X.env (eval e X.env)) (TP X sI σ Q) X.xe s
def PW(X:Cx)(e:oZ)(t:TT):Prop :=
 ∀(whole:sw oQ) (sI:List (oP × pC)) (s:oR) (σ:St) (H:Hp) (Q:Bool->Hp->Prop),Inv X sI σ H s->t σ H Q->oS (model X.prog X.w) X.A (isTrue e X.env whole) (TP X sI σ Q) X.xe s
theorem PW.pt{X:Cx}{e:oZ}{t:TT}(h:PW X e t):PT X e t:=h _
def PA(X:Cx)(es:List oZ)(t:TA):Prop :=
 ∀(pos:pR) (sI:List (oP × pC)) (s:oR) (σ:St) (H:Hp) (Q:List V->Hp->Prop),Inv X sI σ H s->t σ H Q->oS (model X.prog X.w) X.A (spliced (pj pos (oM es X.env))) (AP X sI σ Q) X.xe s
def PS(X:Cx)(st:pf)(t:TS):Prop :=
 ∀(sI:List (oP × pC)) (s:oR) (σ:St) (H:Hp) (D:vh),Inv X sI σ H s->t D σ H->oS (model X.prog X.w) X.A (exec st X.env) (SP X sI D) X.xe s
def PSs(X:Cx)(st:List pf)(t:TS):Prop :=
 ∀(sI:List (oP × pC)) (s:oR) (σ:St) (H:Hp) (D:vh),Inv X sI σ H s->t D σ H->oS (model X.prog X.w) X.A (execs st X.env) (SP X sI D) X.xe s
theorem thn{α:Type}{t:sw α}{Q Q':α->oR->Prop}{M:sj}{A:oY}{E:oQ->oR->Prop}{s:oR}(h:oS M A t Q E s)(hQ:∀a s,Q a s->Q' a s):oS M A t Q' E s:=pS h hQ λ_ _ x=>x
end L2
namespace L2
section
variable{X:Cx}
theorem bin{a b:oZ}{ta tb:TE}(ha:PE X a ta)(hb:PE X b tb){sI:List (oP × pC)}{s:oR}{σ:St}{H:Hp}{R:V->V->Hp->Prop}(I:Inv X sI σ H s)(h:ta σ H λx H1=>tb σ H1 λy H2=>R x y H2)
  {α:Type} {Q:α->oR->Prop} {f:oQ->oQ->sw α}
  (hf:∀v u s2 x y H2,Inv X sI σ H2 s2->RelV x v->RelV y u->R x y H2->oS (model X.prog X.w) X.A (f v u) Q X.xe s2) :
  oS (model X.prog X.w) X.A (eval a X.env) (λv s₁=>oS (model X.prog X.w) X.A (eval b X.env) (λu s₂=>oS (model X.prog X.w) X.A (f v u) Q X.xe s₂) X.xe s₁) X.xe s:=by
 refine thn (ha sI s σ H _ I h) λv s1 ⟨x,H1,I1,r1,q1⟩=>?_
 refine thn (hb sI s1 σ H1 _ I1 q1) λu s2 ⟨y,H2,I2,r2,q2⟩=>?_
 exact hf v u s2 x y H2 I2 r1 r2 q2
def yS(i:Nat):TE:=λσ H Q=>∃v,σ[i]? = sE (sE v)/\Q v H
def tC(v:V):TE:=λ_ H Q=>Q v H
theorem zaQ{i:Nat}{x:oW}{pos:pR}(hN:X.N[i]? = sE x)(hv:Vis X.env.scope x)(hd:(x == ("__debug__" : oW))=sH:=by decide)(hcd:(x == ("__classdict__" : oW))=sH:=by decide):PE X (.Name x pos) (yS i):=by
 intro sI s σ H Q I h
 obtain⟨v,e,h⟩:=h
 obtain⟨m,hn,hl⟩:=I.loc
 obtain⟨u,r,l⟩:=hl i x v hN e hv
 have fin:EP X sI σ Q u s:=⟨v,H,I,r,h⟩
 rcases l with ⟨hk,hm⟩ | ⟨hk,c,hc,hcell⟩
 ·exact sy (wpAny_loadName_local I.ok.kind hk hn hm fin) hd
 ·rcases hk with hk | hk
  ·exact sy (wpAny_loadName_cell I.ok.kind hk hc hcell fin) hd
  ·exact sy (wpAny_loadName_free I.ok.kind hk hc hcell fin hcd) hd
theorem zg{i j pos}:PE X (.Constant (.int i) j pos) (tC (.int i)):=λ_ _ _ H _ I h=>wpAny_Constant_int ⟨.int i,H,I.tok _,⟨_,rfl⟩,h⟩
theorem yG{b j pos}:PE X (.Constant (.bool b) j pos) (tC (.bl b)):=λ_ _ _ H _ I h=>Constant_bool ⟨.bl b,H,I,rfl,h⟩
theorem wK{j pos}:PE X (.Constant .none j pos) (tC .non):=λ_ _ _ H _ I h=>Constant_none ⟨.non,H,I,rfl,h⟩
theorem xB{x j pos}:PE X (.Constant (.str x) j pos) (tC (.str x)):=λ_ _ _ H _ I h=>Calls.Constant_str ⟨.str x,H,I.tok _,⟨_,rfl⟩,h⟩
def Gl(X:Cx)(x:oW):Prop:=X.env.kindOf x=sE .globalImplicit
theorem vm{E:oQ->oR->Prop}{sI:List (oP × pC)}{s:oR}{σ:St}{H:Hp}{x:oW}{u:oQ}{pos:pR}{Q:oQ->oR->Prop}(I:Inv X sI σ H s)(hg:Gl X x)(hm:X.mg x=sE u)(h:Q u s)
  (hd:(x == ("__debug__" : oW))=sH:=by decide):oS (model X.prog X.w) X.A (eval (.Name x pos) X.env) Q E s :=
 Calls.Name_function_global I.ok.kind hg (Calls.loadGlobal_global (by rw[I.ok.glob];exact I.mod.glob.keeps I.bk) hm h) hd
theorem vd{E:oQ->oR->Prop}{sI:List (oP × pC)}{s:oR}{σ:St}{H:Hp}{x:oW}{u:oQ}{pos:pR}{Q:oQ->oR->Prop}(I:Inv X sI σ H s)(hg:Gl X x)(hm:X.mg x=sF)(hv:pE x=sE u)(h:Q u s)
  (hn:x≠"__name__":=by decide) (hd:(x == ("__debug__" : oW))=sH:=by decide):oS (model X.prog X.w) X.A (eval (.Name x pos) X.env) Q E s:=by
 obtain⟨mb,h1,h2⟩:=I.mod.blt
 exact Calls.Name_function_global I.ok.kind hg (Calls.loadGlobal_builtin (by rw[I.ok.glob];exact I.mod.glob.keeps I.bk) hm (by rw[I.ok.blt];exact h1.keeps I.bk) ((h2 x hn).trans hv) h) hd
theorem xg{x:oW}{v:V}{u:oQ}{pos:pR}(hg:Gl X x)(hm:X.mg x=sE u)(r:RelV v u)(hd:(x == ("__debug__" : oW))=sH:=by decide):PE X (.Name x pos) (tC v) :=
 λ_ _ _ H _ I h=>vm I hg hm ⟨v,H,I,r,h⟩ hd
theorem Kl{x:oW}{v:V}{u:oQ}{pos:pR}(hg:Gl X x)(hm:X.mg x=sF)(hv:pE x=sE u)(r:RelV v u)(hn:x≠"__name__":=by decide)(hd:(x == ("__debug__" : oW))=sH:=by decide):PE X (.Name x pos) (tC v) :=
 λ_ _ _ H _ I h=>vd I hg hm hv ⟨v,H,I,r,h⟩ hn hd
variable{a b:oZ}{ta tb:TE}{pos:pR}
variable{tA tB':TT}{rest:List oZ}
def zcC(t u:TT):TT:=λσ H Q=>t σ H λc H1=>if c=sG then u σ H1 Q else Q sH H1
def tOr(t u:TT):TT:=λσ H Q=>t σ H λc H1=>if c=sG then Q sG H1 else u σ H1 Q
def zbq(t:TT):TT:=λσ H Q=>t σ H λc H1=>Q (!c) H1
theorem WN(ha:PT X a tA):PW X (.BoolOp .And [a] pos) tA:=by
 intro wh sI s σ H Q I h
 refine isTrue_and (thn (ha sI s σ H Q I h) λc s1 e=>?_)
 cases c with
 | true=>exact isTrue_and_nil e
 | false=>exact e
theorem ZL(ha:PT X a tA):PW X (.BoolOp .Or [a] pos) tA:=by
 intro wh sI s σ H Q I h
 refine isTrue_or (thn (ha sI s σ H Q I h) λc s1 e=>?_)
 cases c with
 | false=>exact isTrue_or_nil e
 | true=>exact e
theorem QT(ha:PT X a tA)(hb:PW X (.BoolOp .And (b::rest) pos) tB'):PW X (.BoolOp .And (a::b::rest) pos) (zcC tA tB'):=by
 intro wh sI s σ H Q I h
 refine isTrue_and (thn (ha sI s σ H _ I h) λc s1 ⟨H1,I1,q1⟩=>?_)
 cases c with
 | true=>exact hb wh sI s1 σ H1 Q I1 q1
 | false=>exact⟨H1,I1,q1⟩
theorem kR(ha:PT X a tA)(hb:PW X (.BoolOp .Or (b::rest) pos) tB'):PW X (.BoolOp .Or (a::b::rest) pos) (tOr tA tB'):=by
 intro wh sI s σ H Q I h
 refine isTrue_or (thn (ha sI s σ H _ I h) λc s1 ⟨H1,I1,q1⟩=>?_)
 cases c with
 | true=>exact⟨H1,I1,q1⟩
 | false=>exact hb wh sI s1 σ H1 Q I1 q1
theorem yn(ha:PT X a tA):PT X (.UnaryOp .Not a pos) (zbq tA):=by
 intro sI s σ H Q I h
 exact isTrue_not (ha sI s σ H (λc H1=>Q (!c) H1) I h)
def zba(ta tb:TE):TE:=λσ H Q=>ta σ H λx H1=>∃c,x=.bl c/\if c=sG then tb σ H1 Q else Q (.bl sH) H1
def zdb(ta tb:TE):TE:=λσ H Q=>ta σ H λx H1=>∃c,x=.bl c/\if c=sG then Q (.bl sG) H1 else tb σ H1 Q
def JG(ta:TE):TE:=λσ H Q=>ta σ H λx H1=>∃c,x=.bl c/\Q (.bl (!c)) H1
theorem zav{op}{t:TE}(h:PE X a t):PE X (.BoolOp op [a] pos) t:=λsI s σ H Q I hw=>BoolOp_one (h sI s σ H Q I hw)
theorem zbc(ha:PE X a ta)(hb:PE X (.BoolOp .And (b::rest) pos) tb):PE X (.BoolOp .And (a::b::rest) pos) (zba ta tb):=by
 intro sI s σ H Q I h
 refine BoolOp_and (thn (ha sI s σ H _ I h) λv s1 ⟨x,H1,I1,r1,q1⟩=>?_)
 obtain⟨c,rfl,q1⟩:=q1
 cases r1
 refine pA ?_
 cases c with
 | true=>exact hb sI s1 σ H1 Q I1 q1
 | false=>exact⟨.bl sH,H1,I1,rfl,q1⟩
theorem QJ(ha:PE X a ta):PE X (.UnaryOp .Not a pos) (JG ta):=by
 intro sI s σ H Q I h
 refine UnaryOp_ (thn (ha sI s σ H _ I h) λv s1 ⟨x,H1,I1,r1,q1⟩=>?_)
 obtain⟨c,rfl,q1⟩:=q1
 cases r1
 exact not_of (pA ⟨.bl (!c),H1,I1,rfl,q1⟩)
def tIf(t:TT)(ta tb:TE):TE:=λσ H Q=>t σ H λc H1=>if c=sG then ta σ H1 Q else tb σ H1 Q
theorem kP{c:oZ}(hc:PT X c tA)(ha:PE X a ta)(hb:PE X b tb):PE X (.IfExp c a b pos) (tIf tA ta tb):=by
 intro sI s σ H Q I h
 refine wpAny_IfExp (thn (hc sI s σ H _ I h) λd s1 ⟨H1,I1,q1⟩=>?_)
 cases d with
 | true=>exact ha sI s1 σ H1 Q I1 q1
 | false=>exact hb sI s1 σ H1 Q I1 q1
end
end L2
namespace L2
def SqL(K:oO)(H:Hp)(a:oP)(xs:List V):Prop :=
 Rd H a (.lst xs) \/
  ∃(o:pC) (its:Array oQ) (n:Nat),K.lookup a=sE o/\o.cls=.type "list"/\o.dict=sF/\o.data=.seq its n/\its.size<=oN/\Vals xs its.toList
def SqT(K:oO)(H:Hp)(a:oP)(xs:List V):Prop :=
 Rd H a (.tup xs) \/
  ∃(o:pC) (its:Array oQ) (n:Nat),K.lookup a=sE o/\o.cls=.type "tuple"/\o.data=.seq its n/\its.size<=oN/\Vals xs its.toList
noncomputable def zdd:oQ->Option V
 | .none=>sE .non
 | .bool b=>sE (.bl b)
 | .int i _=>sE (.int i)
 | .str x _=>sE (.str x)
 | .bytes b _=>sE (.byt b)
 | .float b _=>sE (.flt b)
 | .ref a=>sE (.ref a)
 | .type n=>sE (.ty n)
 | _=>sF
theorem RelV.abs{x:V}{u:oQ}(r:RelV x u):zdd u=sE x:=by
 cases x with
 | non=>cases r;rfl
 | bl _=>cases r;rfl
 | int _=>obtain⟨t,rfl⟩:=r;rfl
 | str _=>obtain⟨t,rfl⟩:=r;rfl
 | byt _=>obtain⟨t,rfl⟩:=r;rfl
 | flt _=>obtain⟨t,rfl⟩:=r;rfl
 | ref _=>cases r;rfl
 | ty _=>cases r;rfl
theorem RelV.inj{x y:V}{u:oQ}(r:RelV x u)(q:RelV y u):x=y:=Option.some.inj (r.abs.symm.trans q.abs)
theorem Vals.inj:∀{xs ys:List V} {us:List oQ},Vals xs us->Vals ys us->xs=ys
 | _,_,_,.nil,.nil=>rfl
 | _,_,_,.cons r t,.cons r' t'=>by rw[r.inj r',Vals.inj t t']
section
variable{X:Cx}{sI:List (oP × pC)}{σ:St}{H:Hp}{s:oR}{a:oP}{xs ys:List V}
theorem SqL.of{K:oO}(h:H a=sE (.lst xs)):SqL K H a xs:=.inl (.inl h)
theorem SqT.of{K:oO}(h:H a=sE (.tup xs)):SqT K H a xs:=.inl (.inl h)
theorem Inv.list(I:Inv X sI σ H s)(h:SqL X.K H a xs):∃its:List oQ,Vals xs its/\PlainL s.heap a its.toArray/\xs.length<=oN:=by
 rcases h with h | ⟨o,its,n,hk,hc,hd,hs,hz,r⟩
 ·obtain⟨z,its,n,r,e⟩:=h.ok I.hok
  exact⟨its,r,⟨_,n,e,rfl,rfl,rfl⟩,z⟩
 ·refine⟨its.toList,r,⟨o,n,I.kIn a o hk,hc,hd,by simpa using hs⟩,?_⟩
  have e:=r.length
  simp only[dJ] at e
  lia
theorem Inv.tuple(I:Inv X sI σ H s)(h:SqT X.K H a xs):∃its:List oQ,Vals xs its/\IsTup s.heap a its.toArray/\xs.length<=oN:=by
 rcases h with h | ⟨o,its,n,hk,hc,hs,hz,r⟩
 ·obtain⟨z,its,r,p⟩:=h.ok I.hok
  exact⟨its,r,p,z⟩
 ·refine⟨its.toList,r,⟨o,I.kIn a o hk,hc,n,by simpa using hs⟩,?_⟩
  have e:=r.length
  simp only[dJ] at e
  lia
theorem Inv.list_inj(I:Inv X sI σ H s)(h:SqL X.K H a xs)(h':SqL X.K H a ys):xs=ys:=by
 obtain⟨its,r,⟨o,n,e,_,_,d⟩,_⟩:=I.list h
 obtain⟨its',r',⟨o',n',e',_,_,d'⟩,_⟩:=I.list h'
 rw[e] at e';cases e'
 rw[d] at d'
 injection d' with d1 _
 have:its=its':=by simpa using congrArg Array.toList d1
 subst this
 exact r.inj r'
theorem Inv.tuple_inj(I:Inv X sI σ H s)(h:SqT X.K H a xs)(h':SqT X.K H a ys):xs=ys:=by
 obtain⟨its,r,⟨o,e,_,n,d⟩,_⟩:=I.tuple h
 obtain⟨its',r',⟨o',e',_,n',d'⟩,_⟩:=I.tuple h'
 rw[e] at e';cases e'
 rw[d] at d'
 injection d' with d1 _
 have:its=its':=by simpa using congrArg Array.toList d1
 subst this
 exact r.inj r'
end
noncomputable abbrev Cx.wish(X:Cx)(E:oQ->oR->Prop):Cx:={ X with xe:=E }
noncomputable abbrev Cx.nox(X:Cx):Cx:=X.wish λ_ _=>False
theorem Cx.Ok.wish{X:Cx}(ok:X.Ok)(E:oQ->oR->Prop):(X.wish E).Ok :=
 ⟨ok.mod,ok.kind,ok.glob,ok.blt,ok.above,ok.inj,ok.has,ok.cab,ok.hd,ok.frames,ok.stk,ok.exf,ok.bs,ok.bsz,ok.noex,ok.exfs,ok.funs,ok.frf⟩
theorem Cx.Ok.unwish{X:Cx}{E:oQ->oR->Prop}(ok:(X.wish E).Ok):X.Ok :=
 ⟨ok.mod,ok.kind,ok.glob,ok.blt,ok.above,ok.inj,ok.has,ok.cab,ok.hd,ok.frames,ok.stk,ok.exf,ok.bs,ok.bsz,ok.noex,ok.exfs,ok.funs,ok.frf⟩
section
variable{X:Cx}{sI:List (oP × pC)}{σ:St}{H:Hp}{s:oR}{E:oQ->oR->Prop}
theorem Inv.wish(I:Inv X sI σ H s)(E:oQ->oR->Prop):Inv (X.wish E) sI σ H s:=⟨I.ok.wish E,I.os,I.bare,I.base,I.loc,I.cell,I.free,I.freeC,I.pin,I.hok,I.len⟩
theorem Inv.unwish(I:Inv (X.wish E) sI σ H s):Inv X sI σ H s:=⟨I.ok.unwish,I.os,I.bare,I.base,I.loc,I.cell,I.free,I.freeC,I.pin,I.hok,I.len⟩
theorem SP.unwish{D:vh}{f:Flow}{s':oR}(h:SP (X.wish E) sI D f s'):SP X sI D f s':=by
 cases f with
 | next=>obtain⟨σ',H',I,q⟩:=h;exact⟨σ',H',I.unwish,q⟩
 | brk=>obtain⟨σ',H',I,q⟩:=h;exact⟨σ',H',I.unwish,q⟩
 | cont=>obtain⟨σ',H',I,q⟩:=h;exact⟨σ',H',I.unwish,q⟩
 | ret u=>obtain⟨v,σ',H',I,r,q⟩:=h;exact⟨v,σ',H',I.unwish,r,q⟩
theorem PSs.nox{st:List pf}{t:TS}(h:PSs X.nox st t):PSs X st t:=λsI s σ H D I hw =>
 pS (h sI s σ H D (I.wish _) hw) (λ_ _ q=>q.unwish) λ_ _ z=>False.elim z
end
section
variable{X:Cx}{st:pf}{rest:List pf}{t u:TS}{e:oZ}{te:TE}{pos:pR}
def zbj:TS:=λD σ H=>D.nx σ H
def zcP(t u:TS):TS:=λD σ H=>t { D with nx:=u D } σ H
theorem zC:PSs X [] zbj:=λ_ _ σ H _ I h=>pQ ⟨σ,H,I,h⟩
theorem zO(h1:PS X st t)(h2:PSs X rest u):PSs X (st::rest) (zcP t u):=by
 intro sI s σ H D I h
 refine pV (thn (h1 sI s σ H { D with nx:=u D } I h) λf s1 q=>?_)
 cases f with
 | next =>
  obtain⟨σ',H',I',q⟩:=q
  exact h2 sI s1 σ' H' D I' q
 | ret v=>exact q
 | brk=>exact q
 | cont=>exact q
theorem zh(h1:PS X st t):PSs X [st] t:=by
 intro sI s σ H D I h
 refine pV (thn (h1 sI s σ H D I h) λf s1 q=>?_)
 cases f with
 | next=>exact pQ q
 | ret v=>exact q
 | brk=>exact q
 | cont=>exact q
def zal:TS:=λD σ H=>D.bk σ H
def zbH:TS:=λD σ H=>D.ct σ H
theorem Inv.quiet{sI:List (oP × pC)}{σ:St}{H:Hp}{s:oR}(I:Inv X sI σ H s):interactive X.env=sH:=by simp [interactive,I.ok.kind]
def zaZ(te:TE):TS:=λD σ H=>te σ H λ_ H1=>D.nx σ H1
theorem wz(he:PE X e te)(hs:swapsWith e sF pos.line X.env=pure sH:=by rfl):PS X (.Expr e pos) (zaZ te):=by
 intro sI s σ H D I h
 exact wpAny_Expr_any (thn (he sI s σ H _ I h) λv s1 ⟨x,H1,I1,r1,q1⟩=>⟨σ,H1,I1,q1⟩) I.quiet hs
def zbu(te:TE):TS:=λD σ H=>te σ H D.rt
theorem zv(he:PE X e te):PS X (.Return (sE e) pos) (zbu te):=by
 intro sI s σ H D I h
 exact sf (thn (he sI s σ H _ I h) λv s1 ⟨x,H1,I1,r1,q1⟩=>⟨x,σ,H1,I1,r1,q1⟩)
def zbE:TS:=λD _ H=>D.rt .non H
def zcG(c:TT)(t u:TS):TS:=λD σ H=>c σ H λb H1=>if b=sG then t D σ H1 else u D σ H1
theorem zW{c:oZ}{a b:List pf}{tc:TT}(hc:PT X c tc)(ha:PSs X a t)(hb:PSs X b u):PS X (.If c a b pos) (zcG tc t u):=by
 intro sI s σ H D I h
 refine wpAny_If (thn (hc sI s σ H _ I h) λd s1 ⟨H1,I1,q1⟩=>?_)
 cases d with
 | true=>exact ha sI s1 σ H1 D I1 q1
 | false=>exact hb sI s1 σ H1 D I1 q1
end
noncomputable abbrev TG:=V->St->Hp->(St->Hp->Prop)->Prop
noncomputable abbrev TGs:=List V->St->Hp->(St->Hp->Prop)->Prop
def PG(X:Cx)(target:oZ)(t:TG):Prop :=
 ∀(sI:List (oP × pC)) (s:oR) (σ:St) (H:Hp) (v:V) (u:oQ) (Q:St->Hp->Prop),Inv X sI σ H s->RelV v u->t v σ H Q ->
  oS (model X.prog X.w) X.A (assign target X.env u) (λ_ s'=>∃σ' H',Inv X sI σ' H' s'/\Q σ' H') X.xe s
def PGs(X:Cx)(ts:List oZ)(t:TGs):Prop :=
 ∀(sI:List (oP × pC)) (s:oR) (σ:St) (H:Hp) (vs:List V) (us:List oQ) (Q:St->Hp->Prop),Inv X sI σ H s->Vals vs us->t vs σ H Q ->
  oS (model X.prog X.w) X.A (assignInOrder ((assignEach ts X.env).map (·.2)) us) (λ_ s'=>∃σ' H',Inv X sI σ' H' s'/\Q σ' H') X.xe s
noncomputable abbrev zb9:=V->V->V->Hp->(Hp->Prop)->Prop
def zcD(X:Cx)(t:zb9):Prop :=
 ∀(sI:List (oP × pC)) (s:oR) (σ:St) (H:Hp) (o i v:V) (ov iv u:oQ) (Q:Hp->Prop),Inv X sI σ H s->RelV o ov->RelV i iv->RelV v u->t o i v H Q ->
  oS (model X.prog X.w) X.A (setItem ov iv u) (λ_ s'=>∃H',Inv X sI σ H' s'/\Q H') X.xe s
section
variable{X:Cx}{pos:pR}
def xu(i:Nat):TG:=λv σ H Q=>Q (σ.set i (sE v)) H
theorem zB{i:Nat}{x:oW}(hN:X.N.Nodup)(hi:X.N[i]? = sE x)(hx:Loc X.env.scope x)(hf:X.fn x=sG\/X.env.scope.names.lookup x=sE .local:=by first | exact .inl rfl | exact .inr rfl | assumption):PG X (.Name x pos) (xu i):=by
 intro sI s σ H v u Q I r h
 exact rZ (ka I hN hi hx r (λs' I'=>⟨_,H,I',h⟩) hf)
def K2:TGs:=λvs σ H Q=>vs=[]/\Q σ H
def kN(t:TG)(u:TGs):TGs:=λvs σ H Q=>∃v r,vs=v::r/\t v σ H λσ' H'=>u r σ' H' Q
theorem wy:PGs X [] K2:=by
 intro sI s σ H vs us Q I r h
 obtain⟨e,h⟩:=h
 subst e
 cases r
 exact assignInOrder_nil ⟨σ,H,I,h⟩
theorem yd{e:oZ}{es:List oZ}{t:TG}{u:TGs}(h1:PG X e t)(h2:PGs X es u)
  (hs:(assignEach (e::es) X.env).map (·.2)=assign e X.env::(assignEach es X.env).map (·.2):=by rfl):PGs X (e::es) (kN t u):=by
 intro sI s σ H vs us Q I r h
 obtain⟨v,vr,e1,h⟩:=h
 subst e1
 cases r with
 | cons r rr =>
  rw[hs]
  refine assignInOrder_cons (thn (h1 sI s σ H _ _ _ I r h) λ_ s1 ⟨σ1,H1,I1,q1⟩=>?_)
  exact h2 sI s1 σ1 H1 _ _ Q I1 rr q1
def K5(K:oO)(n:Nat)(t:TGs):TG:=λv σ H Q=>∃a xs,v=.ref a/\SqT K H a xs/\xs.length=n/\t xs σ H Q
theorem uA{es:List oZ}{k:Nat}{t:TGs}{n:Nat}(hc:X.calm=sG)(h:PGs X es t)
  (hn:(assignEach es X.env).length=n:=by rfl) (hst:(assignEach es X.env).findIdx? (·.1)=sF:=by rfl):PG X (.Tuple es k pos) (K5 X.K n t):=by
 intro sI s σ H v u Q I r hw
 obtain⟨a,xs,e1,hq,hl,hw⟩:=hw
 subst e1
 cases r
 obtain⟨its,rv,ht,hz⟩:=I.tuple hq
 refine assign_Tuple_tuple (I.ok.hd hc) ht (by simp [hn,<- hl,rv.length]) hst λh' hx=>?_
 have I1:Inv X sI σ H { s with heap:=h' }:=I.kept (t':=s.toks) λb o e=>hx b o (aF (ay e)) e
 exact h sI _ σ H xs _ Q I1 (by simpa using rv) hw
def zcK(to ti:TE)(t:zb9):TG:=λv σ H Q=>to σ H λo H1=>ti σ H1 λi H2=>t o i v H2 λH3=>Q σ H3
theorem zaL{o i:oZ}{to ti:TE}{t:zb9}(ho:PE X o to)(hi:PE X i ti)(hs:zcD X t)
  (ha:∀v,assign (.Subscript o i pos) X.env v=(do
   let ov <- holding [v] (eval o X.env)
   let iv <- holding [v,ov] (eval i X.env)
   standAt pos
   holding [v,ov,iv] (setItem ov iv v)
   release [v,ov,iv] []):=by intro _;rfl):PG X (.Subscript o i pos) (zcK to ti t):=by
 intro sI s σ H v u Q I r h
 rw[ha]
 refine oH (pD (thn (ho sI s σ H _ I h) λov s1 ⟨x,H1,I1,r1,q1⟩=>?_))
 refine oH (pD (thn (hi sI s1 σ H1 _ I1 q1) λiv s2 ⟨y,H2,I2,r2,q2⟩=>?_))
 refine oH (pM (oH (pD (thn (hs sI s2 σ H2 x y v ov iv u _ I2 r1 r2 r q2) λ_ s3 ⟨H3,I3,q3⟩=>?_))))
 exact wpAny_release ⟨σ,H3,I3,q3⟩
def zcv(te:TE)(g:TG):TS:=λD σ H=>te σ H λx H1=>g x σ H1 D.nx
theorem zas{tg e:oZ}{te:TE}{g:TG}(he:PE X e te)(hg:PG X tg g)(hs:swapsWithSole [tg] e pos.line X.env=pure sH:=by rfl)(hw:swappedStores [tg] e X.env=pure sF:=by rfl)
  (h1:(assignEach [tg] X.env).map (·.2)=[assign tg X.env]:=by rfl):PS X (.Assign [tg] e pos) (zcv te g):=by
 intro sI s σ H D I h
 refine wpAny_Assign_stores (thn (he sI s σ H _ I h) λv s1 ⟨x,H1,I1,r1,q1⟩=>?_) hs hw
 rw[h1]
 exact thn (hg sI s1 σ H1 x v _ I1 r1 q1) λ_ s2 q=>q
theorem zq{i:Nat}{x:oW}{e:oZ}{te:TE}{pos':pR}(hN:X.N.Nodup)(hi:X.N[i]? = sE x)(hx:Loc X.env.scope x)(he:PE X e te)(hs:swapsWith e (sE (.Name x pos')) pos.line X.env=pure sH:=by rfl)(hf:X.fn x=sG\/X.env.scope.names.lookup x=sE .local:=by first | exact .inl rfl | exact .inr rfl | assumption) :
  PS X (.Assign [.Name x pos'] e pos) (zcv te (xu i)):=by
 intro sI s σ H D I h
 refine si (thn (he sI s σ H _ I h) λv s1 ⟨y,H1,I1,r1,q1⟩=>?_) hs
 exact ka I1 hN hi hx r1 (λs2 I2=>⟨_,H1,I2,q1⟩) hf
def zc6(i j:Nat)(ta:TA):TS:=λD σ H=>ta σ H λvs H1=>∃v w,vs=[v,w]/\D.nx ((σ.set i (sE v)).set j (sE w)) H1
end
section
variable{X:Cx}{pos:pR}
def Xo(c:TT)(tb:TS):TS:=λD σ H=>∃W:Nat->St->Hp->Prop,(∃m,W m σ H)/\∀m σ H,W m σ H ->
 c σ H λb H1=>if b=sG then ∃N:St->Hp->Prop,(∀σ' H',N σ' H'->∃m',m'<m/\W m' σ' H')/\tb { D with nx:=N,ct:=N,bk:=D.nx } σ H1 else D.nx σ H1
theorem kO{c:oZ}{body:List pf}{tc:TT}{tb:TS}(hp:PassesOwn (model X.prog X.w) X.A X.env X.xe)(hc:PT X c tc)(hb:PSs X body tb):PS X (.While c body [] pos) (Xo tc tb):=by
 intro sI s σ H D I h
 obtain⟨W,⟨m0,w0⟩,turn⟩:=h
 refine wpAny_While (codeAny_whileLoop (λn s'=>∃σ' H',Inv X sI σ' H' s'/\W n σ' H') ?_ m0 ⟨σ,H,I,w0⟩)
 rintro n s1 ⟨σ1,H1,I1,w1⟩
 refine pL hp (thn (hc sI s1 σ1 H1 _ I1 (turn n σ1 H1 w1)) λb s2 ⟨H2,I2,q2⟩=>?_)
 cases b with
 | true =>
  obtain⟨N,hN,q2⟩:=q2
  rw[if_pos rfl]
  refine pL hp (thn (hb sI s2 σ1 H2 _ I2 q2) λf s3 q3=>?_)
  cases f with
  | next =>
   obtain⟨σ3,H3,I3,n3⟩:=q3
   obtain⟨m',hm,w3⟩:=hN σ3 H3 n3
   exact⟨m',hm,σ3,H3,I3,w3⟩
  | cont =>
   obtain⟨σ3,H3,I3,n3⟩:=q3
   obtain⟨m',hm,w3⟩:=hN σ3 H3 n3
   exact⟨m',hm,σ3,H3,I3,w3⟩
  | brk=>exact q3
  | ret v=>exact q3
 | false =>
  rw[if_neg aG]
  exact pQ ⟨σ1,H2,I2,q2⟩
end
structure It where
 go:Nat->Hp->Prop
 yld:Nat->Hp->V->Hp->Prop
 stop:Nat->Hp->Prop
def xO(X:Cx)(sI:List (oP × pC))(H:Hp)(b:oP):Prop :=
 H b=sF/\b≠X.env.locals/\b ∉ X.fs/\(b ∈ X.ex\/X.s₀.heap.objs.size<=b)/\(∀x c,X.env.cells.lookup x=sE c->c≠b)/\∀p ∈ X.pn ++ sI,p.1≠b
theorem Inv.fpOk{X:Cx}{sI:List (oP × pC)}{σ:St}{H H':Hp}{s:oR}{b:oP}(I:Inv X sI σ H s)(hb:s.heap.objs.size<=b)(hn:H' b=sF):xO X sI H' b:=by
 refine⟨hn,bZ (aB I.lt hb),I.nofs hb,.inr (aR I.sz hb),λx c e z=>?_,λp hp z=>?_⟩
 ·obtain⟨v,q⟩:=I.cell x c e
  exact absurd (aB q.lt (by rw[z];exact hb)) (cH _)
 ·exact absurd (aB (ay (I.pin p hp).1) (by rw[z];exact hb)) (cH _)
structure Uh(P:oV)(w:oX)(K:oO)(tg:oZ)(J:It)(fp:List oP)(it:oP)(tn:Nat->pb->Prop):Prop where
 mem:it ∈ fp
 obj:∀i h,tn i h->∀b ∈ fp,∃o,h.get? b=sE o/\∀v,o.data≠.cell v
 keep:∀i h h',tn i h->(∀b ∈ fp,∀o,h.get? b=sE o->h'.get? b=sE o)->tn i h'
 item:∀(X:Cx),X.prog=P->X.w=w->X.K=K->X.calm=sG->∀(i:Nat) (sI:List (oP × pC)) (s:oR) (σ:St) (H:Hp) (E:oQ->oR->Prop),Inv X sI σ H s->(∀b ∈ fp,xO X sI H b)->tn i s.heap->J.go i H ->
  oS (model P w) X.A (pyNext (.ref it)) (λr s1=>∃u,r=sE u /\
   oS (model P w) X.A (letOwnedTupleGo tg (.ref it) u) (λ_ s2=>∃x H',Inv X sI σ H' s2/\RelV x u/\J.yld i H x H'/\tn (i+1) s2.heap/\∀b ∈ fp,H' b=sF) E s1) E s
 done:∀(X:Cx),X.prog=P->X.w=w->X.K=K->X.calm=sG->∀(i:Nat) (sI:List (oP × pC)) (s:oR) (σ:St) (H:Hp) (E:oQ->oR->Prop),Inv X sI σ H s->(∀b ∈ fp,xO X sI H b)->tn i s.heap->J.stop i H ->
  oS (model P w) X.A (pyNext (.ref it)) (λr s1=>r=sF/\Inv X sI σ H s1) E s
 self:∀(A:oY) (i:Nat) (s:oR) (Q:oQ->oR->Prop) (E:oQ->oR->Prop),tn i s.heap->Q (.ref it) s->oS (model P w) A (pyIter (.ref it)) Q E s
noncomputable abbrev TI:=St->Hp->(It->Hp->Prop)->Prop
def PIE(X:Cx)(sI:List (oP × pC))(σ:St)(tg:oZ)(R:It->Hp->Prop)(itv:oQ)(s2:oR):Prop :=
 ∃(it:oP) (fp:List oP) (tn:Nat->pb->Prop) (J:It) (H':Hp),itv=.ref it/\Inv X sI σ H' s2/\Uh X.prog X.w X.K tg J fp it tn/\tn 0 s2.heap/\(∀b ∈ fp,xO X sI H' b)/\R J H'
def PI(X:Cx)(tg iter:oZ)(wi:TI):Prop :=
 ∀(sI:List (oP × pC)) (s:oR) (σ:St) (H:Hp) (R:It->Hp->Prop),Inv X sI σ H s->wi σ H R ->
  oS (model X.prog X.w) X.A (eval iter X.env) (λv s1=>oS (model X.prog X.w) X.A (pyIter v) (PIE X sI σ tg R) X.xe s1) X.xe s
theorem Vl{M:sj}{A:oY}{E:oQ->oR->Prop}{s:oR}{tg:oZ}{it:oP}{u:oQ}{o:pC}{n:String}{vs:Array oQ}{Q:Unit->oR->Prop}(ho:s.heap.get? it=sE o)(hc:o.cls=.type n)(hd:o.data=.fields vs)
    (hn:["enumerate","zip","dict_itemiterator","dict_reverseitemiterator","odict_iterator","itertools.zip_longest","itertools.pairwise"].contains n=sH) (hQ:Q () s):oS M A (letOwnedTupleGo tg (.ref it) u) Q E s:=by
  unfold letOwnedTupleGo
  cases tg <;> first
    | exact oJ hQ
    | (cases u <;> first
        | exact oJ hQ
        | (refine oH (wpAny_load ho ?_)
           rw[hc,hd]
           show oS M A (if (["enumerate","zip","dict_itemiterator","dict_reverseitemiterator","odict_iterator","itertools.zip_longest","itertools.pairwise"].contains n && vs[0]? == sE (rawInt _))=sG then _ else _) Q E s
           rw[if_neg (by intro h;rw[hn,Bool.false_and] at h;cases h)]
           exact oJ hQ))
noncomputable def Itl(K:oO)(a:oP):It :=
 ⟨λi H=>∃xs x,SqL K H a xs/\xs[i]? = sE x,λi H x H'=>H'=H/\∀xs,SqL K H a xs->xs[i]? = sE x,λi H=>∃xs,SqL K H a xs/\xs.length<=i⟩
noncomputable def Itt(K:oO)(a:oP):It :=
 ⟨λi H=>∃xs x,SqT K H a xs/\xs[i]? = sE x,λi H x H'=>H'=H/\∀xs,SqT K H a xs->xs[i]? = sE x,λi H=>∃xs,SqT K H a xs/\xs.length<=i⟩
noncomputable def Itr(lo:Int)(n:Nat):It:=⟨λi _=>i<n,λi H x H'=>H'=H/\x=.int (lo+i),λi _=>n<=i⟩
theorem Vh{P:oV}{w:oX}{K:oO}{tg:oZ}(a it:oP):Uh P w K tg (Itl K a) [it] it (λi h=>h.IsListIter it a i) where
 mem:=by simp
 obj:=λi h st b hb=>by
  have e:b=it:=by simpa using hb
  subst e
  obtain⟨o,e,c,d⟩:=st
  exact⟨o,e,λv z=>by rw[d] at z;cases z⟩
 keep:=λi h h' st k=>st.at λo e=>k it (by simp) o e
 item:=by
  intro X hP hw hK hc i sI s σ H E I hf st hg
  subst hP hw hK
  obtain⟨xs,x,hq,hx⟩:=hg
  obtain⟨its,rv,p,hz⟩:=I.list hq
  obtain⟨u,hu,ru⟩:=rv.get hx
  obtain⟨f0,f1,f2,f3,f4,f5⟩:=hf it (by simp)
  refine wpAny_pyNext_list_item st p.isList (x:=u) (by simpa using hu) λh' st' sb=>?_
  have I1:Inv X sI σ H { s with heap:=h' }:=I.turned (t':=s.toks) (λb o hb e=>(sb.2 b hb).trans e) f0 f1 f3 f4 f5
  obtain⟨o,e,c,d⟩:=id st'
  exact⟨u,rfl,Vl (s:={ s with heap:=h' }) e c d (by decide) ⟨x,H,I1,ru,⟨rfl,λys hy=>by rw[I.list_inj hy hq];exact hx⟩,st',λb hb=>(hf b hb).1⟩⟩
 done:=by
  intro X hP hw hK hc i sI s σ H E I hf st hg
  subst hP hw hK
  obtain⟨xs,hq,hx⟩:=hg
  obtain⟨its,rv,p,hz⟩:=I.list hq
  obtain⟨f0,f1,f2,f3,f4,f5⟩:=hf it (by simp)
  have hl:=rv.length
  exact wpAny_pyNext_list_end (I.ok.hd hc) st p.isList (by simp;lia) λh' eb=>⟨rfl,I.turned (t':=s.toks) (λb o hb e=>eb b o hb e) f0 f1 f3 f4 f5⟩
 self:=λ_ _ _ _ _ st h=>wpAny_pyIter_listiter st h
theorem XH{P:oV}{w:oX}{K:oO}{tg:oZ}(a it:oP):Uh P w K tg (Itt K a) [it] it (λi h=>h.IsTupleIter it a i) where
 mem:=by simp
 obj:=λi h st b hb=>by
  have e:b=it:=by simpa using hb
  subst e
  obtain⟨o,e,c,d⟩:=st
  exact⟨o,e,λv z=>by rw[d] at z;cases z⟩
 keep:=λi h h' st k=>st.at λo e=>k it (by simp) o e
 item:=by
  intro X hP hw hK hc i sI s σ H E I hf st hg
  subst hP hw hK
  obtain⟨xs,x,hq,hx⟩:=hg
  obtain⟨its,rv,p,hz⟩:=I.tuple hq
  obtain⟨u,hu,ru⟩:=rv.get hx
  obtain⟨f0,f1,f2,f3,f4,f5⟩:=hf it (by simp)
  refine wpAny_pyNext_tuple_item st (show s.heap.IsTuple a its.toArray from p) (x:=u) (by simpa using hu) λh' st' sb=>?_
  have I1:Inv X sI σ H { s with heap:=h' }:=I.turned (t':=s.toks) (λb o hb e=>(sb.2 b hb).trans e) f0 f1 f3 f4 f5
  obtain⟨o,e,c,d⟩:=id st'
  exact⟨u,rfl,Vl (s:={ s with heap:=h' }) e c d (by decide) ⟨x,H,I1,ru,⟨rfl,λys hy=>by rw[I.tuple_inj hy hq];exact hx⟩,st',λb hb=>(hf b hb).1⟩⟩
 done:=by
  intro X hP hw hK hc i sI s σ H E I hf st hg
  subst hP hw hK
  obtain⟨xs,hq,hx⟩:=hg
  obtain⟨its,rv,p,hz⟩:=I.tuple hq
  obtain⟨f0,f1,f2,f3,f4,f5⟩:=hf it (by simp)
  have hl:=rv.length
  exact wpAny_pyNext_tuple_end (I.ok.hd hc) st (show s.heap.IsTuple a its.toArray from p) (by simp;lia) λh' eb=>⟨rfl,I.turned (t':=s.toks) (λb o hb e=>eb b o hb e) f0 f1 f3 f4 f5⟩
 self:=λ_ _ _ _ _ st h=>wpAny_pyIter_tupleiter st h
theorem XU{P:oV}{w:oX}{K:oO}{tg:oZ}(it:oP)(lo:Int)(n:Nat):Uh P w K tg (Itr lo n) [it] it (λi h=>IsRangeIter h it (lo+(i:Nat) * 1) ((n:Int) - (i:Nat)) 1) where
 mem:=by simp
 obj:=λi h st b hb=>by
  have e:b=it:=by simpa using hb
  subst e
  exact⟨_,st,λv z=>by
   have z':Data.fields _=Data.cell v:=z
   cases z'⟩
 keep:=λi h h' st k=>k it (by simp) _ st
 item:=by
  intro X hP hw hK hc i sI s σ H E I hf st hg
  subst hP hw hK
  obtain⟨f0,f1,f2,f3,f4,f5⟩:=hf it (by simp)
  have W:=Walks.range (prog:=X.prog) (w:=X.w) (I.ok.hd hc) it lo 1 n
  refine W.item i s _ _ hg st λv h' tk hv st' kk=>?_
  obtain⟨t,rfl⟩:=hv
  have I1:Inv X sI σ H { s with heap:=h',toks:=tk }:=I.turned (λb o hb e=>kk b o (by simpa using hb) e) f0 f1 f3 f4 f5
  refine⟨_,rfl,Vl (s:={ s with heap:=h',toks:=tk }) (n:="range_iterator") st' rfl rfl (by decide) ⟨.int (lo+i),H,I1,⟨t,?_⟩,⟨rfl,rfl⟩,st',λb hb=>(hf b hb).1⟩⟩
  rw[Int.mul_one]
 done:=by
  intro X hP hw hK hc i sI s σ H E I hf st hg
  subst hP hw hK
  obtain⟨f0,f1,f2,f3,f4,f5⟩:=hf it (by simp)
  exact wpAny_pyNext_range_end (I.ok.hd hc) st (by have:n<=i:=hg;lia) λh' eb=>⟨rfl,I.turned (t':=s.toks) (λb o hb e=>eb b o hb e) f0 f1 f3 f4 f5⟩
 self:=λ_ _ _ _ _ st h=>wpAny_pyIter_rangeiter st h
end L2
namespace L2
section
variable{X:Cx}{tg:oZ}
def KI(K:oO)(tl:TE):TI:=λσ H R=>tl σ H λx H1=>∃a,x=.ref a/\(∃xs,SqL K H1 a xs)/\R (Itl K a) H1
def zb3(K:oO)(tl:TE):TI:=λσ H R=>tl σ H λx H1=>∃a,x=.ref a/\(∃xs,SqT K H1 a xs)/\R (Itt K a) H1
theorem yF{l:oZ}{tl:TE}(hl:PE X l tl):PI X tg l (KI X.K tl):=by
 intro sI s σ H R I h
 refine thn (hl sI s σ H _ I h) λv s1 ⟨x,H1,I1,r1,q1⟩=>?_
 obtain⟨a,e,⟨xs,hq⟩,q⟩:=q1
 subst e
 cases r1
 obtain⟨its,rv,p,hz⟩:=I1.list hq
 refine rz p.isList ?_
 refine⟨s1.heap.objs.size,[s1.heap.objs.size],_,_,H1,rfl,I1.kept (t':=s1.toks) λb o e=>aa _ e,Vh a _,⟨_,aI _ rfl,rfl,rfl⟩,λb hb=>?_,q⟩
 have e:b=s1.heap.objs.size:=by simpa using hb
 subst e
 exact I1.fpOk (aq _) (I1.hok.fresh (aq _))
theorem Q6{l:oZ}{tl:TE}(hl:PE X l tl):PI X tg l (zb3 X.K tl):=by
 intro sI s σ H R I h
 refine thn (hl sI s σ H _ I h) λv s1 ⟨x,H1,I1,r1,q1⟩=>?_
 obtain⟨a,e,⟨xs,hq⟩,q⟩:=q1
 subst e
 cases r1
 obtain⟨its,rv,p,hz⟩:=I1.tuple hq
 refine rX (show s1.heap.IsTuple a its.toArray from p) ?_
 refine⟨s1.heap.objs.size,[s1.heap.objs.size],_,_,H1,rfl,I1.kept (t':=s1.toks) λb o e=>aa _ e,XH a _,⟨_,aI _ rfl,rfl,rfl⟩,λb hb=>?_,q⟩
 have e:b=s1.heap.objs.size:=by simpa using hb
 subst e
 exact I1.fpOk (aq _) (I1.hok.fresh (aq _))
theorem YV{sI:List (oP × pC)}{σ:St}{H:Hp}{s:oR}{R:It->Hp->Prop}{E:oQ->oR->Prop}{lo hi:Int}{t u v:rB}{tk:Nat}(I:Inv X sI σ H s)(h1:-(2 ^ 62)<=lo)(h2:lo<2 ^ 62)(h3:-(2 ^ 62)<=hi)(h4:hi<2 ^ 62)
  (q:R (Itr lo (hi - lo).toNat) H):oS (model X.prog X.w) X.A (pyIter (.ref s.heap.objs.size)) (PIE X sI σ tg R) E { s with heap:=s.heap.push { cls:=.type "range",data:=.fields #[.int lo t,.int hi u,.int 1 v] },toks:=tk }:=by
 refine wpAny_pyIter_range (IsRange.new ..) (small_one h1 h2 h3 h4) ?_
 have I1:Inv X sI σ H { s with heap:=s.heap.push { cls:=.type "range",data:=.fields #[.int lo t,.int hi u,.int 1 v] },toks:=tk }:=I.kept λb o e=>aa _ e
 refine⟨(s.heap.push { cls:=.type "range",data:=.fields #[.int lo t,.int hi u,.int 1 v] }).objs.size,[(s.heap.push { cls:=.type "range",data:=.fields #[.int lo t,.int hi u,.int 1 v] }).objs.size],_,_,H,rfl,
  I1.kept (t':=tk) λb o e=>aa _ e,XU _ lo (hi - lo).toNat,?_,λb hb=>?_,q⟩
 ·have e1:lo+((0:Nat):Int) * 1=lo:=by simp
  have e2:(((hi - lo).toNat:Nat):Int) - ((0:Nat):Int)=Builtin.Range.rangeSize lo hi 1:=by rw[rangeSize_one];split <;> lia
  show IsRangeIter _ _ (lo+((0:Nat):Int) * 1) ((((hi - lo).toNat:Nat):Int) - ((0:Nat):Int)) 1
  rw[e1,e2]
  exact aI _ rfl
 ·have e:b=(s.heap.push { cls:=.type "range",data:=.fields #[.int lo t,.int hi u,.int 1 v] }).objs.size:=by simpa using hb
  subst e
  exact I1.fpOk (aq _) (I1.hok.fresh (aq _))
def Kz(ta:TA):TI:=λσ H R=>ta σ H λvs H1=>∃j:Int,vs=[.int j]/\-(2 ^ 62)<=j/\j<2 ^ 62/\R (Itr 0 j.toNat) H1
def zaw(ta:TA):TI:=λσ H R=>ta σ H λvs H1=>∃i j:Int,vs=[.int i,.int j]/\(-(2 ^ 62)<=i/\i<2 ^ 62/\-(2 ^ 62)<=j/\j<2 ^ 62)/\R (Itr i (j - i).toNat) H1
theorem xo{a:oZ}{ta:TA}{p pos:pR}(hg:Gl X "range")(hm:X.mg "range" = sF)(ha:PA X [a] ta)(hs:oM [a] X.env=[(sH,eval a X.env)]:=by rfl):PI X tg (.Call (.Name "range" p) [a] [] pos) (Kz ta):=by
 intro sI s σ H R I h
 refine Call_ (vd I hg hm boot_range (bB (thn (ha pos sI s σ H _ I h) λus s1 ⟨vs,H1,I1,r1,q1⟩=>?_) hs rfl))
 obtain⟨j,e,q1,q2,q⟩:=q1
 subst e
 cases r1 with
 | cons r rr =>
  cases rr
  obtain⟨t,rfl⟩:=r
  exact call_range_1 (YV I1 (by lia) (by lia) q1 q2 (by simpa using q))
theorem V8{a b:oZ}{ta:TA}{p pos:pR}(hg:Gl X "range")(hm:X.mg "range" = sF)(ha:PA X [a,b] ta)(hs:oM [a,b] X.env=[(sH,eval a X.env),(sH,eval b X.env)]:=by rfl)(hs2:oM [b] X.env=[(sH,eval b X.env)]:=by rfl) :
  PI X tg (.Call (.Name "range" p) [a,b] [] pos) (zaw ta):=by
 intro sI s σ H R I h
 refine Call_ (vd I hg hm boot_range (bB (thn (ha pos sI s σ H _ I h) λus s1 ⟨vs,H1,I1,r1,q1⟩=>?_) (by rw[hs,hs2]) (by rw[hs2];rfl)))
 obtain⟨i,j,e,⟨q1,q2,q3,q4⟩,q⟩:=q1
 subst e
 cases r1 with
 | cons r rr =>
  cases rr with
  | cons r' rr =>
   cases rr
   obtain⟨t,rfl⟩:=r
   obtain⟨t',rfl⟩:=r'
   exact call_range_2 (YV I1 q1 q2 q3 q4 q)
def Qn(wi:TI)(g:TG)(tb:TS):TS:=λD σ H=>wi σ H λJ H1=>∃W:Nat->Nat->St->Hp->Prop,(∃m,W 0 m σ H1)/\∀i m σ H,W i m σ H ->
 (J.stop i H/\D.nx σ H)\/(J.go i H/\∃N:St->Hp->Prop,(∀σ' H',N σ' H'->∃m',m'<m/\W (i+1) m' σ' H')/\∀x H',J.yld i H x H'->g x σ H' λσ2 H2=>tb { D with nx:=N,ct:=N,bk:=D.nx } σ2 H2)
noncomputable def jD(fp:List oP)(h:pb):List (oP × pC):=fp.filterMap λb=>(h.get? b).map λo=>(b,o)
theorem xw{fp:List oP}{h:pb}{b:oP}{o:pC}(hb:b ∈ fp)(e:h.get? b=sE o):(b,o) ∈ jD fp h:=List.mem_filterMap.mpr ⟨b,hb,by rw[e];rfl⟩
theorem VN{fp:List oP}{h:pb}{p:oP × pC}(hp:p ∈ jD fp h):p.1 ∈ fp/\h.get? p.1=sE p.2:=by
 obtain⟨b,hb,e⟩:=List.mem_filterMap.mp hp
 cases q:h.get? b with
 | none=>rw[q] at e;cases e
 | some o =>
  rw[q] at e
  have e':(b,o)=p:=Option.some.inj e
  subst e'
  exact⟨hb,q⟩
theorem Inv.pinned{sI:List (oP × pC)}{σ:St}{H:Hp}{s:oR}{fp:List oP}(I:Inv X sI σ H s)(hf:∀b ∈ fp,xO X sI H b)(ho:∀b ∈ fp,∃o,s.heap.get? b=sE o/\∀v,o.data≠.cell v):Inv X (sI ++ jD fp s.heap) σ H s :=
 I.pins_of λp hp=>(List.mem_append.mp hp).elim (λz=>I.pin p (aC _ z)) λz=>by
  obtain⟨hb,e⟩:=VN z
  obtain⟨f0,f1,f2,_⟩:=hf p.1 hb
  obtain⟨o,e',d⟩:=ho p.1 hb
  rw[e] at e';cases e'
  exact⟨e,f0,f1,f2,d⟩
theorem Inv.unpinned{sI pl:List (oP × pC)}{σ:St}{H:Hp}{s:oR}(I:Inv X (sI ++ pl) σ H s):Inv X sI σ H s:=I.pins_of λp hp=>I.pin p (aC _ (bn _ hp))
theorem yA{iter:oZ}{body:List pf}{wi:TI}{g:TG}{tb:TS}{pos:pR}(hp:PassesOwn (model X.prog X.w) X.A X.env X.xe)(hc:X.calm=sG)(hi:PI X tg iter wi)(hg:PG X tg g)(hb:PSs X body tb)
  (hs:∀x,foldedSetIterable iter X.env x=pure x:=by intro _;rfl):PS X (.For tg iter body [] pos) (Qn wi g tb):=by
 intro sI s σ H D I h
 refine wpAny_For (thn (hi sI s σ H _ I h) λv s1 h1=>thn h1 λitv s2 h2=>?_) hs
 obtain⟨it,fp,tn,J,H2,e,I2,T,st2,f2,W,⟨m0,w0⟩,turn⟩:=h2
 subst e
 have stat:∀{H':Hp},(∀b ∈ fp,H' b=sF)->∀b ∈ fp,xO X sI H' b:=λhn b hb=>⟨hn b hb,(f2 b hb).2⟩
 refine codeAny_forLoop_any (λn s'=>∃i σ' H',Inv X sI σ' H' s'/\tn i s'.heap/\(∀b ∈ fp,H' b=sF)/\W i n σ' H') ?_ m0 ⟨0,σ,H2,I2,st2,λb hb=>(f2 b hb).1,w0⟩
 rintro n s3 ⟨i,σ3,H3,I3,st3,fr3,w3⟩
 rcases turn i n σ3 H3 w3 with ⟨stop,qn⟩ | ⟨go,N,hN,step⟩
 ·refine pL hp (thn (T.done X rfl rfl rfl hc i sI s3 σ3 H3 X.xe I3 (stat fr3) st3 stop) λr s4 ⟨hr,I4⟩=>?_)
  subst hr
  exact pQ ⟨σ3,H3,I4,qn⟩
 ·refine pL hp (thn (T.item X rfl rfl rfl hc i sI s3 σ3 H3 X.xe I3 (stat fr3) st3 go) λr s4 ⟨u,hr,h4⟩=>?_)
  subst hr
  refine pL hp (thn h4 λ_ s5 ⟨x,H5,I5,r5,y5,st5,fr5⟩=>?_)
  have I5':=I5.pinned (stat fr5) (T.obj _ _ st5)
  refine pL hp (thn (hg _ s5 σ3 H5 x u _ I5' r5 (step x H5 y5)) λ_ s6 ⟨σ6,H6,I6,q6⟩=>?_)
  refine pL hp (thn (hb _ s6 σ6 H6 _ I6 q6) λf s7 q7=>?_)
  have again:∀{σ7:St} {H7:Hp},Inv X (sI ++ jD fp s5.heap) σ7 H7 s7->N σ7 H7->∃m,m<n/\∃i σ' H',Inv X sI σ' H' s7/\tn i s7.heap/\(∀b ∈ fp,H' b=sF)/\W i m σ' H':=λ{σ7 H7} I7 n7=>by
   obtain⟨m',hm,w7⟩:=hN σ7 H7 n7
   refine⟨m',hm,i+1,σ7,H7,I7.unpinned,T.keep _ _ _ st5 λb hb o e=>(I7.pin (b,o) (aC _ (aC _ (xw hb e)))).1,λb hb=>?_,w7⟩
   obtain⟨o,e,d⟩:=T.obj _ _ st5 b hb
   exact (I7.pin (b,o) (aC _ (aC _ (xw hb e)))).2.1
  cases f with
  | next=>obtain⟨σ7,H7,I7,n7⟩:=q7;exact again I7 n7
  | cont=>obtain⟨σ7,H7,I7,n7⟩:=q7;exact again I7 n7
  | brk=>obtain⟨σ7,H7,I7,q7⟩:=q7;exact⟨σ7,H7,I7.unpinned,q7⟩
  | ret v=>obtain⟨x7,σ7,H7,I7,r7,q7⟩:=q7;exact⟨x7,σ7,H7,I7.unpinned,r7,q7⟩
end
theorem UG{K:oO}{a:oP}{xs:List V}{g:TG}{tb:TS}{D:vh}{σ:St}{H:Hp}(Pv:Nat->St->Hp->Prop)(h0:Pv 0 σ H)(hl:∀i σ H,i<=xs.length->Pv i σ H->SqL K H a xs)
  (hs:∀i x σ H,xs[i]? = sE x->Pv i σ H->g x σ H λσ2 H2=>tb { D with nx:=Pv (i+1),ct:=Pv (i+1),bk:=D.nx } σ2 H2) (hd:∀σ H,Pv xs.length σ H->D.nx σ H) :
  ∃W:Nat->Nat->St->Hp->Prop,(∃m,W 0 m σ H)/\∀i m σ H,W i m σ H ->
   ((Itl K a).stop i H/\D.nx σ H)\/((Itl K a).go i H/\∃N:St->Hp->Prop,(∀σ' H',N σ' H'->∃m',m'<m/\W (i+1) m' σ' H')/\∀x H',(Itl K a).yld i H x H'->g x σ H' λσ2 H2=>tb { D with nx:=N,ct:=N,bk:=D.nx } σ2 H2):=by
 refine⟨λi m σ H=>m=xs.length - i/\i<=xs.length/\Pv i σ H,⟨xs.length,by simp,aJ _,h0⟩,?_⟩
 rintro i m σ H ⟨rfl,hi,p⟩
 have q:=hl i σ H hi p
 by_cases hlt:i<xs.length
 ·refine .inr ⟨⟨xs,xs[i],q,by simp [hlt]⟩,Pv (i+1),λσ' H' p'=>⟨xs.length - (i+1),by lia,rfl,hlt,p'⟩,λx H' y=>?_⟩
  obtain⟨e,y⟩:=y
  subst e
  exact hs i x σ _ (y xs q) p
 ·have e:i=xs.length:=by lia
  subst e
  exact .inl ⟨⟨xs,q,aq _⟩,hd σ H p⟩
theorem Jr{K:oO}{a:oP}{xs:List V}{g:TG}{tb:TS}{D:vh}{σ:St}{H:Hp}(Pv:Nat->St->Hp->Prop)(h0:Pv 0 σ H)(hl:∀i σ H,i<=xs.length->Pv i σ H->SqT K H a xs)
  (hs:∀i x σ H,xs[i]? = sE x->Pv i σ H->g x σ H λσ2 H2=>tb { D with nx:=Pv (i+1),ct:=Pv (i+1),bk:=D.nx } σ2 H2) (hd:∀σ H,Pv xs.length σ H->D.nx σ H) :
  ∃W:Nat->Nat->St->Hp->Prop,(∃m,W 0 m σ H)/\∀i m σ H,W i m σ H ->
   ((Itt K a).stop i H/\D.nx σ H)\/((Itt K a).go i H/\∃N:St->Hp->Prop,(∀σ' H',N σ' H'->∃m',m'<m/\W (i+1) m' σ' H')/\∀x H',(Itt K a).yld i H x H'->g x σ H' λσ2 H2=>tb { D with nx:=N,ct:=N,bk:=D.nx } σ2 H2):=by
 refine⟨λi m σ H=>m=xs.length - i/\i<=xs.length/\Pv i σ H,⟨xs.length,by simp,aJ _,h0⟩,?_⟩
 rintro i m σ H ⟨rfl,hi,p⟩
 have q:=hl i σ H hi p
 by_cases hlt:i<xs.length
 ·refine .inr ⟨⟨xs,xs[i],q,by simp [hlt]⟩,Pv (i+1),λσ' H' p'=>⟨xs.length - (i+1),by lia,rfl,hlt,p'⟩,λx H' y=>?_⟩
  obtain⟨e,y⟩:=y
  subst e
  exact hs i x σ _ (y xs q) p
 ·have e:i=xs.length:=by lia
  subst e
  exact .inl ⟨⟨xs,q,aq _⟩,hd σ H p⟩
theorem VP{lo:Int}{n:Nat}{g:TG}{tb:TS}{D:vh}{σ:St}{H:Hp}(Pv:Nat->St->Hp->Prop)(h0:Pv 0 σ H)
  (hs:∀i σ H,i<n->Pv i σ H->g (.int (lo+i)) σ H λσ2 H2=>tb { D with nx:=Pv (i+1),ct:=Pv (i+1),bk:=D.nx } σ2 H2) (hd:∀σ H,Pv n σ H->D.nx σ H) :
  ∃W:Nat->Nat->St->Hp->Prop,(∃m,W 0 m σ H)/\∀i m σ H,W i m σ H ->
   ((Itr lo n).stop i H/\D.nx σ H)\/((Itr lo n).go i H/\∃N:St->Hp->Prop,(∀σ' H',N σ' H'->∃m',m'<m/\W (i+1) m' σ' H')/\∀x H',(Itr lo n).yld i H x H'->g x σ H' λσ2 H2=>tb { D with nx:=N,ct:=N,bk:=D.nx } σ2 H2):=by
 refine⟨λi m σ H=>m=n - i/\i<=n/\Pv i σ H,⟨n,by simp,aJ _,h0⟩,?_⟩
 rintro i m σ H ⟨rfl,hi,p⟩
 by_cases hlt:i<n
 ·refine .inr ⟨hlt,Pv (i+1),λσ' H' p'=>⟨n - (i+1),by lia,rfl,hlt,p'⟩,λx H' y=>?_⟩
  obtain⟨e,y⟩:=y
  subst e y
  exact hs i σ _ hlt p
 ·have e:i=n:=by lia
  subst e
  exact .inl ⟨aq _,hd σ H p⟩
end L2
namespace L2
noncomputable abbrev R2:=V->V->Hp->VK->Prop
def OpR(X:Cx)(f:oQ->oQ->sw oQ)(r:R2):Prop :=
 ∀(sI:List (oP × pC)) (s:oR) (σ:St) (H:Hp) (x y:V) (v u:oQ) (Q:VK),Inv X sI σ H s->RelV x v->RelV y u->r x y H Q ->
  oS (model X.prog X.w) X.A (f v u) (EP X sI σ Q) X.xe s
def UnR(X:Cx)(f:oQ->sw oQ)(r:V->Hp->VK->Prop):Prop :=
 ∀(sI:List (oP × pC)) (s:oR) (σ:St) (H:Hp) (x:V) (v:oQ) (Q:VK),Inv X sI σ H s->RelV x v->r x H Q ->
  oS (model X.prog X.w) X.A (f v) (EP X sI σ Q) X.xe s
def vR(X:Cx)(f:oQ)(r:List V->Hp->VK->Prop):Prop :=
 ∀(sI:List (oP × pC)) (s:oR) (σ:St) (H:Hp) (xs:List V) (us:List oQ) (Q:VK),Inv X sI σ H s->Vals xs us->r xs H Q ->
  oS (model X.prog X.w) X.A (call f us) (EP X sI σ Q) X.xe s
def zc9(X:Cx)(r:V->Hp->(Bool->Hp->Prop)->Prop):Prop :=
 ∀(sI:List (oP × pC)) (s:oR) (σ:St) (H:Hp) (x:V) (v:oQ) (Q:Bool->Hp->Prop),Inv X sI σ H s->RelV x v->r x H Q ->
  oS (model X.prog X.w) X.A (truthy v) (TP X sI σ Q) X.xe s
def tOp(r:R2)(ta tb:TE):TE:=λσ H Q=>ta σ H λx H1=>tb σ H1 λy H2=>r x y H2 Q
def tUn(r:V->Hp->VK->Prop)(ta:TE):TE:=λσ H Q=>ta σ H λx H1=>r x H1 Q
def rI(C:Int->Int->Prop)(g:Int->Int->V):R2:=λx y H Q=>∃i j,x=.int i/\y=.int j/\C i j/\Q (g i j) H
def rI0(g:Int->Int->V):R2:=λx y H Q=>∃i j,x=.int i/\y=.int j/\Q (g i j) H
def rU(g:Int->V):V->Hp->VK->Prop:=λx H Q=>∃i,x=.int i/\Q (g i) H
section
variable{X:Cx}{a b c:oZ}{ta tb tc:TE}{pos:pR}
theorem zcn(ha:PE X a ta)(hb:PE X b tb){sI:List (oP × pC)}{s:oR}{σ:St}{H:Hp}{R:V->V->Hp->Prop}(I:Inv X sI σ H s)
  (h:ta σ H λx H1=>tb σ H1 λy H2=>R x y H2) {Q:oQ->oR->Prop} {f:oQ->oQ->sw oQ}
  (hf:∀v u s2 x y H2,Inv X sI σ H2 s2->RelV x v->RelV y u->R x y H2->oS (model X.prog X.w) X.A (f v u) Q X.xe s2) :
  oS (model X.prog X.w) X.A (eval a X.env) (λv s₁=>oS (model X.prog X.w) X.A (eval b X.env) (λu s₂=>oS (model X.prog X.w) X.A (f v u) Q X.xe s₂) X.xe s₁) X.xe s:=by
 refine thn (ha sI s σ H _ I h) λv s1 ⟨x,H1,I1,r1,q1⟩=>?_
 refine thn (hb sI s1 σ H1 _ I1 q1) λu s2 ⟨y,H2,I2,r2,q2⟩=>?_
 exact hf v u s2 x y H2 I2 r1 r2 q2
theorem zE{op:Operator}{r:R2}(ho:OpR X (binaryOp op) r)(ha:PE X a ta)(hb:PE X b tb):PE X (.BinOp a op b pos) (tOp r ta tb):=by
 intro sI s σ H Q I h
 exact wpAny_BinOp (zcn ha hb I h λv u s2 x y H2 I2 rx ry q=>ho sI s2 σ H2 x y v u Q I2 rx ry q)
theorem zb6{op:UnaryOp}{r:V->Hp->VK->Prop}(ho:UnR X (unaryOp op) r)(ha:PE X a ta):PE X (.UnaryOp op a pos) (tUn r ta):=by
 intro sI s σ H Q I h
 exact UnaryOp_ (thn (ha sI s σ H _ I h) λv s1 ⟨x,H1,I1,r1,q1⟩=>ho sI s1 σ H1 x v Q I1 r1 q1)
theorem opI{f:oQ->oQ->sw oQ}{C:Int->Int->Prop}{g:Int->Int->Int}
  (rule:∀(i j:Int) (t u:rB) (s:oR) (Q:oQ->oR->Prop) (E:oQ->oR->Prop),C i j->Q (.int (g i j) s.toks) { s with toks:=s.toks+1 }->oS (model X.prog X.w) X.A (f (.int i t) (.int j u)) Q E s) :
  OpR X f (rI C λi j=>.int (g i j)):=by
 intro sI s σ H x y v u Q I rx ry h
 obtain⟨i,j,rfl,rfl,hc,q⟩:=h
 obtain⟨t,rfl⟩:=rx
 obtain⟨t',rfl⟩:=ry
 exact rule i j t t' s _ _ hc ⟨.int (g i j),H,I.tok _,⟨_,rfl⟩,q⟩
theorem zcS{f:oQ->oQ->sw oQ}{g:Int->Int->Int}
  (rule:∀(i j:Int) (t u:rB) (s:oR) (Q:oQ->oR->Prop) (E:oQ->oR->Prop),Q (.int (g i j) s.toks) { s with toks:=s.toks+1 }->oS (model X.prog X.w) X.A (f (.int i t) (.int j u)) Q E s) :
  OpR X f (rI0 λi j=>.int (g i j)):=by
 intro sI s σ H x y v u Q I rx ry h
 obtain⟨i,j,rfl,rfl,q⟩:=h
 obtain⟨t,rfl⟩:=rx
 obtain⟨t',rfl⟩:=ry
 exact rule i j t t' s _ _ ⟨.int (g i j),H,I.tok _,⟨_,rfl⟩,q⟩
theorem zbo{f:oQ->oQ->sw oQ}{g:Int->Int->Bool}
  (rule:∀(i j:Int) (t u:rB) (s:oR) (Q:oQ->oR->Prop) (E:oQ->oR->Prop),Q (.bool (g i j)) s->oS (model X.prog X.w) X.A (f (.int i t) (.int j u)) Q E s) :
  OpR X f (rI0 λi j=>.bl (g i j)):=by
 intro sI s σ H x y v u Q I rx ry h
 obtain⟨i,j,rfl,rfl,q⟩:=h
 obtain⟨t,rfl⟩:=rx
 obtain⟨t',rfl⟩:=ry
 exact rule i j t t' s _ _ ⟨.bl (g i j),H,I,rfl,q⟩
def zc7(i j:Int):Prop:=0<j/\j<1073741824
def zcg(i j:Int):Prop:=0<=j/\j<=1000000/\i.natAbs<2 ^ 64
def CMul(i j:Int):Prop:=(-(2 ^ 64)<i/\i<2 ^ 64)\/(-(2 ^ 64)<j/\j<2 ^ 64)
theorem CMul.ok{i j:Int}(h:CMul i j):IntMulOk i j:=by
 rcases h with ⟨h1,h2⟩ | ⟨h1,h2⟩
 ·exact .of_left (intBits_le_64 h1 h2)
 ·exact .of_right (intBits_le_64 h1 h2)
theorem op_add:OpR X (binaryOp .Add) (rI0 λi j=>.int (i+j)):=zcS λ_ _ _ _ _ _ _ q=>add_int q
theorem uF:OpR X (binaryOp .Sub) (rI0 λi j=>.int (i - j)):=zcS λ_ _ _ _ _ _ _ q=>sub_int q
theorem op_mul:OpR X (binaryOp .Mult) (rI CMul λi j=>.int (i * j)):=opI λ_ _ _ _ _ _ _ hc q=>mul_int q hc.ok
theorem wG:OpR X (binaryOp .FloorDiv) (rI zc7 λi j=>.int (i / j)):=opI λi j _ _ _ _ _ hc q=>by
 have h1:(0:Int)<j:=hc.1
 have h2:j<1073741824:=hc.2
 exact floordiv_int (by lia) (by rw[Int.fdiv_eq_ediv_of_nonneg i (by lia)];exact q) (.inl (PyProof.noPylong_small (by lia)))
theorem xL:OpR X (binaryOp .Mod) (rI (λ_ j=>0<j) λi j=>.int (i % j)):=opI λi j _ _ _ _ _ hc q=>by
 have h1:(0:Int)<j:=hc
 exact mod_int' (by lia) (by rw[Int.fmod_eq_emod_of_nonneg i (by lia)];exact q)
theorem WU:OpR X (binaryOp .Pow) (rI zcg λi j=>.int (i ^ j.toNat)):=opI λ_ _ _ _ _ _ _ hc q=>pow_int_small hc.1 hc.2.1 hc.2.2 q
theorem unI{f:oQ->sw oQ}{g:Int->Int}
  (rule:∀(i:Int) (t:rB) (s:oR) (Q:oQ->oR->Prop) (E:oQ->oR->Prop),Q (.int (g i) s.toks) { s with toks:=s.toks+1 }->oS (model X.prog X.w) X.A (f (.int i t)) Q E s) :
  UnR X f (rU λi=>.int (g i)):=by
 intro sI s σ H x v Q I rx h
 obtain⟨i,rfl,q⟩:=h
 obtain⟨t,rfl⟩:=rx
 exact rule i t s _ _ ⟨.int (g i),H,I.tok _,⟨_,rfl⟩,q⟩
theorem zbb:UnR X (unaryOp .USub) (rU λi=>.int (-i)):=unI λ_ _ _ _ _ q=>neg_int q
end
noncomputable def Kt:V->V->Bool
 | .non,.non=>sG | .non,.int _=>sG | .int _,.non=>sG | .non,.bl _=>sG | .bl _,.non=>sG | .non,.str _=>sG | .str _,.non=>sG
 | .int _,.int _=>sG | .bl _,.bl _=>sG | .str _,.str _=>sG | .byt _,.byt _=>sG
 | .int _,.str _=>sG | .str _,.int _=>sG | .bl _,.str _=>sG | .str _,.bl _=>sG
 | _,_=>sH
def rEq:R2:=λx y H Q=>Kt x y=sG/\Q (.bl (decide (x=y))) H
def rNe:R2:=λx y H Q=>Kt x y=sG/\Q (.bl (!decide (x=y))) H
theorem Vy{i j:Int}:decide (V.int i=V.int j)=(i == j):=by
 rw[da]
 simp
theorem Jg{i j:Bool}:decide (V.bl i=V.bl j)=(i == j):=by
 rw[da]
 simp
theorem Wy{i j:oW}:decide (V.str i=V.str j)=(i == j):=by
 rw[da]
 simp
theorem VM{i j:Array UInt8}:decide (V.byt i=V.byt j)=(i.toList == j.toList):=by
 rw[da]
 cases i
 cases j
 simp
section
variable{X:Cx}{a b c:oZ}{ta tb tc:TE}{pos:pR}
theorem zS{sI:List (oP × pC)}{σ:St}{H:Hp}{s:oR}{Q:VK}{k k':Bool}(I:Inv X sI σ H s)(q:Q (.bl k) H)(e:k=k'):EP X sI σ Q (.bool k') s:=by
 subst e
 exact⟨.bl k,H,I,rfl,q⟩
theorem uL:OpR X (pc .Eq) rEq:=by
 intro sI s σ H x y v u Q I rx ry h
 obtain⟨hs,q⟩:=h
 cases x with
 | non =>
  cases rx
  cases y with
  | non=>cases ry;exact PySem.EqNone.eq_none_none (zS I q (by simp))
  | bl j=>cases ry;exact PySem.EqNone.eq_none_bool (zS I q (by simp))
  | int j=>obtain⟨t',rfl⟩:=ry;exact PySem.EqNone.eq_none_int (zS I q (by simp))
  | str j=>obtain⟨t',rfl⟩:=ry;exact PySem.EqNone.eq_none_str (zS I q (by simp))
  | _=>exact absurd (show sH=sG from hs) aG
 | bl i =>
  cases rx
  cases y with
  | non=>cases ry;exact PySem.EqNone.eq_bool_none (zS I q (by simp))
  | bl j=>cases ry;exact eq_bool (zS I q Jg)
  | str j=>obtain⟨t',rfl⟩:=ry;exact PySem.EqMixed.eq_bool_str (zS I q (by simp))
  | _=>exact absurd (show sH=sG from hs) aG
 | int i =>
  obtain⟨t,rfl⟩:=rx
  cases y with
  | non=>cases ry;exact PySem.EqNone.eq_int_none (zS I q (by simp))
  | int j=>obtain⟨t',rfl⟩:=ry;exact eq_int (zS I q Vy)
  | str j=>obtain⟨t',rfl⟩:=ry;exact PySem.EqMixed.eq_int_str (zS I q (by simp))
  | _=>exact absurd (show sH=sG from hs) aG
 | str i =>
  obtain⟨t,rfl⟩:=rx
  cases y with
  | non=>cases ry;exact PySem.EqNone.eq_str_none (zS I q (by simp))
  | bl j=>cases ry;exact PySem.EqMixed.eq_str_bool (zS I q (by simp))
  | int j=>obtain⟨t',rfl⟩:=ry;exact PySem.EqMixed.eq_str_int (zS I q (by simp))
  | str j=>obtain⟨t',rfl⟩:=ry;exact eq_str (zS I q Wy)
  | _=>exact absurd (show sH=sG from hs) aG
 | byt i =>
  obtain⟨t,rfl⟩:=rx
  cases y with
  | byt j=>obtain⟨t',rfl⟩:=ry;exact PySem.W.eq_bytes (zS I q VM)
  | _=>exact absurd (show sH=sG from hs) aG
 | _=>cases y <;> exact absurd (show sH=sG from hs) aG
theorem XR:OpR X (pc .NotEq) rNe:=by
 intro sI s σ H x y v u Q I rx ry h
 obtain⟨hs,q⟩:=h
 cases x with
 | non =>
  cases rx
  cases y with
  | non=>cases ry;exact PySem.EqNone.ne_none_none (zS I q (by simp))
  | bl j=>cases ry;exact PySem.EqNone.ne_none_bool (zS I q (by simp))
  | int j=>obtain⟨t',rfl⟩:=ry;exact PySem.EqNone.ne_none_int (zS I q (by simp))
  | str j=>obtain⟨t',rfl⟩:=ry;exact PySem.EqNone.ne_none_str (zS I q (by simp))
  | _=>exact absurd (show sH=sG from hs) aG
 | bl i =>
  cases rx
  cases y with
  | non=>cases ry;exact PySem.EqNone.ne_bool_none (zS I q (by simp))
  | bl j=>cases ry;exact ne_bool (zS I q (congrArg not Jg))
  | str j=>obtain⟨t',rfl⟩:=ry;exact PySem.EqMixed.ne_bool_str (zS I q (by simp))
  | _=>exact absurd (show sH=sG from hs) aG
 | int i =>
  obtain⟨t,rfl⟩:=rx
  cases y with
  | non=>cases ry;exact PySem.EqNone.ne_int_none (zS I q (by simp))
  | int j=>obtain⟨t',rfl⟩:=ry;exact ne_int (zS I q (congrArg not Vy))
  | str j=>obtain⟨t',rfl⟩:=ry;exact PySem.EqMixed.ne_int_str (zS I q (by simp))
  | _=>exact absurd (show sH=sG from hs) aG
 | str i =>
  obtain⟨t,rfl⟩:=rx
  cases y with
  | non=>cases ry;exact PySem.EqNone.ne_str_none (zS I q (by simp))
  | bl j=>cases ry;exact PySem.EqMixed.ne_str_bool (zS I q (by simp))
  | int j=>obtain⟨t',rfl⟩:=ry;exact PySem.EqMixed.ne_str_int (zS I q (by simp))
  | str j=>obtain⟨t',rfl⟩:=ry;exact ne_str (zS I q (congrArg not Wy))
  | _=>exact absurd (show sH=sG from hs) aG
 | byt i =>
  obtain⟨t,rfl⟩:=rx
  cases y with
  | byt j=>obtain⟨t',rfl⟩:=ry;exact PySem.W.ne_bytes (zS I q (congrArg not VM))
  | _=>exact absurd (show sH=sG from hs) aG
 | _=>cases y <;> exact absurd (show sH=sG from hs) aG
theorem za8:OpR X (pc .Lt) (rI0 λi j=>.bl (decide (i<j))):=zbo λ_ _ _ _ _ _ _ q=>lt_int q
theorem op_le:OpR X (pc .LtE) (rI0 λi j=>.bl (decide (i<=j))):=zbo λ_ _ _ _ _ _ _ q=>le_int q
theorem op_gt:OpR X (pc .Gt) (rI0 λi j=>.bl (decide (j<i))):=zbo λ_ _ _ _ _ _ _ q=>gt_int q
theorem zbI:OpR X (pc .GtE) (rI0 λi j=>.bl (decide (j<=i))):=zbo λ_ _ _ _ _ _ _ q=>ge_int q
theorem zbm:OpR X (pc .Is) (λx y H Q=>y=.non/\Q (.bl (decide (x=.non))) H):=by
 intro sI s σ H x y v u Q I rx ry h
 obtain⟨rfl,q⟩:=h
 cases ry
 refine is_none_gen (zS I q ?_)
 cases x <;> first
  | (cases rx;rfl)
  | (obtain⟨t,rfl⟩:=rx;rfl)
theorem Jk:OpR X (pc .IsNot) (λx y H Q=>y=.non/\Q (.bl (!decide (x=.non))) H):=by
 intro sI s σ H x y v u Q I rx ry h
 obtain⟨rfl,q⟩:=h
 cases ry
 refine isnot_none_gen (zS I q ?_)
 cases x <;> first
  | (cases rx;rfl)
  | (obtain⟨t,rfl⟩:=rx;rfl)
theorem ZD:OpR X (pc .NotIn) (λx y H Q=>∃i j,x=.str i/\y=.str j/\Q (.bl (!(!(Builtin.Str.occurrences j i 0 j.length 1).isEmpty))) H):=by
 intro sI s σ H x y v u Q I rx ry h
 obtain⟨i,j,rfl,rfl,q⟩:=h
 obtain⟨t,rfl⟩:=rx
 obtain⟨t',rfl⟩:=ry
 exact notIn_str (zS I q rfl)
theorem OpR.or{f:oQ->oQ->sw oQ}{r r':R2}(h:OpR X f r)(h':OpR X f r'):OpR X f (λx y H Q=>r x y H Q\/r' x y H Q):=by
 intro sI s σ H x y v u Q I rx ry q
 rcases q with q | q
 ·exact h sI s σ H x y v u Q I rx ry q
 ·exact h' sI s σ H x y v u Q I rx ry q
theorem zL(b:oZ){op:CmpOp}(h:op≠.In:=by decide)(h2:op≠.NotIn:=by decide):behindInMarks op b=sH:=by
 have e1:(op == CmpOp.In)=sH:=by cases op <;> first | rfl | exact absurd rfl h
 have e2:(op == CmpOp.NotIn)=sH:=by cases op <;> first | rfl | exact absurd rfl h2
 cases b <;> simp [behindInMarks,e1,e2]
theorem vv{op:CmpOp}{r:R2}(ho:OpR X (pc op) r)(ha:PE X a ta)(hb:PE X b tb)(hm:behindInMarks op b=sH):PE X (.Compare a [op] [b] pos) (tOp r ta tb):=by
 intro sI s σ H Q I h
 exact wpAny_Compare1 (zcn ha hb I h λv u s2 x y H2 I2 rx ry q=>ho sI s2 σ H2 x y v u Q I2 rx ry q) hm
def JC(t:TE):TT:=λσ H Q=>t σ H λx H'=>∃k,x=.bl k/\Q k H'
theorem zI{op:CmpOp}{r:R2}(ho:OpR X (pc op) r)(ha:PE X a ta)(hb:PE X b tb)(hm:behindInMarks op b=sH):PT X (.Compare a [op] [b] pos) (JC (tOp r ta tb)):=by
 intro sI s σ H Q I h
 refine wpAny_isTrue_Compare1 (thn (ha sI s σ H _ I h) λv s1 ⟨x,H1,I1,r1,q1⟩=>thn (hb sI s1 σ H1 _ I1 q1) λu s2 ⟨y,H2,I2,r2,q2⟩ =>
  thn (ho sI s2 σ H2 x y v u _ I2 r1 r2 q2) λc s3 ⟨z,H3,I3,r3,k,e,q3⟩=>?_) hm
 subst e
 cases r3
 exact pA ⟨H3,I3,q3⟩
def Wq(r r':R2)(ta tb tc:TE):TE:=λσ H Q=>ta σ H λx H1=>tb σ H1 λy H2=>r x y H2 λz H3=>∃k,z=.bl k /\
 (if k=sG then tc σ H3 λw' H4=>r' y w' H4 Q else Q (.bl sH) H3)
theorem Ql{op op':CmpOp}{r r':R2}(ho:OpR X (pc op) r)(ho':OpR X (pc op') r')(ha:PE X a ta)(hb:PE X b tb)(hc:PE X c tc)
  (hm:lastMarks [op,op'] [b,c]=sH:=by with_unfolding_all rfl):PE X (.Compare a [op,op'] [b,c] pos) (Wq r r' ta tb tc):=by
 intro sI s σ H Q I h
 refine Compare_chain (thn (ha sI s σ H _ I h) λv s1 ⟨x,H1,I1,r1,q1⟩=>chain_link (thn (hb sI s1 σ H1 _ I1 q1) λu s2 ⟨y,H2,I2,r2,q2⟩ =>
  thn (ho sI s2 σ H2 x y v u _ I2 r1 r2 q2) λd s3 ⟨z,H3,I3,r3,k,e,q3⟩=>?_)) hm
 subst e
 cases r3
 refine pA ?_
 cases k with
 | false=>exact ite_ff ⟨.bl sH,H3,I3,rfl,q3⟩
 | true=>exact ite_tt (chain_last (thn (hc sI s3 σ H3 _ I3 q3) λw' s4 ⟨z',H4,I4,r4,q4⟩=>ho' sI s4 σ H4 y z' u w' Q I4 r2 r4 q4))
theorem ky{op op':CmpOp}{r r':R2}(ho:OpR X (pc op) r)(ho':OpR X (pc op') r')(ha:PE X a ta)(hb:PE X b tb)(hc:PE X c tc)
  (hm:lastMarks [op,op'] [b,c]=sH:=by with_unfolding_all rfl):PT X (.Compare a [op,op'] [b,c] pos) (JC (Wq r r' ta tb tc)):=by
 intro sI s σ H Q I h
 refine isTrue_chain (thn (ha sI s σ H _ I h) λv s1 ⟨x,H1,I1,r1,q1⟩=>test_link (thn (hb sI s1 σ H1 _ I1 q1) λu s2 ⟨y,H2,I2,r2,q2⟩ =>
  thn (ho sI s2 σ H2 x y v u _ I2 r1 r2 q2) λd s3 ⟨z,H3,I3,r3,k,e,q3⟩=>?_)) hm
 subst e
 cases r3
 refine pA ?_
 cases k with
 | false =>
  obtain⟨k',e',q'⟩:=q3
  cases e'
  exact ite_ff ⟨H3,I3,q'⟩
 | true =>
  refine ite_tt (test_last (thn (hc sI s3 σ H3 _ I3 q3) λw' s4 ⟨z',H4,I4,r4,q4⟩=>thn (ho' sI s4 σ H4 y z' u w' _ I4 r2 r4 q4) λd' s5 ⟨z2,H5,I5,r5,k2,e2,q5⟩=>?_))
  subst e2
  cases r5
  exact pA ⟨H5,I5,q5⟩
def K1(K:oO)(x:V)(H:Hp)(k:Bool):Prop :=
 match x with
 | .non=>k=sH
 | .bl b=>k=b
 | .int i=>k=(i != 0)
 | .str y=>y.length<=oN/\k=((y.length:Int) != 0)
 | .byt y=>y.size<=oN/\k=((y.size:Int) != 0)
 | .ref p=>(∃xs,SqL K H p xs/\k=!xs.isEmpty)\/(∃xs,SqT K H p xs/\k=!xs.isEmpty)\/∃kvs,H p=sE (.dK kvs)/\k=!kvs.isEmpty
 | _=>False
theorem Xz{κ:Type}{kvs:List (κ × V)}{vs:List (κ × oQ)}(r:KV kvs vs):(!vs.isEmpty)=!kvs.isEmpty:=by
 cases r <;> rfl
theorem jK{xs:List V}{its:List oQ}(r:Vals xs its):(!its.toArray.isEmpty)=!xs.isEmpty:=by
 cases r <;> simp
theorem Zj:(oN:Nat)<2 ^ 63:=by rw[pz];decide
theorem Q4:zc9 X (λx H Q=>∃k,K1 X.K x H k/\Q k H):=by
 intro sI s σ H x v Q I rx h
 obtain⟨k,e,q⟩:=h
 have hl:=Zj
 have hs:oN=16777216:=pz
 cases x with
 | non =>
  cases rx
  have e':k=sH:=e
  subst e'
  exact truthy_none ⟨H,I,q⟩
 | bl b =>
  cases rx
  have e':k=b:=e
  subst e'
  exact pA ⟨H,I,q⟩
 | int i =>
  obtain⟨t,rfl⟩:=rx
  have e':k=(i != 0):=e
  subst e'
  exact PySem.P.truthy_int ⟨H,I,q⟩
 | str y =>
  obtain⟨t,rfl⟩:=rx
  obtain⟨hy,e'⟩:y.length<=oN/\k=((y.length:Int) != 0):=e
  subst e'
  exact PySem.P.truthy_str (by lia) ⟨H,I.tok _,q⟩
 | byt y =>
  obtain⟨t,rfl⟩:=rx
  obtain⟨hy,e'⟩:y.size<=oN/\k=((y.size:Int) != 0):=e
  subst e'
  exact PySem.W.truthy_bytes (by lia) ⟨H,I.tok _,q⟩
 | ref p =>
  cases rx
  have e':(∃xs,SqL X.K H p xs/\k=!xs.isEmpty)\/(∃xs,SqT X.K H p xs/\k=!xs.isEmpty)\/∃kvs,H p=sE (.dK kvs)/\k=!kvs.isEmpty:=e
  rcases e' with ⟨xs,hx,e'⟩ | ⟨xs,hx,e'⟩ | ⟨kvs,hx,e'⟩
  ·subst e'
   obtain⟨its,r,pl,hz⟩:=I.list hx
   have hlen:=r.length
   exact wpAny_truthy_list pl.isList (by simp only[au];lia) ⟨H,I.tok _,by rw[jK r];exact q⟩
  ·subst e'
   obtain⟨its,r,pl,hz⟩:=I.tuple hx
   have hlen:=r.length
   exact truthy_tuple pl (by simp only[au];lia) ⟨H,I.tok _,by rw[jK r];exact q⟩
  ·subst e'
   obtain⟨hz,hS,vs,r,m⟩:kvs.length<=oN/\(p == sysModules)=sH/\∃vs,KV kvs vs/\s.heap.DictOf (Yc X.prog X.w) p vs:=I.hok p _ hx
   have hlen:kvs.length=vs.length:=Paired.length r
   exact wpAny_truthy_dict hS m (by lia) ⟨H,I.tok _,by rw[Xz r];exact q⟩
 | _=>exact (show False from e).elim
theorem Xl(ha:PE X a ta)(he:∀whole,isTrue a X.env whole=(do let v <- whole;standAt a.pos;holding [v] (truthy v))) :
  PT X a (λσ H Q=>ta σ H λx H'=>∃k,K1 X.K x H' k/\Q k H'):=by
 intro sI s σ H Q I h
 exact isTrue_plain (thn (ha sI s σ H _ I h) λv s1 ⟨x,H1,I1,r1,q1⟩=>Q4 sI s1 σ H1 x v Q I1 r1 q1) (he _)
theorem op_add_str:OpR X (binaryOp .Add) (λx y H Q=>∃i j,x=.str i/\y=.str j/\i.length+j.length<=oN/\Q (.str (i ++ j)) H):=by
 intro sI s σ H x y v u Q I rx ry h
 obtain⟨i,j,rfl,rfl,hz,q⟩:=h
 obtain⟨t,rfl⟩:=rx
 obtain⟨t',rfl⟩:=ry
 exact add_str (λt' tk=>⟨.str (i ++ j),H,I.tok _,⟨_,rfl⟩,q⟩) hz
theorem wP{x:V}{us:List oQ}(r:Vals [x] us):∃u,us=[u]/\RelV x u:=by
 cases r with
 | cons r1 r2=>cases r2;exact⟨_,rfl,r1⟩
theorem Wz{x y:V}{us:List oQ}(r:Vals [x,y] us):∃u w',us=[u,w']/\RelV x u/\RelV y w':=by
 cases r with
 | cons r1 r2 =>
  cases r2 with
  | cons r3 r4=>cases r4;exact⟨_,_,rfl,r1,r3⟩
theorem Vc(hc:X.calm=sG):vR X (.builtin "max") (λxs H Q=>∃i j,xs=[.int i,.int j]/\Q (.int (if j > i then j else i)) H):=by
 intro sI s σ H xs us Q I r h
 obtain⟨i,j,rfl,q⟩:=h
 obtain⟨u,w',rfl,⟨t,rfl⟩,⟨t',rfl⟩⟩:=Wz r
 refine max_two_ints (I.ok.hd hc) λh' tk k=>⟨_,H,I.kept k,?_,q⟩
 by_cases hj:j > i
 ·rw[if_pos hj,if_pos hj];exact⟨_,rfl⟩
 ·rw[if_neg hj,if_neg hj];exact⟨_,rfl⟩
def zb7(K:oO)(x:V)(H:Hp)(n:Nat):Prop :=
 match x with
 | .str y=>y.length<=oN/\n=y.length
 | .byt y=>y.size<=oN/\n=y.size
 | .ref p=>(∃xs,SqL K H p xs/\n=xs.length)\/∃xs,SqT K H p xs/\n=xs.length
 | _=>False
theorem Qq:vR X (.builtin "len") (λxs H Q=>∃x n,xs=[x]/\zb7 X.K x H n/\Q (.int n) H):=by
 intro sI s σ H xs us Q I r h
 obtain⟨x,n,rfl,e,q⟩:=h
 obtain⟨u,rfl,rx⟩:=wP r
 have hl:=Zj
 have hs:oN=16777216:=pz
 cases x with
 | str y =>
  obtain⟨t,rfl⟩:=rx
  obtain⟨hy,e'⟩:y.length<=oN/\n=y.length:=e
  subst e'
  exact len_str (by lia) ⟨.int _,H,I.tok _,⟨_,rfl⟩,q⟩
 | byt y =>
  obtain⟨t,rfl⟩:=rx
  obtain⟨hy,e'⟩:y.size<=oN/\n=y.size:=e
  subst e'
  exact PySem.W.len_bytes (by lia) ⟨.int _,H,I.tok _,⟨_,rfl⟩,q⟩
 | ref p =>
  cases rx
  have e':(∃xs,SqL X.K H p xs/\n=xs.length)\/∃xs,SqT X.K H p xs/\n=xs.length:=e
  rcases e' with ⟨xs,hx,e'⟩ | ⟨xs,hx,e'⟩
  ·subst e'
   obtain⟨its,r',pl,hz⟩:=I.list hx
   have hlen:=r'.length
   exact Calls.call_len_list pl.isList (by simp only[au];lia) ⟨.int xs.length,H,I.tok _,⟨_,by simp only[au];rw[hlen]⟩,q⟩
  ·subst e'
   obtain⟨its,r',pl,hz⟩:=I.tuple hx
   have hlen:=r'.length
   exact len_tuple pl (by simp only[au];lia) ⟨.int xs.length,H,I.tok _,⟨_,by simp only[au];rw[hlen]⟩,q⟩
 | _=>exact (show False from e).elim
end
end L2
namespace L2
structure ObjM(h:pb)(x dx C:oP)(mA:oW->Option oQ):Prop where
 obj:h.get? x=sE (bY C dx)
 ns:h.Ns1 dx mA
 ne:dx≠x
theorem WD{h:pb}{dx:oP}{mA:oW->Option oQ}(n:h.Ns1 dx mA):∃od,h.get? dx=sE od/\∀name,dN name od=sE (mA name):=by
 obtain⟨o,es,ep,ho,hd,hk,_,hm⟩:=n
 refine⟨o,ho,λname=>?_⟩
 have e:=hm name
 unfold nsFind findBy at e
 rw[<- Array.find?_toList] at e
 unfold dN
 rw[hd]
 dsimp only
 split
 ·rename_i y q
  rw[q] at e
  exact congrArg sE e
 ·rename_i q
  rw[q] at e
  have a:es.toList.any (·.refKey)=sH:=by
   rw[List.any_eq_false]
   intro y hy
   obtain⟨z,t,hkey⟩:=hk y (Array.mem_toList_iff.mp hy)
   simp [DictEntry.refKey,hkey]
  have a':¬ es.toList.any (·.refKey)=sG:=by rw[a];exact aG
  rw[if_neg a']
  exact congrArg sE e
theorem ObjM.look{h:pb}{x dx C:oP}{mA:oW->Option oQ}(I:ObjM h x dx C mA):∃od,PySem.W.InstAt h x (bY C dx) C (sE od)/\∀name,dN name od=sE (mA name) :=
 let ⟨od,ho,hl⟩:=WD I.ns
 ⟨od,⟨I.obj,rfl,rfl,ho⟩,hl⟩
section
variable{prog:oV}{w:oX}{A:oY}{E:oQ->oR->Prop}{s:oR}{K:oO}{x dx C f:oP}{mA:oW->Option oQ}{name:oW}{v:oQ}
theorem Kc{expr:Bool}{Q:oQ->oR->Prop}(X:K.In s.heap)(I:ObjM s.heap x dx C mA)(hg:bS K C name=sG)(hh:bP K C=sG)
  (ha:ah K (.ref C) name=sE sF) (hv:mA name=sE v) (hv':fu v=sG) (h:Q v { s with toks:=s.toks+1 }) :
  oS (model prog w) A (getAttr (.ref x) name expr) Q E s:=by
 obtain⟨od,J,hl⟩:=I.look
 exact PySem.W.get_value X J (dL hg).1 (PySem.W.findObj_own hh ha rfl (by rw[hl,hv])) hv' h
theorem Qm{pl:sw Bool}{Q:oQ × List oQ->oR->Prop}(X:K.In s.heap)(I:ObjM s.heap x dx C mA)(hg:bS K C name=sG)
  (hf:ah K (.ref C) name=sE (sE (.ref f))) (ht:bc K (.ref f)=sG) (hv:mA name=sF) (h:Q (.ref f,[.ref x]) s) :
  oS (model prog w) A (getMethod (.ref x) name pl) Q E s:=by
 obtain⟨od,J,hl⟩:=I.look
 exact PySem.W.method_fn X J (dL hg).1 (dL hg).2 hf (beq_iff_eq.mp ht) (by show (dN name od).map (·.isSome)=sE sH;rw[hl,hv];rfl) h
theorem KA{ns:List oW}{Q:Unit->oR->Prop}(X:K.In s.heap)(I:ObjM s.heap x dx C mA)
  (hs:ah K (.ref C) "__setattr__" = sE (sE (.builtin "object.__setattr__"))) (hp:cA K C=sG) (ht:eJ K C name=sE sF) (hh:bP K C=sG)
  (hw:PySem.Within mA ns) (hsz:ns.length<=oN)
  (h:∀h',ObjM h' x dx C (λy=>if y=name then sE v else mA y)->Heap.SameBut dx s.heap h'->Q () { s with heap:=h',toks:=s.toks+2 }) :
  oS (model prog w) A (setAttr (.ref x) name v) Q E s:=by
 obtain⟨od,J,hl⟩:=I.look
 refine fq X J hs (PySem.W.osa_open (s:={ s with toks:=s.toks+1 }) (r:=sF) X J hp ht λb=>?_)
 obtain⟨cd,hc,hd'⟩:=PySem.W.any_some hh
 have hx:s.heap.get? x=sE ⟨.ref C,sE dx,.plain,#[]⟩:=I.obj
 refine oH (oJ (oH (oH (rN hx (oH (PySem.W.Looks.here (s:={ s with toks:=s.toks+1 }) (PySem.W.looks_clsIn X hc) ?_))))))
 rw[hd']
 refine oJ (a:=sE dx) (oH (oJ (oH ?_)))
 refine wpAny_nsSet1 (s:={ s with toks:=s.toks+1 }) I.ns λh' hn2 hs2=>?_
 obtain⟨oD,esD,epD,hoD,hdD,hcD⟩:=hn2.count (PySem.Within.cons name v hw)
 refine oH (sr hoD (by rw[hdD];exact pastItsLine_dict (aR hcD (by rw[aM];lia))) ?_)
 exact oJ (h _ ⟨(hs2.2 _ (Ne.symm I.ne)).trans I.obj,hn2,I.ne⟩ hs2)
theorem Uw{R:rQ->oR->Prop}{vs:List oQ}{kw:List (oW × oQ)}(X:K.In s.heap)(hm:cJ K C=sG)
  (hi:ah K (.ref C) "__init__" = sE (sE (.ref f))) (hf:PySem.W.typeIn K (.ref f)=sE (.type "function"))
  (h:pN (model prog w) (A.under (.builtin "type.__call__" ⟨.ref C::vs,kw⟩)) (.call (.ref f) ⟨.ref (s.heap.objs.size+1)::vs,kw⟩) (PySem.W.InitBack (s.heap.objs.size+1) R)
   { s with heap:=(s.heap.push bJ).push (bY C s.heap.objs.size) }) :
  pN (model prog w) A (.call (.ref C) ⟨vs,kw⟩) R s:=by
 obtain⟨hh,g,d,t,os⟩:=s
 exact PySem.W.make_core (PySem.W.makes_of X hm) (cC X hi) (λself=>fw X self hf) (.inl rfl) h
end
noncomputable def kX(f:oW)(v:V):List (oW × V)->List (oW × V)
  | []=>[(f,v)]
  | (g,x)::r=>if g=f then (g,v)::r else (g,x)::kX f v r
theorem qU(f g:oW)(v:V):∀fs:List (oW × V),(kX f v fs).lookup g=if g=f then sE v else fs.lookup g
  | []=>by
    show bi g [(f,v)]=_
    by_cases h:g=f
    . have hb:(g == f)=sG:=beq_iff_eq.mpr h
      simp only[bi,hb,if_pos h]
    . have hb:(g == f)=sH:=beq_eq_false_iff_ne.mpr h
      simp only[bi,hb,if_neg h]
  | (k,x)::r=>by
    have ih:=qU f g v r
    rw[show kX f v ((k,x)::r)=(if k=f then (k,v)::r else (k,x)::kX f v r) from rfl]
    by_cases hk:k=f
    . rw[if_pos hk]
      by_cases h:g=k
      . have hb:(g == k)=sG:=beq_iff_eq.mpr h
        simp only[bi,hb,if_pos (h.trans hk)]
      . have hb:(g == k)=sH:=beq_eq_false_iff_ne.mpr h
        simp only[bi,hb,if_neg (λe:g=f=>h (e.trans hk.symm))]
    . rw[if_neg hk]
      by_cases h:g=k
      . have hb:(g == k)=sG:=beq_iff_eq.mpr h
        simp only[bi,hb,if_neg (λe:g=f=>hk (h.symm.trans e))]
      . have hb:(g == k)=sH:=beq_eq_false_iff_ne.mpr h
        simp only[bi,hb]
        exact ih
theorem qr(f:oW)(v:V):∀fs:List (oW × V),f ∈ (kX f v fs).map (·.1)/\∀g,g ∈ fs.map (·.1)->g ∈ (kX f v fs).map (·.1)
  | []=>⟨by simp [kX],λg h=>by simp at h⟩
  | (k,x)::r=>by
    obtain⟨i1,i2⟩:=qr f v r
    rw[show kX f v ((k,x)::r)=(if k=f then (k,v)::r else (k,x)::kX f v r) from rfl]
    by_cases hk:k=f
    . rw[if_pos hk]
      subst hk
      exact⟨by simp,λg h=>by simpa using h⟩
    . rw[if_neg hk]
      refine⟨?_,λg h=>?_⟩
      . rw[az]
        exact aw _ i1
      . rw[az] at h ⊢
        rcases List.mem_cons.mp h with e | e
        . exact List.mem_cons.mpr (.inl e)
        . exact aw _ (i2 g e)
theorem qg(f:oW)(v:V):∀fs:List (oW × V),(kX f v fs).length<=fs.length+1
  | []=>by simp [kX]
  | (k,x)::r=>by
    have ih:=qg f v r
    rw[show kX f v ((k,x)::r)=(if k=f then (k,v)::r else (k,x)::kX f v r) from rfl]
    by_cases hk:k=f
    . rw[if_pos hk,aM,aM];lia
    . rw[if_neg hk,aM,aM];lia
theorem RelO.some_of{v:V}{o:Option oQ}(r:RelO (sE v) o):∃u,o=sE u/\RelV v u:=by
 cases o with
 | none=>exact (show False from r).elim
 | some u=>exact⟨u,rfl,r⟩
theorem RelO.none_of{o:Option oQ}(r:RelO sF o):o=sF:=by
 cases o with
 | none=>rfl
 | some u=>exact (show False from r).elim
theorem VL{v:V}{u:oQ}(r:RelV v u):fu u=sG:=by
 cases v with
 | non=>cases (show u=Value.none from r);rfl
 | bl b=>cases (show u=Value.bool b from r);rfl
 | int i=>obtain⟨t,e⟩:=(show ∃t,u=Value.int i t from r);cases e;rfl
 | str x=>obtain⟨t,e⟩:=(show ∃t,u=Value.str x t from r);cases e;rfl
 | byt b=>obtain⟨t,e⟩:=(show ∃t,u=Value.bytes b t from r);cases e;rfl
 | flt b=>obtain⟨t,e⟩:=(show ∃t,u=Value.float b t from r);cases e;rfl
 | ref a=>cases (show u=Value.ref a from r);rfl
 | ty n=>cases (show u=Value.type n from r);rfl
section
variable{P:oV}{w:oX}{H H':Hp}{h h':pb}{a C dx:oP}{fs fs':List (oW × V)}
theorem km(hok:HOk P w H h)(e:H a=sE (.ins C dx fs)):∃mA,ObjM h a dx C mA/\(∀f,RelO (fs.lookup f) (mA f))/\PySem.Within mA (fs.map (·.1))/\fs.length<=1000/\H dx=sE (.own a):=by
 obtain⟨d,z,ne,ob,mA,n,r,q⟩:=(show ObjOk P w H h a (.ins C dx fs) from hok a _ e)
 exact⟨mA,⟨ob,n,ne⟩,r,q,z,d⟩
end
structure Cls(K:oO)(C:oP):Prop where
 pg:bS K C eK=sG
 hd:bP K C=sG
 po:cA K C=sG
 sa:ah K (.ref C) "__setattr__" = sE (sE (.builtin "object.__setattr__"))
theorem Cls.get{K:oO}{C:oP}(c:Cls K C)(f:oW):bS K C f=sG:=c.pg
def NoAttr(K:oO)(C:oP)(f:oW):Prop:=ah K (.ref C) f=sE sF
theorem NoAttr.taker{K:oO}{C:oP}{f:oW}(n:NoAttr K C f):eJ K C f=sE sF:=by
 unfold eJ
 rw[show ah K (.ref C) f=sE sF from n]
 rfl
structure zaB(K:oO)(C:oP)(m:oW)(f:oP):Prop where
 at_:ah K (.ref C) m=sE (sE (.ref f))
 fn:bc K (.ref f)=sG
 kp:aj K (.ref f)=sG
section
variable{X:Cx}{sI:List (oP × pC)}{σ:St}{H:Hp}{s:oR}{a C dx:oP}{fs:List (oW × V)}{f:oW}{v:V}{A:oY}{E:oQ->oR->Prop}
theorem X6{b:Bool}{Q:oQ->oR->Prop}(I:Inv X sI σ H s)(e:H a=sE (.ins C dx fs))(c:Cls X.K C)(n:NoAttr X.K C f)(l:fs.lookup f=sE v)
  (h:∀u s',Inv X sI σ H s'->RelV v u->Q u s'):oS (model X.prog X.w) A (getAttr (.ref a) f b) Q E s:=by
 obtain⟨mA,O,r,_,_,_⟩:=km I.hok e
 obtain⟨u,hu,ru⟩:=RelO.some_of (v:=v) (o:=mA f) (by rw[<- l];exact r f)
 exact Kc I.kIn O (c.get f) c.hd n hu (VL ru) (h u _ (I.tok _) ru)
theorem xS{m:oW}{g:oP}{pl:sw Bool}{Q:oQ × List oQ->oR->Prop}(I:Inv X sI σ H s)(e:H a=sE (.ins C dx fs))(c:Cls X.K C)(k:zaB X.K C m g)(l:fs.lookup m=sF)
  (h:Q (.ref g,[.ref a]) s):oS (model X.prog X.w) A (getMethod (.ref a) m pl) Q E s:=by
 obtain⟨mA,O,r,_,_,_⟩:=km I.hok e
 have hn:mA m=sF:=RelO.none_of (by rw[<- l];exact r m)
 exact Qm I.kIn O (c.get m) k.at_ k.fn hn h
theorem XY{y:V}{u:oQ}{Q:Unit->oR->Prop}(I:Inv X sI σ H s)(e:H a=sE (.ins C dx fs))(c:Cls X.K C)(n:NoAttr X.K C f)(hl:fs.length<1000)(ry:RelV y u)
  (h:∀s',Inv X sI σ (upd H a (.ins C dx (kX f y fs))) s'->Q () s'):oS (model X.prog X.w) A (setAttr (.ref a) f u) Q E s:=by
 obtain⟨mA,O,r,wi,_,ho⟩:=km I.hok e
 have hz:(fs.map (·.1)).length<=oN:=by rw[af,pz];lia
 refine KA I.kIn O c.sa c.po n.taker c.hd wi hz λh' O' sb=>h _ ?_
 have hd:∃o,h'.get? dx=sE o:=let ⟨o,_,_,e',_⟩:=O'.ns; ⟨o,e'⟩
 refine I.write (x:=a) (e:=dx) (by rw[e];exact True.intro) (.inr ho) (λb q hb z=>(sb.2 b hb).trans z) hd ?_
 refine⟨by rw[zo O.ne];exact ho,?_,O.ne,O'.obj,_,O'.ns,λg=>?_,λg hg=>?_⟩
 ·have:=qg f y fs;lia
 ·show RelO ((kX f y fs).lookup g) (if g=f then sE u else mA g)
  rw[qU]
  by_cases q:g=f
  ·rw[if_pos q,if_pos q];exact ry
  ·rw[if_neg q,if_neg q];exact r g
 ·by_cases q:g=f
  ·rw[q];exact (qr f y fs).1
  ·refine (qr f y fs).2 g (wi g λz=>hg ?_)
   show (if g=f then sE u else mA g)=sF
   rw[if_neg q];exact z
theorem Inv.made(I:Inv X sI σ H s):Inv X sI σ (upd (upd H s.heap.objs.size (.own (s.heap.objs.size+1))) (s.heap.objs.size+1) (.ins C s.heap.objs.size []))
  { s with heap:=(s.heap.push bJ).push (bY C s.heap.objs.size) }:=by
 have e1:(s.heap.push bJ).get? s.heap.objs.size=sE bJ:=aI s.heap rfl
 have e2:((s.heap.push bJ).push (bY C s.heap.objs.size)).get? (s.heap.objs.size+1)=sE (bY C s.heap.objs.size):=by
  have:=aI (s.heap.push bJ) (o:=bY C s.heap.objs.size) rfl
  rwa [bG] at this
 have e3:(s.heap.push bJ).Ns s.heap.objs.size (λ_=>sF):=⟨bJ,#[],_,e1,rfl,(λe he=>absurd he (by simp)),λ_=>rfl⟩
 have I1:=I.laid (a:=s.heap.objs.size) (o:=.own (s.heap.objs.size+1)) (h':=s.heap.push bJ) (t':=s.toks) (λb u q=>aa _ q) (aq _) ⟨_,e1⟩
 refine I1.laid (a:=s.heap.objs.size+1) (o:=.ins C s.heap.objs.size []) (t':=s.toks) (λb u q=>aa _ q) (Nat.le_of_eq (bG _ _)) ?_
 have ne:s.heap.objs.size≠s.heap.objs.size+1:=aF (d7 _)
 refine⟨by rw[zo ne,ze],aJ _,ne,e2,λ_=>sF,(Heap.Ns1.of_empty e3).at λo q=>aa _ q,λ_=>True.intro,λy hy=>absurd rfl hy⟩
theorem JF{prog:oV}{w:oX}{env:rK}{e:oZ}{f:oW}{pos:pR}{s:oR}{Q:oQ->oR->Prop}(hb:attributeBase e f env (eval e env)=eval e env)
  (h:oS (model prog w) A (eval e env) (λo s₁=>oS (model prog w) A (getAttr o f sG) Q E s₁) E s):oS (model prog w) A (eval (.Attribute e f pos) env) Q E s :=
 Attribute_any_ h (by rw[arm_eval_Attribute,hb])
end
def zag(K:oO)(ta:TE)(f:oW):TE:=λσ H Q=>ta σ H λx H1=>∃a C dx fs v,x=.ref a/\H1 a=sE (.ins C dx fs)/\Cls K C/\NoAttr K C f/\fs.lookup f=sE v/\Q v H1
def zcE(K:oO)(ta tv:TE)(f:oW):TS:=λD σ H=>tv σ H λy H1=>ta σ H1 λx H2=>∃a C dx fs,x=.ref a/\H2 a=sE (.ins C dx fs)/\Cls K C/\NoAttr K C f/\fs.length<1000 /\
 D.nx σ (upd H2 a (.ins C dx (kX f y fs)))
section
variable{X:Cx}{o e value:oZ}{f:oW}{pos pos' tpos:pR}{ta tv:TE}
theorem YE(he:PE X e ta)(hb:attributeBase e f X.env (eval e X.env)=eval e X.env):PE X (.Attribute e f pos) (zag X.K ta f):=by
 intro sI s σ H Q I h
 refine JF hb (thn (he sI s σ H _ I h) λu s1 ⟨x,H1,I1,rx,a,C,dx,fs,v,ex,ea,c,n,l,q⟩=>?_)
 subst ex
 obtain rfl:u=Value.ref a:=rx
 exact X6 I1 ea c n l λu' s2 I2 ru=>⟨v,H1,I2,ru,q⟩
theorem YT(ha:PE X o ta)(hv:PE X value tv)(hs:swapsWith value (sE (.Attribute o f pos')) pos.line X.env=pure sH):PS X (.Assign [.Attribute o f pos'] value pos) (zcE X.K ta tv f):=by
 intro sI s σ H D I h
 refine re (thn (hv sI s σ H _ I h) λu s1 ⟨y,H1,I1,ry,q⟩=>thn (ha sI s1 σ H1 _ I1 q) λov s2 ⟨x,H2,I2,rx,a,C,dx,fs,ex,ea,c,n,l,q2⟩=>?_) hs
 subst ex
 obtain rfl:ov=Value.ref a:=rx
 exact XY I2 ea c n l ry λs3 I3=>⟨σ,_,I3,q2⟩
theorem Jl{pl:sw Bool}{m:oW}{apos:pR}{args:List oZ}{sI:List (oP × pC)}{s:oR}{σ:St}{H:Hp}{Q:oQ->oR->Prop}{te:TE}(he:PE X e te)(I:Inv X sI σ H s)
    (h:te σ H λx H1=>∃a C dx fs g,x=.ref a/\H1 a=sE (.ins C dx fs)/\Cls X.K C/\zaB X.K C m g/\fs.lookup m=sF /\
      ∀s1,Inv X sI σ H1 s1->oS (model X.prog X.w) X.A (callWith pos (.ref g) [.ref a] (pj pos (oM args X.env)) (pF pos (ph [] X.env))) Q X.xe s1)
    (ht:eval (.Call (.Attribute e m apos) args [] pos) X.env=(do
      let ov <- eval e X.env
      standAt apos.atName
      let (f,first) <- holding [ov] (getMethod ov m pl)
      callWith pos f first (pj pos (oM args X.env)) (pF pos (ph [] X.env)))) :
    oS (model X.prog X.w) X.A (eval (.Call (.Attribute e m apos) args [] pos) X.env) Q X.xe s:=by
  refine bT (pl:=pl) (thn (he sI s σ H _ I h) λu s1 ⟨x,H1,I1,rx,a,C,dx,fs,g,ex,ea,c,k,l,q⟩=>?_) ht
  subst ex
  obtain rfl:u=Value.ref a:=rx
  exact xS I1 ea c k l (q s1 I1)
end
section
variable{X:Cx}{sI:List (oP × pC)}{σ:St}{H:Hp}{s:oR}{A:oY}{E:oQ->oR->Prop}{Q:oQ->oR->Prop}{c:oQ}{b:Bool}
inductive Y4(K:oO)(H:Hp):V->oQ->Prop where
 | non:Y4 K H .non (.type "NoneType")
 | bl (x:Bool):Y4 K H (.bl x) (.type "bool")
 | int (i:Int):Y4 K H (.int i) (.type "int")
 | str (x:oW):Y4 K H (.str x) (.type "str")
 | flt (x:UInt64):Y4 K H (.flt x) (.type "float")
 | lst {a:oP} {xs:List V} (e:H a=sE (.lst xs)):Y4 K H (.ref a) (.type "list")
 | frz {a:oP} {o:pC} {xs:List V} (e:H a=sE (.frz o (.lst xs))):Y4 K H (.ref a) (.type "list")
 | tup {a:oP} {xs:List V} (e:H a=sE (.tup xs)):Y4 K H (.ref a) (.type "tuple")
 | dK {a:oP} {kvs:List (Key × V)} (e:H a=sE (.dK kvs)):Y4 K H (.ref a) (.type "dict")
 | dT {a:oP} {kvs:List (List Key × V)} (e:H a=sE (.dT kvs)):Y4 K H (.ref a) (.type "dict")
 | ins {a C dx:oP} {fs:List (oW × V)} (e:H a=sE (.ins C dx fs)) (cl:Cls K C) (ha:ah K (.ref C) "__class__" = sE (sE (.builtin "object.__class__")))
   (hn:cB K (.builtin "object.__class__") "__get__" = sE (sE (.builtin "getset_descriptor.__get__"))) (htk:dB K (.builtin "object.__class__")=sE sG)
   (hm:bN K C (.type "object")=sE sG):Y4 K H (.ref a) (.ref C)
theorem W3{x:V}{u t:oQ}(I:Inv X sI σ H s)(rx:RelV x u)(ty:Y4 X.K H x t)(e:aS X.K t c=sE b)(h:∀tk,Q (.bool b) { s with toks:=tk }) :
  oS (model X.prog X.w) A (call (.builtin "isinstance") [u,c]) Q E s:=by
 cases ty with
 | non=>cases (show u=Value.none from rx);exact bh PySem.W.kitx_none I.kIn True.intro e (λz=>nomatch z) h
 | bl y=>cases (show u=Value.bool y from rx);exact bh PySem.W.kitx_bool I.kIn True.intro e (λz=>nomatch z) h
 | int i=>obtain⟨t,q⟩:=(show ∃t,u=Value.int i t from rx);cases q;exact bh PySem.W.kitx_int I.kIn True.intro e (λz=>nomatch z) h
 | str y=>obtain⟨t,q⟩:=(show ∃t,u=Value.str y t from rx);cases q;exact bh PySem.W.kitx_str I.kIn True.intro e (λz=>nomatch z) h
 | flt y=>obtain⟨t,q⟩:=(show ∃t,u=Value.float y t from rx);cases q;exact bh PySem.W.kitx_float I.kIn True.intro e (λz=>nomatch z) h
 | @lst a xs ea =>
  cases (show u=Value.ref a from rx)
  obtain⟨_,_,n,_,h1⟩:=(show ObjOk X.prog X.w H s.heap a (.lst xs) from I.hok a _ ea)
  exact bh dY I.kIn ⟨_,h1,rfl⟩ e (λz=>nomatch z) h
 | @frz a ob xs ea =>
  cases (show u=Value.ref a from rx)
  obtain⟨_,_,_,n,_,h1⟩:=(show ObjOk X.prog X.w H s.heap a (.frz ob (.lst xs)) from I.hok a _ ea)
  exact bh dY I.kIn ⟨_,h1,rfl⟩ e (λz=>nomatch z) h
 | @tup a xs ea =>
  cases (show u=Value.ref a from rx)
  obtain⟨_,_,_,p⟩:=(show ObjOk X.prog X.w H s.heap a (.tup xs) from I.hok a _ ea)
  obtain⟨o,h1,h2,_⟩:=p
  exact bh fh I.kIn ⟨o,h1,h2⟩ e (λz=>nomatch z) h
 | @dK a kvs ea =>
  cases (show u=Value.ref a from rx)
  obtain⟨_,_,vs,_,p⟩:=(show ObjOk X.prog X.w H s.heap a (.dK kvs) from I.hok a _ ea)
  obtain⟨o,es,ep,h1,h2,_⟩:=p
  exact bh ft I.kIn ⟨o,h1,h2.1⟩ e (λz=>nomatch z) h
 | @dT a kvs ea =>
  cases (show u=Value.ref a from rx)
  obtain⟨_,_,xs,_,o,es,ep,h1,h2,_⟩:=(show ObjOk X.prog X.w H s.heap a (.dT kvs) from I.hok a _ ea)
  exact bh ft I.kIn ⟨o,h1,h2.1⟩ e (λz=>nomatch z) h
 | @ins a C dx fs ea cl ha hn htk hm =>
  cases (show u=Value.ref a from rx)
  obtain⟨mA,O,_⟩:=km I.hok ea
  obtain⟨od,J,_⟩:=O.look
  exact bh (PySem.W.kitx_own (cl.get _) cl.hd ha hn htk hm) I.kIn J e (λz=>nomatch z) h
end
end L2
namespace L2
structure Room(k:Nat)(A:oY):Prop where
 hd:A.handled=sF
 dp:A.depth+3 * k+5<rO
 un:A.units+16 * k+200<cLine
theorem Room.mono{j k:Nat}{A:oY}(r:Room k A)(h:j<=k):Room j A:=⟨r.hd,by have:=r.dp;lia,by have:=r.un;lia⟩
theorem Room.deeper{k:Nat}{A:oY}(r:Room (k+1) A)(env:rK):Room k (A.deeper env) :=
 ⟨r.hd,by have:=r.dp;show A.depth+1+3 * k+5<_;lia,by have:=r.un;show A.units+3+16 * k+200<_;lia⟩
theorem Room.in1{k:Nat}{A:oY}(r:Room (k+1) A):Room k A.in1 :=
 ⟨r.hd,by have:=r.dp;show A.depth+3 * k+5<_;lia,by have:=r.un;show A.units+1+16 * k+200<_;lia⟩
theorem XQ{A:oY}{C:oP}{us:List oQ}{kw:List (oW × oQ)}:(A.under (.builtin "type.__call__" ⟨.ref C::us,kw⟩)).depth=A.depth+1:=by
 first | rfl | simp [Around.under,Code.weight,Code.isCreation,Code.isGuard,Code.isCaller,Code.frames,Code.isFrame,guardIds]
theorem Wc{A:oY}{C:oP}{us:List oQ}{kw:List (oW × oQ)}:(A.under (.builtin "type.__call__" ⟨.ref C::us,kw⟩)).units=A.units+1:=by
 first | rfl | simp [Around.under,Code.cUnits,Code.frames,Code.isFrame]
theorem Room.make{k:Nat}{A:oY}(r:Room (k+1) A)(C:oP)(us:List oQ)(kw:List (oW × oQ)):Room k (A.under (.builtin "type.__call__" ⟨.ref C::us,kw⟩)) :=
 ⟨r.hd,by have:=r.dp;rw[XQ];lia,by have:=r.un;rw[Wc];lia⟩
theorem Room.depth{k:Nat}{A:oY}(r:Room k A):A.depth<rO:=by have:=r.dp;lia
theorem Room.units{k:Nat}{A:oY}(r:Room k A):A.units+64<cLine:=by have:=r.un;lia
def ww:TA:=λ_ H Q=>Q [] H
def zN(ta:TE)(tr:TA):TA:=λσ H Q=>ta σ H λx H1=>tr σ H1 λxs H2=>Q (x::xs) H2
section
variable{X:Cx}{e:oZ}{es:List oZ}{te:TE}{t:TA}{pos:pR}
theorem zc:PA X [] ww:=λ_ _ _ _ H Q I h=>Calls.spliced_nil ⟨[],H,I,.nil,h⟩
theorem za(ha:PE X e te)(hr:PA X es t)(hs:oM (e::es) X.env=(sH,eval e X.env)::oM es X.env:=by rfl):PA X (e::es) (zN te t):=by
 intro pos sI s σ H Q I h
 rw[hs]
 show oS _ _ (spliced ((sH,eval e X.env)::pj pos (oM es X.env))) _ _ s
 refine Calls.spliced_cons (thn (ha sI s σ H _ I h) λu s1 ⟨x,H1,I1,r1,q1⟩=>?_)
 exact thn (hr pos sI s1 σ H1 _ I1 q1) λus s2 ⟨xs,H2,I2,r2,q2⟩=>⟨x::xs,H2,I2,.cons r1 r2,q2⟩
def UN(t:TA):TE:=λσ H Q=>t σ H λxs H1=>xs.length<=oN/\∀p,H1 p=sF->Q (.ref p) (upd H1 p (.tup xs))
def zbw(t:TA):TE:=λσ H Q=>t σ H λxs H1=>xs.length<=oN/\∀p,H1 p=sF->Q (.ref p) (upd H1 p (.lst xs))
theorem yh{x1}(h:PA X es t):PE X (.Tuple es x1 pos) (UN t):=by
 intro sI s σ H Q I hq
 refine wpAny_Tuple_spliced (thn (h pos sI s σ H _ I hq) λus s1 ⟨xs,H1,I1,r,z,q⟩=>⟨by rw[<- r.length];exact z,?_⟩)
 have hf:H1 s1.heap.objs.size=sF:=I1.hok.fresh (aq _)
 refine⟨.ref s1.heap.objs.size,upd H1 s1.heap.objs.size (.tup xs),I1.laid (t':=s1.toks) (λb u e=>aa _ e) (aq _) ?_,rfl,q _ hf⟩
 exact⟨z,us,r,⟨_,aI _ rfl,rfl,_,rfl⟩⟩
theorem vg(h:PA X es t):PE X (.List es pos) (zbw t):=by
 intro sI s σ H Q I hq
 refine wpAny_List_spliced (thn (h pos sI s σ H _ I hq) λus s1 ⟨xs,H1,I1,r,z,q⟩=>⟨by rw[<- r.length];exact z,?_⟩)
 have hf:H1 s1.heap.objs.size=sF:=I1.hok.fresh (aq _)
 refine⟨.ref s1.heap.objs.size,upd H1 s1.heap.objs.size (.lst xs),I1.laid (t':=s1.toks) (λb u e=>aa _ e) (aq _) ?_,rfl,q _ hf⟩
 exact⟨z,us,0,r,aI _ rfl⟩
end
noncomputable abbrev Sp:=List V->Hp->VK->XK->Prop
noncomputable abbrev CXT:=List rK->Hp->oR->XK->oQ->oR->Prop
structure Env0(P:oV)(w:oX)(K:oO)(mg:oW->Option oQ)(base:pb)(A:oY)(outer:List rK)(s:oR)(H:Hp):Prop where
 frames:A.frames=sE outer
 mod:Mod K mg base
 bs:∀b o,base.get? b=sE o->s.heap.get? b=sE o/\H b=sF
 bsz:base.objs.size<=s.heap.objs.size
 funs:s.heap.FunFrames base outer
 frf:∀b ∈ frs outer,H b=sF
 hok:HOk P w H s.heap
 bare:rn s.gens
def CE(outer:List rK)(P:oV)(w:oX)(H:Hp)(s:oR)(Q:VK)(u:oQ)(s':oR):Prop :=
 ∃v H',s'.os=s.os/\rn s'.gens/\Un (frs outer) [] H H' s.heap s'.heap/\HOk P w H' s'.heap/\RelV v u/\Q v H'
def CR(CX:CXT)(outer:List rK)(P:oV)(w:oX)(H:Hp)(s:oR)(Q:VK)(E:XK)(r:rQ)(s':oR):Prop :=
 match r with
 | .ok (.ret u)=>CE outer P w H s Q u s'
 | .ok _=>False
 | .error e=>CX outer H s E e s'
structure yg(P:oV)(w:oX)(K:oO)(mg:oW->Option oQ)(base:pb)(CX:CXT)(k:Nat)(f:oP)(fd:oU)(ps:List oW)(sp:Sp):Prop where
 len:∀vs H Q E,sp vs H Q E->vs.length=ps.length
 run:∀(A:oY) (outer:List rK) (s:oR) (H:Hp) (args:Args) (us:List oQ) (vs:List V) (Q:VK) (E:XK),Room k A->Env0 P w K mg base A outer s H->rR s fd args (ps.zip us)->Vals vs us->sp vs H Q E ->
  pN (model P w) A (.call (.ref f) args) (CR CX outer P w H s Q E) s
theorem Env0.make{P:oV}{w:oX}{K:oO}{mg:oW->Option oQ}{base:pb}{A:oY}{outer:List rK}{s:oR}{H:Hp}(e:Env0 P w K mg base A outer s H)(C:oP)(us:List oQ)(kw:List (oW × oQ)) :
  Env0 P w K mg base (A.under (.builtin "type.__call__" ⟨.ref C::us,kw⟩)) outer s H:=⟨by first | exact e.frames | (simpa [Around.under,Code.envs,Code.isFrame,pushEnvs] using e.frames),e.mod,e.bs,e.bsz,e.funs,e.frf,e.hok,e.bare⟩
section
variable{X:Cx}{sI:List (oP × pC)}{σ:St}{H:Hp}{s s':oR}
theorem Inv.env0(I:Inv X sI σ H s):Env0 X.prog X.w X.K X.mg X.base X.A X.stack s H :=
 ⟨I.ok.frames,I.ok.mod,I.bs,aR I.ok.bsz I.sz,I.stack,I.stkFree,I.hok,I.bare⟩
theorem Inv.after{Q:VK}{u:oQ}(I:Inv X sI σ H s)(h:CE X.stack X.prog X.w H s Q u s'):EP X sI σ Q u s':=by
 obtain⟨v,H',os,bare,un,hok,r,q⟩:=h
 obtain⟨hh,g,d,t,os'⟩:=s'
 obtain rfl:os'=s.os:=os
 exact⟨v,H',I.call (h':=hh) (g':=g) (d':=d) (t':=t) (ch:=[]) un hok bare (λb z=>absurd z (by simp)),r,q⟩
end
def qi(sp:Sp)(dvs:List V)(E:XK)(t:TA):TE:=λσ H Q=>t σ H λvs H1=>sp (vs ++ dvs) H1 Q E
def ZU(C:oP)(m:oW)(sp:Sp)(dvs:List V)(E:XK)(ta:TE)(t:TA):TE:=λσ H Q=>ta σ H λx H1=>∃a dx fs,x=.ref a/\H1 a=sE (.ins C dx fs)/\fs.lookup m=sF /\
 t σ H1 λvs H2=>sp (x::(vs ++ dvs)) H2 Q E
def Us(C:oP)(sp:Sp)(dvs:List V)(E:XK)(t:TA):TE:=λσ H Q=>t σ H λvs H1=>∀x dx,H1 x=sF->H1 dx=sF->dx≠x ->
 sp (.ref x::(vs ++ dvs)) (upd (upd H1 dx (.own x)) x (.ins C dx [])) (λv H2=>v=.non/\Q (.ref x) H2) E
def Binds(K:oO)(fd:oU)(ps:List oW)(ds:List oQ):Prop :=
 ∀(s:oR) (us:List oQ),K.In s.heap->(us ++ ds).length=ps.length->rR s fd ⟨us,[]⟩ (ps.zip (us ++ ds))
theorem Binds.all{K:oO}{fd:oU}{ps:List oW}(h:∀us:List oQ,us.length=ps.length->bindArgs fd ⟨us,[]⟩=pure (ps.zip us)):Binds K fd ps []:=λs us _ hl=>by
 rw[aV] at hl ⊢
 exact .of_eq (h us hl)
def uB(CX:CXT)(X:Cx)(E:XK):Prop:=∀(sI:List (oP × pC)) (σ:St) (H:Hp) (s:oR) (e:oQ) (s':oR),Inv X sI σ H s->CX X.stack H s E e s'->X.xe e s'
section
variable{X:Cx}{CX:CXT}{k:Nat}{f C:oP}{fd:oU}{ps:List oW}{sp:Sp}{dvs:List V}{ds:List oQ}{E:XK}{x m:oW}{p pos apos:pR}{e o:oZ}{es:List oZ}{ta:TE}{t:TA}
theorem jH{sI:List (oP × pC)}{σ:St}{H:Hp}{s:oR}{Q:VK}{us:List oQ}{vs:List V}(F:yg X.prog X.w X.K X.mg X.base CX k f fd ps sp)(hr:Room k X.A)(hb:Binds X.K fd ps ds)(hd:Vals dvs ds)(hx:uB CX X E)
  (I:Inv X sI σ H s) (r:Vals vs us) (h:sp (vs ++ dvs) H Q E):oS (model X.prog X.w) X.A (call (.ref f) us) (EP X sI σ Q) X.xe s:=by
 have r2:Vals (vs ++ dvs) (us ++ ds):=r.append hd
 have hl:(us ++ ds).length=ps.length:=by rw[<- r2.length];exact F.len _ _ _ _ h
 refine pT (pW (F.run X.A X.stack s H ⟨us,[]⟩ (us ++ ds) (vs ++ dvs) Q E hr I.env0 (hb s us I.kIn hl) r2 h) λr s' hq=>?_)
 cases r with
 | error e=>exact hx sI σ H s e s' I hq
 | ok fl =>
  cases fl with
  | ret u=>exact I.after hq
  | next=>exact False.elim hq
  | brk=>exact False.elim hq
  | cont=>exact False.elim hq
theorem W4(F:yg X.prog X.w X.K X.mg X.base CX k f fd ps sp)(hr:Room k X.A)(hg:Gl X x)(hm:X.mg x=sE (.ref f))(hk:aj X.K (.ref f)=sG)(hb:Binds X.K fd ps ds)(hd:Vals dvs ds)(hx:uB CX X E)
  (ha:PA X (e::es) t) (hdb:(x == ("__debug__" : oW))=sH:=by decide) (he:oM (e::es) X.env=(sH,eval e X.env)::oM es X.env:=by rfl) (hpl:(pj pos (oM es X.env)).any (·.1)=sH:=by rfl) :
  PE X (.Call (.Name x p) (e::es) [] pos) (qi sp dvs E t):=by
 intro sI s σ H Q I h
 refine px (vm I hg hm ?_ hdb)
 refine bL (h₀:=X.base) I.ok.mod.kin hk (thn (ha pos sI s σ H _ I h) λus s1 ⟨vs,H1,I1,r,q⟩=>⟨I1.kIn,?_⟩) he hpl
 exact jH F hr hb hd hx I1 r q
theorem KK{pl:sw Bool}(he:PE X o ta)(c:Cls X.K C)(hm:zaB X.K C m f)(F:yg X.prog X.w X.K X.mg X.base CX k f fd ps sp)(hr:Room k X.A)(hb:Binds X.K fd ps ds)(hd:Vals dvs ds)(hx:uB CX X E)(ha:PA X (e::es) t)
    (hst:oM (e::es) X.env=(sH,eval e X.env)::oM es X.env:=by rfl) (hpl:(pj pos (oM es X.env)).any (·.1)=sH:=by rfl)
    (ht:eval (.Call (.Attribute o m apos) (e::es) [] pos) X.env=(do
      let ov <- eval o X.env
      standAt apos.atName
      let (f,first) <- holding [ov] (getMethod ov m pl)
      callWith pos f first (pj pos (oM (e::es) X.env)) (pF pos (ph [] X.env))):=by rfl) :
    PE X (.Call (.Attribute o m apos) (e::es) [] pos) (ZU C m sp dvs E ta t):=by
  intro sI s σ H Q I h
  refine bT (pl:=pl) (thn (he sI s σ H _ I h) λu s1 ⟨x,H1,I1,rx,a,dx,fs,ex,ea,l,q⟩=>?_) ht
  subst ex
  obtain rfl:u=Value.ref a:=rx
  refine xS I1 ea c hm l ?_
  refine bL (first:=[.ref a]) (h₀:=X.base) I.ok.mod.kin hm.kp (thn (ha pos sI s1 σ H1 _ I1 q) λus s2 ⟨vs,H2,I2,r,q2⟩=>⟨I2.kIn,?_⟩) hst hpl
  exact jH (us:=.ref a::us) (vs:=.ref a::vs) F hr hb hd hx I2 (.cons rfl r) q2
theorem UX{pl:sw Bool}(he:PE X o ta)(c:Cls X.K C)(hm:zaB X.K C m f)(F:yg X.prog X.w X.K X.mg X.base CX k f fd ps sp)(hr:Room k X.A)(hb:Binds X.K fd ps ds)(hd:Vals dvs ds)(hx:uB CX X E)
    (ht:eval (.Call (.Attribute o m apos) [] [] pos) X.env=(do
      let ov <- eval o X.env
      standAt apos.atName
      let (f,first) <- holding [ov] (getMethod ov m pl)
      callWith pos f first (pj pos (oM [] X.env)) (pF pos (ph [] X.env))):=by rfl) :
    PE X (.Call (.Attribute o m apos) [] [] pos) (ZU C m sp dvs E ta ww):=by
  intro sI s σ H Q I h
  refine bT (pl:=pl) (thn (he sI s σ H _ I h) λu s1 ⟨x,H1,I1,rx,a,dx,fs,ex,ea,l,q⟩=>?_) ht
  subst ex
  obtain rfl:u=Value.ref a:=rx
  refine xS I1 ea c hm l ?_
  exact e9 (first:=[.ref a]) I1.kIn hm.kp (jH (us:=[.ref a]) (vs:=[.ref a]) F hr hb hd hx I1 (.cons rfl .nil) q)
structure Mk(K:oO)(C f:oP):Prop where
 makes:cJ K C=sG
 init:ah K (.ref C) "__init__" = sE (sE (.ref f))
 fn:bc K (.ref f)=sG
 kp:aj K (.ref C)=sG
theorem Qh{sI:List (oP × pC)}{σ:St}{H:Hp}{s:oR}{Q:VK}{us:List oQ}{vs:List V}(M:Mk X.K C f)(F:yg X.prog X.w X.K X.mg X.base CX k f fd ps sp)(hr:Room (k+1) X.A)(hb:Binds X.K fd ps ds)(hd:Vals dvs ds)
  (hx:uB CX X E) (I:Inv X sI σ H s) (r:Vals vs us)
  (h:∀x dx,H x=sF->H dx=sF->dx≠x->sp (.ref x::(vs ++ dvs)) (upd (upd H dx (.own x)) x (.ins C dx [])) (λv H2=>v=.non/\Q (.ref x) H2) E) :
  oS (model X.prog X.w) X.A (call (.ref C) us) (EP X sI σ Q) X.xe s:=by
 have hq:=h (s.heap.objs.size+1) s.heap.objs.size (I.hok.fresh (cN _)) (I.hok.fresh (aq _)) (aF (d7 _))
 have I2:=Inv.made (C:=C) I
 have r2:Vals (V.ref (s.heap.objs.size+1)::(vs ++ dvs)) (Value.ref (s.heap.objs.size+1)::(us ++ ds)):=.cons rfl (r.append hd)
 have hl:(Value.ref (s.heap.objs.size+1)::us ++ ds).length=ps.length:=by
  have e:=r2.length
  rw[F.len _ _ _ _ hq] at e
  exact e.symm
 refine pT (Uw (f:=f) I.kIn M.makes M.init (beq_iff_eq.mp M.fn) (pW (F.run _ X.stack _ _ ⟨Value.ref (s.heap.objs.size+1)::us,[]⟩ (Value.ref (s.heap.objs.size+1)::(us ++ ds)) _ _ E (hr.make C us [])
  (I2.env0.make C us []) (hb _ (Value.ref (s.heap.objs.size+1)::us) I2.kIn hl) r2 hq) λr s' hq'=>?_))
 cases r with
 | error e=>exact hx sI σ _ _ e s' I2 hq'
 | ok fl =>
  cases fl with
  | ret u =>
   obtain⟨v,H',I3,rv,ev,q3⟩:=I2.after hq'
   subst ev
   exact⟨rv,⟨V.ref (s.heap.objs.size+1),H',I3,rfl,q3⟩⟩
  | next=>exact False.elim hq'
  | brk=>exact False.elim hq'
  | cont=>exact False.elim hq'
theorem Vb(M:Mk X.K C f)(F:yg X.prog X.w X.K X.mg X.base CX k f fd ps sp)(hr:Room (k+1) X.A)(hg:Gl X x)(hm:X.mg x=sE (.ref C))(hb:Binds X.K fd ps ds)(hd:Vals dvs ds)(hx:uB CX X E)
  (ha:PA X (e::es) t) (hdb:(x == ("__debug__" : oW))=sH:=by decide) (he:oM (e::es) X.env=(sH,eval e X.env)::oM es X.env:=by rfl) (hpl:(pj pos (oM es X.env)).any (·.1)=sH:=by rfl) :
  PE X (.Call (.Name x p) (e::es) [] pos) (Us C sp dvs E t):=by
 intro sI s σ H Q I h
 refine px (vm I hg hm ?_ hdb)
 refine bL (h₀:=X.base) I.ok.mod.kin M.kp (thn (ha pos sI s σ H _ I h) λus s1 ⟨vs,H1,I1,r,q⟩=>⟨I1.kIn,?_⟩) he hpl
 exact Qh M F hr hb hd hx I1 r q
end
def PK(X:Cx)(kws:List sx)(t:TA):Prop :=
 ∀(pos:pR) (sI:List (oP × pC)) (s:oR) (σ:St) (H:Hp) (Q:List V->Hp->Prop),Inv X sI σ H s->t σ H Q->oS (model X.prog X.w) X.A (evalAll ((pF pos (ph kws X.env)).map (·.2))) (AP X sI σ Q) X.xe s
section
variable{X:Cx}{CX:CXT}{k:Nat}{f C:oP}{fd:oU}{ps ks:List oW}{sp:Sp}{E:XK}{x m:oW}{p pos apos kpos:pR}{e o:oZ}{es:List oZ}{kws:List sx}{te ta:TE}{t tk:TA}{nm:Option oW}
theorem Q0:PK X [] ww:=λ_ _ _ _ H Q I h=>wpAny_evalAll_nil ⟨[],H,I,.nil,h⟩
theorem V1(ha:PE X e te)(hr:PK X kws t):PK X (⟨nm,e,kpos⟩::kws) (zN te t):=by
 intro pos sI s σ H Q I h
 show oS _ _ (evalAll ((do let v <- eval e X.env;standAt pos;pure v)::(pF pos (ph kws X.env)).map (·.2))) _ _ s
 refine wpAny_evalAll_cons (oH (thn (ha sI s σ H _ I h) λu s1 ⟨x,H1,I1,r1,q1⟩=>oH (pM (oJ ?_))))
 exact thn (hr pos sI s1 σ H1 _ I1 q1) λus s2 ⟨xs,H2,I2,r2,q2⟩=>⟨x::xs,H2,I2,.cons r1 r2,q2⟩
variable{g:List oQ->List oQ->List oQ}{gV:List V->List V->List V}
end
structure zr(N P:List oW)(sc:pJ):Prop where
 kind:sc.kind=.function
 co:sc.isCoroutine=sH
 gen:sc.isGenerator=sH
 nd:N.Nodup
 pre:N.take P.length=P
 par:∀x ∈ P,sc.names.lookup x=sE .local\/sc.names.lookup x=sE .cell
 nofree:∀y ∈ sc.names,y.2≠.free
theorem ZR{kindOf:oW->Option rj}{x:oW}:∀{binds:List (oW × oQ)} {m:oW->Option oQ},(∀v,(x,v) ∉ binds)->bindL kindOf binds m x=m x
  | [],_,_=>rfl
  | (n,v)::r,m,h=>by
    unfold bindL
    rw[ZR λw hw=>h w (aw _ hw)]
    split
    . have:x≠n:=by rintro rfl;exact h v aD
      simp [this]
    . rfl
theorem ZM{kindOf:oW->Option rj}{x:oW}:∀{binds:List (oW × oQ)} {m:oW->Option oQ},(∀v,(x,v) ∉ binds)->bindC kindOf binds m x=m x
  | [],_,_=>rfl
  | (n,v)::r,m,h=>by
    unfold bindC
    rw[ZM λw hw=>h w (aw _ hw)]
    split
    . rfl
    . have:x≠n:=by rintro rfl;exact h v aD
      simp [this]
theorem ZX{kindOf:oW->Option rj}{x:oW}{v:oQ}:∀{P:List oW} {vs:List oQ} {i:Nat} {m:oW->Option oQ},P.Nodup->P[i]? = sE x->vs[i]? = sE v->kindOf x=sE .local ->
  bindL kindOf (P.zip vs) m x=sE v
 | [],_,_,_,_,h,_,_=>by simp at h
 | _::_,[],_,_,_,_,h,_=>by simp at h
 | p::P,w::vs,0,m,nd,h1,h2,hk=>by
  simp at h1 h2;subst h1;subst h2
  show bindL kindOf ((p,w)::P.zip vs) m p=_
  unfold bindL
  rw[ZR λv hv=>(List.nodup_cons.mp nd).1 (db hv).1,if_pos hk]
  simp
 | p::P,w::vs,i+1,m,nd,h1,h2,hk=>by
  show bindL kindOf ((p,w)::P.zip vs) m x=_
  unfold bindL
  exact ZX (i:=i) (List.nodup_cons.mp nd).2 (by simpa using h1) (by simpa using h2) hk
theorem Zd{kindOf:oW->Option rj}{x:oW}{v:oQ}:∀{P:List oW} {vs:List oQ} {i:Nat} {m:oW->Option oQ},P.Nodup->P[i]? = sE x->vs[i]? = sE v->kindOf x≠sE .local ->
  bindC kindOf (P.zip vs) m x=sE v
 | [],_,_,_,_,h,_,_=>by simp at h
 | _::_,[],_,_,_,_,h,_=>by simp at h
 | p::P,w::vs,0,m,nd,h1,h2,hk=>by
  simp at h1 h2;subst h1;subst h2
  show bindC kindOf ((p,w)::P.zip vs) m p=_
  unfold bindC
  rw[ZM λv hv=>(List.nodup_cons.mp nd).1 (db hv).1,if_neg hk]
  simp
 | p::P,w::vs,i+1,m,nd,h1,h2,hk=>by
  show bindC kindOf ((p,w)::P.zip vs) m x=_
  unfold bindC
  exact Zd (i:=i) (List.nodup_cons.mp nd).2 (by simpa using h1) (by simpa using h2) hk
noncomputable def start(N:List oW)(vs:List V):St:=vs.map sE ++ aZ (N.length - vs.length) sF
noncomputable def uQ(CX:CXT)(P:oV)(w:oX)(K:oO)(mg:oW->Option oQ)(base:pb)(N:List oW)(qual:oW)(scope:pJ)(f:oP)(cd:oQ)(A:oY)(outer:List rK)(s:oR)(H:Hp)(E:XK):Cx where
 prog:=P
 w:=w
 K:=K
 mg:=mg
 base:=base
 A:=A.deeper (rm qual scope s.heap.objs.size f cd)
 N:=N
 s₀:=s
 H₀:=H
 env:=rm qual scope s.heap.objs.size f cd
 outer:=outer
 stack:=rm qual scope s.heap.objs.size f cd::outer
 ex:=[]
 calm:=sG
 fn:=λ_=>sG
 pn:=[]
 xe:=λe s'=>oS (model P w) (A.deeper (rm qual scope s.heap.objs.size f cd)) (leaving (rm qual scope s.heap.objs.size f cd) e) (λ_ s''=>CX outer H s E e s'') (λe' s''=>CX outer H s E e' s'') s'
theorem YW{sc:pJ}{n:Nat}{x:oW}(h:sc.names.lookup x=sE .cell):∃c,(cellsFrom n sc.names []).lookup x=sE c:=by
 have q:=eM sc.names n [] (.inl h)
 exact Option.isSome_iff_exists.mp q
theorem WP{CX:CXT}{P:oV}{w:oX}{K:oO}{mg:oW->Option oQ}{base:pb}{N ps:List oW}{qual:oW}{scope:pJ}{f:oP}{cd:oQ}{A:oY}{outer:List rK}{s s1:oR}{H:Hp}{E:XK}{us:List oQ}{vs:List V}
  (S:zr N ps scope) (hd:A.handled=sF) (e0:Env0 P w K mg base A outer s H) (hl:vs.length=ps.length) (r:Vals vs us)
  (x:InCallC s s.heap.objs.size (bindL (rm qual scope s.heap.objs.size f cd).kindOf (ps.zip us) λ_=>sF) (cellsFrom (s.heap.objs.size+1) scope.names []) (bindC (rm qual scope s.heap.objs.size f cd).kindOf (ps.zip us) λ_=>sF) s1) :
  Inv (uQ CX P w K mg base N qual scope f cd A outer s H E) [] (start N vs) H s1:=by
 have hpl:ps.length<=N.length:=by have:=congrArg eN S.pre;rw[aK] at this;lia
 obtain⟨h1,tk,rfl,hk⟩:=x.done
 have noA:∀b:oP,b ∉ (uQ CX P w K mg base N qual scope f cd A outer s H E).ex:=λb z=>absurd (show b ∈ ([]:List oP) from z) (by simp)
 refine⟨⟨e0.mod,S.kind,rfl,rfl,aq _,λy z c h1 h2=>?_,λy hy=>?_,λy c _ h=>?_,λ_=>hd,Around.frames_deeper e0.frames,.inr ⟨rfl,rfl⟩,λb z=>absurd z (noA b),e0.bs,e0.bsz,λb _ _=>noA b,λb z=>absurd z (noA b),e0.funs,e0.frf⟩,
  rfl,e0.bare,Un.kept hk,⟨_,x.toInCall.ns,λi y v h1 h2 h3=>?_⟩,λy c h=>⟨_,x.cell y c h⟩,e0.hok.fresh (aq _),λy c h=>?_,λp hp=>absurd (show p ∈ ([]:List (oP × pC)) from hp) (by simp),e0.hok.kept hk,?_⟩
 ·exact name_of_addr x.apart (bQ h1) (bQ h2)
 ·have hy:scope.names.lookup y=sE .cell\/scope.names.lookup y=sE .free:=hy
  rcases hy with hy | hy
  ·exact YW hy
  ·exact absurd rfl (S.nofree _ (bQ hy))
 ·exact dg (x.above y c (bQ h))
 ·have hi:i<vs.length:=by
   unfold start at h2
   by_cases hi:i<vs.length
   ·exact hi
   ·rw[bR (by simpa using hi)] at h2
    rw[eD] at h2
    split at h2 <;> cases h2
  have ha:vs[i]? = sE v:=by
   unfold start at h2
   rw[bX (by simpa using hi),aH] at h2
   cases e:vs[i]? with
   | none=>rw[e] at h2;cases h2
   | some a=>rw[e] at h2;cases h2;rfl
  obtain⟨u,hu,rv⟩:=r.get ha
  have hp:ps[i]? = sE y:=by
   rw[<- S.pre,bv (by lia)];exact h1
  have ndP:ps.Nodup:=by rw[<- S.pre];exact S.nd.sublist (List.take_sublist _ _)
  refine⟨u,rv,?_⟩
  rcases S.par y (ae hp) with k | k
  ·exact .inl ⟨k,ZX ndP hp hu k⟩
  ·obtain⟨c,e⟩:=YW (n:=s.heap.objs.size+1) k
   refine .inr ⟨.inl k,c,e,?_⟩
   have q:=x.cell y c e
   rw[Zd ndP hp hu (by show scope.names.lookup y≠_;rw[k];decide)] at q
   exact q
 ·exact e0.hok.fresh (dg (x.above y c (bQ h)))
 ·unfold start
  show _=N.length
  rw[am,af,bU]
  lia
theorem QC{CX:CXT}{P:oV}{w:oX}{K:oO}{mg:oW->Option oQ}{base:pb}{k:Nat}{f:oP}{name qual:oW}{params:rp}{body:List pf}{scope:pJ}{dV kV doc pm cdv ct oc:oQ}{an od:Option oP}
  {osl:Array (Option oQ)} {N ps:List oW} {sp:Sp} (lk:K.lookup f=sE ⟨oc,od,.func (av name qual params body scope dV kV doc pm an cdv ct),osl⟩) (hcd:ar K cdv qual=sG) (S:zr N ps scope)
  (len:∀vs H Q E,sp vs H Q E->vs.length=ps.length)
  (hbody:∀(A:oY) (outer:List rK) (s:oR) (H:Hp) (vs:List V) (Q:VK) (E:XK),Room k (A.deeper (rm qual scope s.heap.objs.size f cdv))->sp vs H Q E ->
   ∃t,PSs (uQ CX P w K mg base N qual scope f cdv A outer s H E) body t/\t { nx:=λ_ H'=>Q .non H',rt:=Q } (start N vs) H) :
  yg P w K mg base CX (k+1) f (av name qual params body scope dV kV doc pm an cdv ct) ps sp:=by
 refine⟨len,λA outer s H args us vs Q E hr e0 hb r hsp=>?_⟩
 have hl:=len _ _ _ _ hsp
 have KX:K.In s.heap:=e0.mod.kin.keeps λb o e=>(e0.bs b o e).1
 have lim:s.heap.NoLimit:=e0.mod.nolimit.keeps λb o e=>(e0.bs b o e).1
 have hkind:∀y ∈ ps.zip us,scope.names.lookup y.1=sE .local\/(scope.names.lookup y.1=sE .cell/\((cellsFrom (s.heap.objs.size+1) scope.names []).lookup y.1).isSome=sG):=λ⟨n,v⟩ hy=>by
  rcases S.par n (db hy).1 with q | q
  ·exact .inl q
  ·exact .inr ⟨q,eM _ _ _ (.inl q)⟩
 refine codeAny_call_function hr.depth (KX _ _ lk) rfl S.co S.gen rfl (PySem.W.codeRec_of KX hcd) (hb _ _ _ _ ?_)
 refine wpAny_newFunctionEnv_cells S.kind hkind λenv he s1 x=>?_
 subst he
 refine⟨lim.keeps x.toInCall.keep,codeAny_func ?_⟩
 obtain⟨t,ht,hq⟩:=hbody A outer s H vs Q E (hr.deeper _) hsp
 have I:Inv (uQ CX P w K mg base N qual scope f cdv A outer s H E) [] (start N vs) H s1:=WP S hr.hd e0 hl r x
 refine pS (ht [] s1 (start N vs) H _ I hq) (λfl s' hs=>?_) λe s' hs=>hs
 have fin:∀{σ':St} {H':Hp} {v:V} {u:oQ},Inv (uQ CX P w K mg base N qual scope f cdv A outer s H E) [] σ' H' s'->RelV v u->Q v H'->CE outer P w H s Q u s' :=
  λ{σ' H' v u} J rv q=>⟨v,H',J.os,J.bare,J.base,J.hok,rv,q⟩
 cases fl with
 | ret u =>
  obtain⟨v,σ',H',J,rv,q⟩:=hs
  exact fin J rv q
 | next =>
  obtain⟨σ',H',J,q⟩:=hs
  exact fin (v:=V.non) (u:=Value.none) J rfl q
 | brk =>
  obtain⟨_,_,_,q⟩:=hs
  exact False.elim q
 | cont =>
  obtain⟨_,_,_,q⟩:=hs
  exact False.elim q
end L2
namespace L2
section
variable{X:Cx}{x:oW}{p pos:pR}{e:oZ}{es:List oZ}{t:TA}{id T:String}{r:List V->Hp->VK->Prop}
def tCB(r:List V->Hp->VK->Prop)(t:TA):TE:=λσ H Q=>t σ H λvs H1=>r vs H1 Q
theorem zt(hc:vR X (.builtin id) r)(hg:Gl X x)(hm:X.mg x=sF)(hv:pE x=sE (.builtin id))(ha:PA X (e::es) t)(hn:x≠"__name__":=by decide)(hdb:(x == ("__debug__" : oW))=sH:=by decide)
  (he:oM (e::es) X.env=(sH,eval e X.env)::oM es X.env:=by rfl) (hpl:(pj pos (oM es X.env)).any (·.1)=sH:=by rfl):PE X (.Call (.Name x p) (e::es) [] pos) (tCB r t):=by
 intro sI s σ H Q I h
 refine px (vd I hg hm hv ?_ hn hdb)
 exact PyProof.Rows.callWith_builtin1 (thn (ha pos sI s σ H _ I h) λus s1 ⟨vs,H1,I1,r1,q1⟩=>hc sI s1 σ H1 vs us Q I1 r1 q1) he hpl
theorem wN(hc:vR X (.type T) r)(hg:Gl X x)(hm:X.mg x=sF)(hv:pE x=sE (.type T))(ha:PA X (e::es) t)(hn:x≠"__name__":=by decide)(hdb:(x == ("__debug__" : oW))=sH:=by decide)
  (he:oM (e::es) X.env=(sH,eval e X.env)::oM es X.env:=by rfl) (hpl:(pj pos (oM es X.env)).any (·.1)=sH:=by rfl):PE X (.Call (.Name x p) (e::es) [] pos) (tCB r t):=by
 intro sI s σ H Q I h
 refine px (vd I hg hm hv ?_ hn hdb)
 exact bB (thn (ha pos sI s σ H _ I h) λus s1 ⟨vs,H1,I1,r1,q1⟩=>hc sI s1 σ H1 vs us Q I1 r1 q1) he hpl
end
end L2
namespace HT
open PySem PyProof.Rows
section
open PySem.SeqAt
open PySem.AutoSeq1 (wpAny_loadPart')
open PySem.MeetsSeq PySem.MeetsSeq2 PySem.MeetsSeq3
end
section
variable{prog:oV}{w:oX}{A:oY}{E:oQ->oR->Prop}{s:oR}
noncomputable def sIx(n d:Nat):Option Int->Nat
 | none=>d
 | some v=>if v<0 then (v+(n:Int)).toNat else min v.toNat n
theorem sIx_none(n d:Nat):sIx n d sF=d:=rfl
theorem sIx_nat(n d k:Nat):sIx n d (sE (k:Int))=min k n:=by
 show (if (k:Int)<0 then ((k:Int)+(n:Int)).toNat else min (k:Int).toNat n)=min k n
 rw[if_neg (by lia),aO]
theorem sIx_le(n d:Nat)(hd:d<=n)(o:Option Int):sIx n d o<=n:=by
 cases o with
 | none=>exact hd
 | some v =>
  show (if v<0 then (v+(n:Int)).toNat else min v.toNat n)<=n
  by_cases hv:v<0
  ·rw[if_pos hv];lia
  ·rw[if_neg hv];exact Nat.min_le_right _ _
end
end HT
namespace L2
noncomputable abbrev TO:=St->Hp->(Option Int->Hp->Prop)->Prop
def PO(X:Cx)(e:Option oZ)(t:TO):Prop :=
 ∀(sI:List (oP × pC)) (s:oR) (σ:St) (H:Hp) (Q:Option Int->Hp->Prop),Inv X sI σ H s->t σ H Q ->
  oS (model X.prog X.w) X.A (evalPart e X.env) (λu s'=>∃o H',Inv X sI σ H' s'/\IsPart u o/\Q o H') X.xe s
def W0:TO:=λ_ H Q=>Q sF H
def zaX(t:TE):TO:=λσ H Q=>t σ H λx H1=>∃i,x=.int i/\Q (sE i) H1
section
variable{X:Cx}{e:oZ}{te:TE}{lo hi:Option oZ}{tl th:TO}{pos p2:pR}
theorem xE:PO X sF W0:=by
 intro sI s σ H Q I h
 rw[evalPart_none]
 exact oJ ⟨sF,H,I,.none,h⟩
theorem yj(h:PE X e te):PO X (sE e) (zaX te):=by
 intro sI s σ H Q I hw
 rw[evalPart_some]
 refine thn (h sI s σ H _ I hw) λu s1 ⟨x,H1,I1,r1,q1⟩=>?_
 obtain⟨i,rfl,q⟩:=q1
 obtain⟨t,rfl⟩:=r1
 exact⟨sE i,H1,I1,.int i t,q⟩
def SlR(X:Cx)(r:V->Option Int->Option Int->Hp->VK->Prop):Prop :=
 ∀(sI:List (oP × pC)) (s:oR) (σ:St) (H:Hp) (x:V) (v vl vu:oQ) (lo hi:Option Int) (sl:oP) (Q:VK),Inv X sI σ H s->RelV x v->s.heap.IsSliceOf sl vl vu .none->IsPart vl lo->IsPart vu hi->r x lo hi H Q ->
  ∃T id,typeLookup (.type T) "__getitem__" = pure (sE (.builtin id))/\s.TypeIs v T/\oS (model X.prog X.w) X.A (getItem v (.ref sl)) (EP X sI σ Q) X.xe s
theorem SlR.or{r r':V->Option Int->Option Int->Hp->VK->Prop}(h:SlR X r)(h':SlR X r'):SlR X (λx lo hi H Q=>r x lo hi H Q\/r' x lo hi H Q):=by
 intro sI s σ H x v vl vu lo hi sl Q I rx hs pl pu q
 rcases q with q | q
 ·exact h sI s σ H x v vl vu lo hi sl Q I rx hs pl pu q
 ·exact h' sI s σ H x v vl vu lo hi sl Q I rx hs pl pu q
def tSl(r:V->Option Int->Option Int->Hp->VK->Prop)(te:TE)(tl th:TO):TE:=λσ H Q=>te σ H λx H1=>tl σ H1 λl H2=>th σ H2 λu H3=>r x l u H3 Q
theorem yl{r:V->Option Int->Option Int->Hp->VK->Prop}(hr:SlR X r)(he:PE X e te)(hl:PO X lo tl)(hu:PO X hi th):PE X (.Subscript e (.Slice lo hi sF p2) pos) (tSl r te tl th):=by
 intro sI s σ H Q I h
 refine sA (thn (he sI s σ H _ I h) λv s1 ⟨x,H1,I1,r1,q1⟩=>?_)
 refine wpAny_Slice (thn (hl sI s1 σ H1 _ I1 q1) λvl s2 ⟨l,H2,I2,pl,q2⟩=>thn (hu sI s2 σ H2 _ I2 q2) λvu s3 ⟨u,H3,I3,pu,q3⟩=>?_)
 rw[evalPart_none]
 refine oJ ?_
 have I4:Inv X sI σ H3 { s3 with heap:=s3.heap.push { cls:=.type "slice",data:=.fields #[vl,vu,.none] } }:=I3.kept (t':=s3.toks) λb ob q=>aa _ q
 obtain⟨T,id,hT,ht,hg⟩:=hr sI { s3 with heap:=s3.heap.push { cls:=.type "slice",data:=.fields #[vl,vu,.none] } } σ H3 x v vl vu l u s3.heap.objs.size Q I4 r1 (Heap.IsSliceOf.new ..) pl pu q3
 show oS (model X.prog X.w) X.A (rV e (.Slice lo hi sF p2) v (.ref s3.heap.objs.size)) (EP X sI σ Q) X.xe { s3 with heap:=s3.heap.push { cls:=.type "slice",data:=.fields #[vl,vu,.none] } }
 exact tail_any (ops:=[.ref s3.heap.objs.size,v]) ht hT hg (by with_unfolding_all rfl)
noncomputable def JM(xs:List V)(lo hi:Option Int):List V:=(xs.drop (HT.sIx xs.length 0 lo)).take (HT.sIx xs.length xs.length hi - HT.sIx xs.length 0 lo)
theorem Yh(xs:List V)(lo hi:Option Int):(JM xs lo hi).length<=xs.length:=by
 unfold JM
 rw[aK,ba]
 lia
end
end L2
namespace L2
noncomputable def ixN(n:Nat)(i:Int):Option Nat:=if 0<=i then (if i<n then sE i.toNat else sF) else if -(n:Int)<=i then sE (i+n).toNat else sF
noncomputable def atI{α:Type}(xs:List α)(i:Int):Option α:=(ixN xs.length i).bind λj=>xs[j]?
theorem JE{n:Nat}{i:Int}{j:Nat}(h:ixN n i=sE j):seqIndex? i n=sE j/\j<n/\-(n:Int)<=i/\i<n:=by
 unfold ixN at h
 by_cases h0:0<=i
 ·rw[if_pos h0] at h
  by_cases h1:i<n
  ·rw[if_pos h1] at h
   have e:i.toNat=j:=Option.some.inj h
   exact⟨by rw[seqIndex_of h0 h1,e],by lia,by lia,h1⟩
  ·rw[if_neg h1] at h;cases h
 ·rw[if_neg h0] at h
  by_cases h1:-(n:Int)<=i
  ·rw[if_pos h1] at h
   have e:(i+n).toNat=j:=Option.some.inj h
   exact⟨by rw[seqIndex_neg (by lia) h1,e],by lia,h1,by lia⟩
  ·rw[if_neg h1] at h;cases h
theorem Z8{α:Type}{xs:List α}{i:Int}{v:α}(h:atI xs i=sE v):∃j,seqIndex? i xs.length=sE j/\xs[j]? = sE v/\j<xs.length/\-(xs.length:Int)<=i/\i<xs.length:=by
 unfold atI at h
 cases e:ixN xs.length i with
 | none=>rw[e] at h;cases h
 | some j =>
  rw[e] at h
  obtain⟨h1,h2,h3,h4⟩:=JE e
  exact⟨j,h1,h,h2,h3,h4⟩
theorem Ye{α:Type}{xs:List α}{j:Nat}{v:α}(h:xs[j]? = sE v):atI xs (j:Int)=sE v:=by
 have hj:j<xs.length:=(List.getElem?_eq_some_iff.mp h).1
 have e:ixN xs.length (j:Int)=sE j:=by
  unfold ixN
  rw[if_pos (by lia),if_pos (by lia)];simp
 unfold atI;rw[e];exact h
def KO(b:oZ):Prop:=∀o i,subscripted b sH o i=operate [o,i] (getItem o i)
def IxR(X:Cx)(r:R2):Prop :=
 ∀(value slice:oZ) (sI:List (oP × pC)) (s:oR) (σ:St) (H:Hp) (x y:V) (v u:oQ) (Q:VK),Inv X sI σ H s->RelV x v->RelV y u->r x y H Q ->
  subscripted slice sH v u=operate [v,u] (getItem v u)->oS (model X.prog X.w) X.A (rV value slice v u) (EP X sI σ Q) X.xe s
def MtR(X:Cx)(id:String)(r:V->List V->Hp->VK->Prop):Prop :=
 ∀(sI:List (oP × pC)) (s:oR) (σ:St) (H:Hp) (x:V) (xs:List V) (v:oQ) (us:List oQ) (Q:VK),Inv X sI σ H s->RelV x v->Vals xs us->r x xs H Q ->
  oS (model X.prog X.w) X.A (call (.builtin id) (v::us)) (EP X sI σ Q) X.xe s
section
variable{X:Cx}{a b:oZ}{ta tb:TE}{pos:pR}
theorem IxR.or{r r':R2}(h:IxR X r)(h':IxR X r'):IxR X (λx y H Q=>r x y H Q\/r' x y H Q):=by
 intro value slice sI s σ H x y v u Q I rx ry q hs
 rcases q with q | q
 ·exact h value slice sI s σ H x y v u Q I rx ry q hs
 ·exact h' value slice sI s σ H x y v u Q I rx ry q hs
theorem zx{r:R2}(hr:IxR X r)(ha:PE X a ta)(hb:PE X b tb)(hs:KO b):PE X (.Subscript a b pos) (tOp r ta tb):=by
 intro sI s σ H Q I h
 exact sA (zcn ha hb I h λv u s2 x y H2 I2 rx ry q=>hr a b sI s2 σ H2 x y v u Q I2 rx ry q (hs _ _))
def zcm(K:oO):R2:=λx y H Q=>∃p xs i v,x=.ref p/\y=.int i/\SqL K H p xs/\atI xs i=sE v/\Q v H
def qI(K:oO):R2:=λx y H Q=>∃p xs i v,x=.ref p/\y=.int i/\SqT K H p xs/\atI xs i=sE v/\Q v H
def zbL:R2:=λx y H Q=>∃z i c,x=.str z/\y=.int i/\z.length<=oN/\atI z.cps.toList i=sE c/\Q (.str ⟨#[c]⟩) H
theorem ix_list:IxR X (zcm X.K):=by
 intro value slice sI s σ H x y v u Q I rx ry h hs
 obtain⟨p,xs,i,z,rfl,rfl,hq,he,q⟩:=h
 cases rx
 obtain⟨t,rfl⟩:=ry
 obtain⟨its,r,pl,hz⟩:=I.list hq
 obtain⟨j,h1,h2,h3,h4,h5⟩:=Z8 he
 obtain⟨w,ew,rw'⟩:=r.get h2
 have hl:=r.length
 have hn:=Zj
 have fin:EP X sI σ Q w s:=⟨z,H,I,rw',q⟩
 by_cases h0:0<=i
 ·have hj:i.toNat=j:=by
   rw[seqIndex_of h0 h5] at h1
   exact Option.some.inj h1
  exact item_listR pl.isList h0 (by lia) (by rw[hj];simpa using ew) fin hs
 ·have hj:(i+(its.toArray.size:Int)).toNat=j:=by
   rw[seqIndex_neg (by lia) h4] at h1
   rw[au,<- hl]
   exact Option.some.inj h1
  exact rG (x:=w) pl.isList.typeIs slot_list_getitem.lookup
   (wpAny_getItem_list_neg (Q:=λr s'=>r=w/\EP X sI σ Q r s') pl.isList (by lia) (by rw[au] <;> lia) (by lia) (by rw[hj];simpa using ew) ⟨rfl,fin⟩) hs
theorem ix_tup:IxR X (qI X.K):=by
 intro value slice sI s σ H x y v u Q I rx ry h hs
 obtain⟨p,xs,i,z,rfl,rfl,hq,he,q⟩:=h
 cases rx
 obtain⟨t,rfl⟩:=ry
 obtain⟨its,r,pl,hz⟩:=I.tuple hq
 obtain⟨j,h1,h2,h3,h4,h5⟩:=Z8 he
 obtain⟨w,ew,rw'⟩:=r.get h2
 have hl:=r.length
 have hn:=Zj
 have fin:EP X sI σ Q w s:=⟨z,H,I,rw',q⟩
 exact rG (x:=w) pl.typeIs slot_tuple_getitem.lookup
  (getItem_tuple (j:=j) (Q:=λr s'=>r=w/\EP X sI σ Q r s') pl (by lia) (by lia) (by rw[au,<- hl];exact h1) (by simpa using ew) ⟨rfl,fin⟩) hs
theorem VY:IxR X zbL:=by
 intro value slice sI s σ H x y v u Q I rx ry h hs
 obtain⟨z,i,c,rfl,rfl,hz,he,q⟩:=h
 obtain⟨t,rfl⟩:=rx
 obtain⟨t',rfl⟩:=ry
 obtain⟨j,h1,h2,h3,h4,h5⟩:=Z8 he
 have hl:z.cps.toList.length=z.length:=by simp [Str.length]
 rw[hl] at h1 h4 h5
 have hn:=Zj
 exact tail_any (typeIs_str s z t) slot_str_getitem.lookup (getItem_str (c:=c) (by
  have e1:decide (i < -(2 ^ 63:Int))=sH:=decide_eq_false (by lia)
  have e2:decide (i ≥ 2 ^ 63)=sH:=decide_eq_false (by lia)
  rw[e1,e2,Bool.or_false]) (by rw[h1];simpa using h2) ⟨.str ⟨#[c]⟩,H,I.tok _,⟨_,rfl⟩,q⟩) hs
def rIx(K:oO):R2:=λx y H Q=>zcm K x y H Q\/qI K x y H Q\/zbL x y H Q
theorem WV:IxR X (rIx X.K):=ix_list.or (ix_tup.or VY)
theorem Inv.lst{sI:List (oP × pC)}{σ:St}{H:Hp}{s:oR}{p:oP}{xs:List V}(I:Inv X sI σ H s)(h:H p=sE (.lst xs)) :
  ∃(its:List oQ) (n:Nat),Vals xs its/\s.heap.get? p=sE { cls:=.type "list",data:=.seq its.toArray n }/\xs.length<=oN:=by
 obtain⟨z,its,n,r,e⟩:=I.hok p _ h
 exact⟨its,n,r,e,z⟩
theorem Zq(lo hi:Option Int)(n:Nat):(sliceBounds lo hi sF n).1=((HT.sIx n 0 lo:Nat):Int)/\(sliceBounds lo hi sF n).2.1=((HT.sIx n n hi:Nat):Int)/\(sliceBounds lo hi sF n).2.2=1:=by
 refine⟨?_,?_,rfl⟩
 ·cases lo with
  | none=>simp [sliceBounds,HT.sIx]
  | some i =>
   simp only[sliceBounds,HT.sIx,fv,show (1:Int) > 0 by decide,if_true]
   by_cases h:i<0
   ·simp only[h,if_true] <;> lia
   ·simp only[h,if_false] <;> lia
 ·cases hi with
  | none=>simp [sliceBounds,HT.sIx]
  | some i =>
   simp only[sliceBounds,HT.sIx,fv,show (1:Int) > 0 by decide,if_true]
   by_cases h:i<0
   ·simp only[h,if_true] <;> lia
   ·simp only[h,if_false] <;> lia
theorem kB(its:List oQ)(lo hi:Option Int):slicePick its.toArray lo hi sF=((its.drop (HT.sIx its.length 0 lo)).take (HT.sIx its.length its.length hi - HT.sIx its.length 0 lo)).toArray:=by
 obtain⟨h1,h2,h3⟩:=Zq lo hi its.toArray.size
 unfold slicePick
 rw[h1,h2,h3]
 simp only[sliceRange_one,pick_run,au] <;> rfl
def zci(K:oO):V->Option Int->Option Int->Hp->VK->Prop:=λx lo hi H Q=>∃a xs,x=.ref a/\SqL K H a xs/\∀p,H p=sF->Q (.ref p) (upd H p (.lst (JM xs lo hi)))
theorem sl_list:SlR X (zci X.K):=by
 intro sI s σ H x v vl vu lo hi sl Q I rx hs pl pu h
 obtain⟨a,xs,rfl,hx,q⟩:=h
 cases rx
 obtain⟨its,r,ht,hz⟩:=I.list hx
 have hlen:=r.length
 refine⟨"list",_,slot_list_getitem.lookup,ht.isList.typeIs,?_⟩
 refine wpAny_getItem_list_slice ht.isList hs pl pu .none (by simp) ?_ (by rw[au] <;> lia)
 rw[kB,<- hlen]
 refine⟨.ref s.heap.objs.size,_,I.laid (t':=s.toks) (o:=.lst (JM xs lo hi)) (λb ob q=>aa _ q) (aq _) ?_,rfl,q _ (I.hok.fresh (aq _))⟩
 exact⟨aR (Yh xs lo hi) hz,_,0,(r.drop (HT.sIx xs.length 0 lo)).take (HT.sIx xs.length xs.length hi - HT.sIx xs.length 0 lo),aI _ rfl⟩
noncomputable def zam:V->Bool
 | .non=>sG
 | .bl _=>sG
 | .int _=>sG
 | .str _=>sG
 | _=>sH
noncomputable def eqV:V->V->Bool
 | .non,.non=>sG
 | .bl a,.bl b=>a == b
 | .bl a,.int b=>(if a then 1 else 0) == b
 | .int a,.bl b=>a == (if b then 1 else 0)
 | .int a,.int b=>a == b
 | .str a,.str b=>a == b
 | _,_=>sH
theorem Xp{A:oY}{s:oR}{y x:V}{u v:oQ}(ry:RelV y u)(rx:RelV x v)(fy:zam y=sG)(fx:zam x=sG):SeqAt.EqAt A s u v (eqV y x):=by
 cases y with
 | non =>
  cases ry
  cases x with
  | non=>cases rx;exact SeqAt.EqAt.same _
  | bl b=>cases rx;exact SeqAt.EqAt.none_bool b
  | int b=>obtain⟨t,rfl⟩:=rx;exact SeqAt.EqAt.none_int b t
  | str b=>obtain⟨t,rfl⟩:=rx;exact SeqAt.EqAt.none_str b t
  | _=>exact absurd (show sH=sG from fx) aG
 | bl a =>
  cases ry
  cases x with
  | non=>cases rx;exact SeqAt.EqAt.bool_none a
  | bl b=>cases rx;exact SeqAt.EqAt.bool_bool a b
  | int b=>obtain⟨t,rfl⟩:=rx;exact SeqAt.EqAt.bool_int a b t
  | str b=>obtain⟨t,rfl⟩:=rx;exact SeqAt.EqAt.bool_str a b t
  | _=>exact absurd (show sH=sG from fx) aG
 | int a =>
  obtain⟨t',rfl⟩:=ry
  cases x with
  | non=>cases rx;exact SeqAt.EqAt.int_none a t'
  | bl b=>cases rx;exact SeqAt.EqAt.int_bool a t' b
  | int b=>obtain⟨t,rfl⟩:=rx;exact SeqAt.EqAt.int_int a t' b t
  | str b=>obtain⟨t,rfl⟩:=rx;exact SeqAt.EqAt.int_str a t' b t
  | _=>exact absurd (show sH=sG from fx) aG
 | str a =>
  obtain⟨t',rfl⟩:=ry
  cases x with
  | non=>cases rx;exact SeqAt.EqAt.str_none a t'
  | bl b=>cases rx;exact SeqAt.EqAt.str_bool a t' b
  | int b=>obtain⟨t,rfl⟩:=rx;exact SeqAt.EqAt.str_int a t' b t
  | str b=>obtain⟨t,rfl⟩:=rx;exact SeqAt.EqAt.str_str a t' b t
  | _=>exact absurd (show sH=sG from fx) aG
 | _=>exact absurd (show sH=sG from fy) aG
theorem xN:vR X (.type "list") (λxs H Q=>∃p ys,xs=[.ref p]/\(SqL X.K H p ys\/SqT X.K H p ys)/\∀l,H l=sF->Q (.ref l) (upd H l (.lst ys))):=by
 intro sI s σ H xs us Q I r h
 obtain⟨p,ys,rfl,hq,q⟩:=h
 obtain⟨u,rfl,rx⟩:=wP r
 cases rx
 have fin:∀(its:List oQ),Vals ys its->ys.length<=oN->∀(h':pb) (c':Nat),(∀b o',s.heap.get? b=sE o'->h'.get? b=sE o') ->
   h'.get? s.heap.objs.size=sE { cls:=.type "list",dict:=sF,data:=.seq its.toArray c',slots:=#[] }->EP X sI σ Q (.ref s.heap.objs.size) { s with heap:=h' }:=λits r' hz h' c' kp e =>
  ⟨.ref s.heap.objs.size,_,I.laid (t':=s.toks) kp (aq _) (show ObjOk X.prog X.w _ h' _ (.lst ys) from ⟨hz,its,c',r',e⟩),rfl,q _ (I.hok.fresh (aq _))⟩
 rcases hq with hq | hq
 ·obtain⟨its,r',pl,hz⟩:=I.list hq
  have hlen:=r'.length
  obtain⟨o,ho,hc,n,hd⟩:=pl.isList
  exact call_list_seq p (.inl rfl) ho hc hd (λh' c' kp e=>fin its r' hz h' c' kp e) (by simp only[au] <;> lia)
 ·obtain⟨its,r',pl,hz⟩:=I.tuple hq
  have hlen:=r'.length
  obtain⟨o,ho,hc,n,hd⟩:=pl
  exact call_list_seq p (.inr rfl) ho hc hd (λh' c' kp e=>fin its r' hz h' c' kp e) (by simp only[au] <;> lia)
theorem j8:vR X (.type "tuple") (λxs H Q=>∃p ys,xs=[.ref p]/\((SqL X.K H p ys/\∀l,H l=sF->Q (.ref l) (upd H l (.tup ys)))\/(SqT X.K H p ys/\Q (.ref p) H))):=by
 intro sI s σ H xs us Q I r h
 obtain⟨p,ys,rfl,h⟩:=h
 obtain⟨u,rfl,rx⟩:=wP r
 cases rx
 rcases h with ⟨hq,q⟩ | ⟨hq,q⟩
 ·obtain⟨its,r',pl,hz⟩:=I.list hq
  have hlen:=r'.length
  refine call_tuple_list pl.isList (λh' kp=>?_) (by simp only[au] <;> lia)
  have I1:Inv X sI σ H { s with heap:=h' }:=I.kept (t':=s.toks) kp
  have I2:Inv X sI σ (upd H h'.objs.size (.tup ys)) { s with heap:=h'.push { cls:=.type "tuple",data:=.seq its.toArray } } :=
   I1.laid (t':=s.toks) (λb o e=>aa _ e) (aq _) (show ObjOk X.prog X.w _ _ _ (.tup ys) from ⟨hz,its,r',IsTup.new _ _⟩)
  exact⟨.ref h'.objs.size,_,I2,rfl,q _ (I1.hok.fresh (aq _))⟩
 ·obtain⟨its,r',pl,hz⟩:=I.tuple hq
  exact call_tuple_same pl ⟨.ref p,H,I,rfl,q⟩
def tyV(K:oO)(T:String)(x:V)(H:Hp):Prop:=match x with
 | .str _=>T="str"
 | .int _=>T="int"
 | .ref p=>(T="list"/\∃xs,SqL K H p xs)\/(T="tuple"/\∃o,K.lookup p=sE o/\o.cls=.type "tuple"/\o.dict=sF) \/
   (T="dict"/\((∃kvs,H p=sE (.dK kvs))\/∃kvs,H p=sE (.dT kvs)))\/(T="set"/\∃S n,H p=sE (.set S n))
 | _=>False
theorem zbh{sI:List (oP × pC)}{σ:St}{H:Hp}{s:oR}{T:String}{x:V}{v:oQ}(I:Inv X sI σ H s)(r:RelV x v)(ty:tyV X.K T x H) :
  s.TypeIs v T/\∀a,v=.ref a->∃ob,s.heap.get? a=sE ob/\ob.dict=sF:=by
 cases x with
 | str z =>
  obtain⟨t,rfl⟩:=r
  cases (show T="str" from ty)
  exact⟨typeIs_str s z t,λ_ e=>nomatch e⟩
 | int i =>
  obtain⟨t,rfl⟩:=r
  cases (show T="int" from ty)
  exact⟨typeIs_int s i t,λ_ e=>nomatch e⟩
 | ref p =>
  cases r
  rcases ty with ⟨rfl,xs,hq⟩ | ⟨rfl,o,hk,hc,hd⟩ | ⟨rfl,hk⟩ | ⟨rfl,S,n,hk⟩
  ·obtain⟨its,_,pl,_⟩:=I.list hq
   refine⟨pl.isList.typeIs,λa e=>?_⟩
   cases e
   obtain⟨o,n,e,c,hd,_⟩:=pl
   exact⟨o,e,hd⟩
  ·refine⟨⟨o,I.kIn p o hk,hc⟩,λa e=>?_⟩
   cases e
   exact⟨o,I.kIn _ o hk,hd⟩
  ·have z:∃o,s.heap.get? p=sE o/\o.ExactDict:=by
    rcases hk with ⟨kvs,hk⟩ | ⟨kvs,hk⟩
    ·obtain⟨_,_,_,_,o,_,_,e,ex,_⟩:=I.hok p _ hk
     exact⟨o,e,ex⟩
    ·obtain⟨_,_,_,_,o,_,_,e,ex,_⟩:=I.hok p _ hk
     exact⟨o,e,ex⟩
   obtain⟨o,e,ex⟩:=z
   refine⟨⟨o,e,ex.1⟩,λa e2=>?_⟩
   cases e2
   exact⟨o,e,ex.2.1⟩
  ·obtain⟨o,_,_,_,e,ex,_⟩:=I.hok p _ hk
   refine⟨⟨o,e,ex.1⟩,λa e2=>?_⟩
   cases e2
   exact⟨o,e,ex.2.1⟩
 | _=>exact False.elim ty
def zdj(K:oO)(T:String)(r:V->List V->Hp->VK->Prop)(to:TE):TE:=λσ H Q=>to σ H λx H1=>tyV K T x H1/\r x [] H1 Q
def tBM(K:oO)(T:String)(r:V->List V->Hp->VK->Prop)(to:TE)(t:TA):TE:=λσ H Q=>to σ H λx H1=>tyV K T x H1/\t σ H1 λxs H2=>r x xs H2 Q
variable{o e:oZ}{es:List oZ}{to:TE}{t:TA}{name:oW}{apos cpos:pR}{T id:String}{r:V->List V->Hp->VK->Prop}
theorem vt(pa:PlainAttrs T)(slot:Slot T name id)(hty:typeOf (.builtin id)=pure (.type "method_descriptor"))(hm:MtR X id r)(ho:PE X o to)(ha:PA X (e::es) t)
  (hbase:attributeBase o name X.env (eval o X.env)=eval o X.env:=by rfl)
  (hfew:((pj cpos (oM (e::es) X.env)).all (λx=>!x.1) && (pF cpos (ph [] X.env)).all (λx=>x.1.isSome)
   && decide ((e::es).length+([]:List sx).length+(if ([]:List sx).isEmpty then 0 else 1)<30))=sG:=by rfl)
  (hline:(apos.endLine == cpos.line)=sG:=by rfl) (hs:oM (e::es) X.env=(sH,eval e X.env)::oM es X.env:=by rfl) (hplain:(pj cpos (oM es X.env)).any (·.1)=sH:=by rfl) :
  PE X (.Call (.Attribute o name apos) (e::es) [] cpos) (tBM X.K T r to t):=by
 intro sI s σ H Q I h
 refine wpAny_Call_method_late hbase hfew hline rfl (thn (ho sI s σ H _ I h) λv s1 ⟨x,H1,I1,r1,ty,q1⟩=>?_)
 obtain⟨h1,h2⟩:=zbh I1 r1 ty
 refine⟨T,id,pa,slot,hty,h1,h2,?_⟩
 have hA:=ha cpos sI s1 σ H1 _ I1 q1
 rw[hs] at hA ⊢
 refine Calls.callWith_builtin (by show (sH || (pj cpos (oM es X.env)).any (·.1))=sH;rw[hplain] <;> rfl) (Calls.evalArgs_plain ?_)
 exact thn hA λus s2 ⟨vs,H2,I2,r2,q2⟩=>hm sI s2 σ H2 x vs v us Q I2 r1 r2 q2
/- xs.append(e),list.index on a module's tuple .. are MtR facts of 06m -/
end
end L2
namespace L2
def MtM(X:Cx)(id:String)(r:V->List V->Hp->VK->Prop):Prop :=
 ∀(sI:List (oP × pC)) (s:oR) (σ:St) (H:Hp) (x:V) (xs:List V) (v:oQ) (us:List oQ) (Q:VK),Inv X sI σ H s->RelV x v->Vals xs us->r x xs H Q ->
  oS (model X.prog X.w) X.A (call (.builtin id) (v::us)) (EP X sI σ Q) X.xe s
theorem Vals.one:∀{x:V} {us:List oQ},Vals [x] us->∃u,us=[u]/\RelV x u
 | _,_,.cons r .nil=>⟨_,rfl,r⟩
theorem Vals.two:∀{x y:V} {us:List oQ},Vals [x,y] us->∃u v,us=[u,v]/\RelV x u/\RelV y v
 | _,_,_,.cons r (.cons q .nil)=>⟨_,_,rfl,r,q⟩
theorem Vals.zero:∀{us:List oQ},Vals [] us->us=[]
 | _,.nil=>rfl
theorem Vals.reverse{xs:List V}{us:List oQ}(h:Vals xs us):Vals xs.reverse us.reverse:=by
 induction h with
 | nil=>exact .nil
 | cons r t ih=>rw[List.reverse_cons,List.reverse_cons];exact Vals.append ih (.cons r .nil)
section
variable{X:Cx}{sI:List (oP × pC)}{σ:St}{H:Hp}{s:oR}{l b:oP}{xs ys zs:List V}
theorem Inv.lset{its its':List oQ}{n:Nat}{f:Array oQ->Array oQ}{t':Nat}(I:Inv X sI σ H s)(hH:H l=sE (.lst xs))
  (e:s.heap.get? l=sE { cls:=.type "list",data:=.seq its.toArray n }) (hf:f its.toArray=its'.toArray) (hv:Vals ys its') (hz:ys.length<=oN) :
  Inv X sI σ (upd H l (.lst ys)) { s with heap:=s.heap.update l (Obj.mapSeq f),toks:=t' }:=by
 have q:=PySem.IsL.update e f
 rw[hf] at q
 refine I.write (x:=l) (e:=l) (by rw[hH];exact trivial) (.inl rfl) (λb' u hb hu=>(aL s.heap (Obj.mapSeq f) (Ne.symm hb)).trans hu) ⟨_,q⟩ ?_
 exact⟨hz,its',_,hv,q⟩
theorem Inv.lnew{its:List oQ}{t':Nat}(I:Inv X sI σ H s)(hv:Vals ys its)(hz:ys.length<=oN) :
  Inv X sI σ (upd H s.heap.objs.size (.lst ys)) { s with heap:=s.heap.push { cls:=.type "list",data:=.seq its.toArray },toks:=t' } :=
 I.laid (λ_ _ q=>aa _ q) (aq _) ⟨hz,its,0,hv,aI _ rfl⟩
theorem Inv.fresh(I:Inv X sI σ H s):H s.heap.objs.size=sF:=I.hok.fresh (aq _)
theorem Inv.lstM(I:Inv X sI σ H s)(hH:H l=sE (.lst xs)):xs.length<=oN/\∃(its:List oQ) (n:Nat),Vals xs its/\xs.length=its.length/\s.heap.get? l=sE { cls:=.type "list",data:=.seq its.toArray n }:=by
 obtain⟨z,its,n,r,e⟩:=I.hok l _ hH
 exact⟨z,its,n,r,r.length,e⟩
theorem UA{n:Nat}(h:n<=oN):Builtin.List.listTooLong n=sH:=by
 unfold Builtin.List.listTooLong
 exact decide_eq_false (by lia)
end
section
variable{X:Cx}
def WJ:V->List V->Hp->VK->Prop:=λx vs H Q=>∃l xs y,x=.ref l/\vs=[y]/\H l=sE (.lst xs)/\xs.length<oN/\Q .non (upd H l (.lst (xs ++ [y])))
theorem xH:MtM X "list.append" WJ:=by
 intro sI s σ H x vs v us Q I rx rv h
 obtain⟨l,xs,y,rfl,rfl,hH,hz,q⟩:=h
 cases rx
 obtain⟨u,rfl,ru⟩:=rv.one
 obtain⟨z,its,n,r,hl,e⟩:=I.lstM hH
 refine call_meets F.slot_list_append ⟨_,e,rfl⟩ F.entry_list_append (F.args_list_append_2 _ _) (PySem.list_append l its.toArray n u (by rw[au];lia)) ⟨e,?_⟩
 refine⟨.non,_,I.lset (its':=its ++ [u]) hH e (by simp) (r.append (.cons ru .nil)) ?_,rfl,q⟩
 rw[am,cP]
 lia
def Wx:V->List V->Hp->VK->Prop:=λx vs H Q=>∃l b xs zs,x=.ref l/\vs=[.ref b]/\H l=sE (.lst xs)/\H b=sE (.lst zs)/\xs.length+zs.length<=oN/\Q .non (upd H l (.lst (xs ++ zs)))
theorem V0:MtM X "list.extend" Wx:=by
 intro sI s σ H x vs v us Q I rx rv h
 obtain⟨l,b,xs,zs,rfl,rfl,hH,hB,hz,q⟩:=h
 cases rx
 obtain⟨u,rfl,ru⟩:=rv.one
 cases ru
 obtain⟨z,its,n,r,hl,e⟩:=I.lstM hH
 obtain⟨z2,its2,n2,r2,hl2,e2⟩:=I.lstM hB
 have hsz:its.toArray.size+its2.toArray.size<=oN:=by rw[au,au];lia
 have hlong:¬ (!its.toArray.isEmpty && Builtin.List.listTooLong (its.toArray.size+its2.toArray.size))=sG:=by
  rw[UA hsz,eR]
  exact aG
 refine call_meets F.slot_list_extend ⟨_,e,rfl⟩ F.entry_list_extend (F.args_list_extend_2 _ _)
  (AutoSeq1.list_extend_list_list_0 l its.toArray n b its2.toArray n2 hlong (by rw[au];lia) (by lia)) ⟨e,e2,?_⟩
 refine⟨.non,_,I.lset (its':=its ++ its2) hH e (by simp) (r.append r2) ?_,rfl,q⟩
 rw[am]
 lia
def zcq:R2:=λx y H Q=>∃l b xs zs,x=.ref l/\y=.ref b/\H l=sE (.lst xs)/\H b=sE (.lst zs)/\xs.length+zs.length<=oN/\∀p,H p=sF->Q (.ref p) (upd H p (.lst (xs ++ zs)))
theorem Vx:OpR X (binaryOp .Add) zcq:=by
 intro sI s σ H x y v u Q I rx ry h
 obtain⟨l,b,xs,zs,rfl,rfl,hH,hB,hz,q⟩:=h
 cases rx
 cases ry
 obtain⟨z,its,n,r,hl,e⟩:=I.lstM hH
 obtain⟨z2,its2,n2,r2,hl2,e2⟩:=I.lstM hB
 refine PySem.P.add_list e e2 ?_ (by rw[au,au];lia)
 have ea:its.toArray ++ its2.toArray=(its ++ its2).toArray:=by simp
 rw[ea]
 exact⟨.ref _,_,I.lnew (t':=s.toks) (r.append r2) (by rw[am];lia),rfl,q _ I.fresh⟩
theorem len_rep{α:Type}(xs:List α)(k:Nat):(aZ k xs).flatten.length=k * xs.length:=by
 induction k with
 | zero=>simp
 | succ k ih=>rw[cY,dn,am,ih,d8,Nat.add_comm]
end
section
variable{prog:oV}{w:oX}{A:oY}{E:oQ->oR->Prop}{s:oR}
end
section
variable{X:Cx}
end
end L2
namespace Att
open PySem PySem.W PySem.Calls PyProof.Rows
theorem qD{P:Params}{h:pb}:∀(ns:List Int) (vs:List oQ),WellAll P h vs (ns.map WData.int)->sk vs ns:=by
 intro ns
 induction ns with
 | nil =>
  intro vs w
  rw[aP] at w
  cases w
  exact .nil
 | cons n ns ih =>
  intro vs w
  rw[az] at w
  cases w with
  | cons a b =>
   cases a
   exact .cons _ _ (ih _ b)
theorem script_of{l:OpenLaw}{n:Nat}(hn:l.most=sE n){P:Params}{h:pb}{args:List WData}{vals:List oQ}
  (hpre:l.row.toRowW.claim.pre args=sG) (hwl:WellAll P h vals args) :
  ∃a vs ns,vals=[Value.ref a]/\args=[WData.list (ns.map WData.int)]/\h.get? a=sE { cls:=.type "list",data:=.seq vs.toArray }/\sk vs ns/\ns.length<=n:=by
 have hsh:WShape.hasAll [] args [.list .int]=sG:=(pre_splitW hpre).1
 have hc:l.pre.holds [] { args:=args }=sG:=(pre_splitW hpre).2
 obtain⟨d,r,rfl,h1,h2⟩:=hasAllW_cons hsh
 obtain rfl:=hasAllW_nil h2
 obtain⟨xs,rfl,h3⟩:=hasW_list h1
 obtain⟨ns,rfl⟩:=items_int h3
 have hlen:ns.length<=n:=by
  unfold OpenLaw.pre at hc
  have h4:(WTm.not (.lt (.lit (.int (n:Int))) (.len (.arg 0)))).holds [] { args:=[.list (ns.map .int)] }=sG:=by
   have h4:=(holds_andW hc).1
   rw[hn] at h4
   exact h4
  have h5:=condW_of h4 (w_not (w_lt w_lit (w_len_list (w_arg rfl))))
  rw[af] at h5
  refine cU λq=>?_
  have q':(n:Int)<((ns.length:Nat):Int):=by lia
  first
   | (rw[decide_eq_true q'] at h5;exact absurd h5 (by decide))
   | (simp at h5;lia)
 cases hwl with
 | cons w1 w2 =>
  cases w2
  cases w1 with
  | list ho hall=>exact⟨_,_,ns,rfl,rfl,ho,qD ns _ hall,hlen⟩
theorem post_true(l:OpenLaw)(args:List WData):l.row.toRowW.claim.post args (.bool sG) args=sG :=
 postW_of (r:=l.row.toRowW) (X:=(sG == sG))
  (show WShape.has [] (.bool sG) .bool=sG by first | rfl | decide | simp [WShape.has,WShape.arms,WShape.armsAll])
  (show (WTm.eq .res (.lit (.bool sG))).value [] { args:=args,res:=sE (.bool sG),after:=args }=sE (.bool (sG == sG)) from w_eq_bool (w_res rfl) w_lit) rfl
section
variable{prog:oV}{w:oX}{A:oY}{E:oQ->oR->Prop}{s:oR}{K:Frag}
noncomputable def zcR(h:pb)(L d:oP):List (oP × pC):=(aX h.objs.size).filterMap λa=>if a=L\/a=d then sF else (h.get? a).map λo=>(a,o)
end
end Att
namespace L2
theorem Zc:∀{vs:List oQ} {ns:List Int},sk vs ns->Vals (ns.map V.int) vs
 | _,_,.nil=>.nil
 | _,_,.cons n t h=>.cons ⟨t,rfl⟩ (Zc h)
end L2
namespace L2
end L2
namespace L2
noncomputable def xq(s:pf)(j:Nat):pf:=match s with
 | .ClassDef _ _ _ body _ _ _ _ _ _ _=>body.getD j (.Pass ⟨0,0,0,0⟩)
 | _=>.Pass ⟨0,0,0,0⟩
noncomputable def zp(s:pf):rp:=match s with
 | .FunctionDef _ a _ _ _ _ _ _ _ _=>a
 | _=>{ posonlyargs:=[],args:=[],vararg:=sF,kwonlyargs:=[],kw_defaults:=[],kwarg:=sF,defaults:=[] }
noncomputable def zl(s:pf):List pf:=match s with
 | .FunctionDef _ _ b _ _ _ _ _ _ _=>b
 | _=>[]
noncomputable def zb(s:pf):pJ:=match s with
 | .FunctionDef _ _ _ _ _ _ sc _ _ _=>sc
 | _=>{ kind:=.function,names:=[],isGenerator:=sH,isCoroutine:=sH }
abbrev CX0:CXT:=λ_ _ _ _ _ _=>False
noncomputable abbrev E0:XK:=λ_ _ _=>False
theorem Z4{X:Cx}:uB CX0 X E0:=λ_ _ _ _ _ _ _ h=>h.elim
structure Fun(K:oO)(x qual:oW)(st:pf)(f:oP)(fd:oU):Prop where
 ex:∃(oc:oQ) (od:Option oP) (kV doc pm:oQ) (an:Option oP) (cdv ct:oQ) (osl:Array (Option oQ)),
  fd=av x qual (zp st) (zl st) (zb st) .none kV doc pm an cdv ct/\K.lookup f=sE ⟨oc,od,.func fd,osl⟩/\ar K cdv qual=sG
 kp:aj K (.ref f)=sG
section
variable{P:oV}{w:oX}{K:oO}{mg:oW->Option oQ}{base:pb}
theorem Fun.ok{x qual:oW}{st:pf}{f:oP}{fd:oU}{N ps:List oW}{k:Nat}{sp:Sp}(F:Fun K x qual st f fd)(S:zr N ps (zb st))(len:∀vs H Q E,sp vs H Q E->vs.length=ps.length)
  (hbody:∀(cdv:oQ) (A:oY) (outer:List rK) (s:oR) (H:Hp) (vs:List V) (Q:VK) (E:XK),Room k (A.deeper (rm qual (zb st) s.heap.objs.size f cdv))->sp vs H Q E ->
   ∃t,PSs (uQ CX0 P w K mg base N qual (zb st) f cdv A outer s H E).nox (zl st) t/\t { nx:=λ_ H'=>Q .non H',rt:=Q } (start N vs) H):yg P w K mg base CX0 (k+1) f fd ps sp:=by
 obtain⟨oc,od,kV,doc,pm,an,cdv,ct,osl,rfl,lk,hcd⟩:=F.ex
 refine QC lk hcd S len λA outer s H vs Q E hr hsp=>?_
 obtain⟨t,h,q⟩:=hbody cdv A outer s H vs Q E hr hsp
 exact⟨t,h.nox,q⟩
theorem Fun.binds{x qual:oW}{st:pf}{f:oP}{fd:oU}{ps:List oW}(F:Fun K x qual st f fd)
  (h:∀(kV doc pm:oQ) (an:Option oP) (cdv ct:oQ) (us:List oQ),us.length=ps.length->bindArgs (av x qual (zp st) (zl st) (zb st) .none kV doc pm an cdv ct) ⟨us,[]⟩=pure (ps.zip us)):Binds K fd ps []:=by
 obtain⟨oc,od,kV,doc,pm,an,cdv,ct,osl,rfl,lk,hcd⟩:=F.ex
 exact .all (h kV doc pm an cdv ct)
theorem zD{x qual:oW}{st:pf}{f:oP}{oc:oQ}{od an:Option oP}{osl:Array (Option oQ)}{kV doc pm cdv ct:oQ}(l:K.lookup f=sE ⟨oc,od,.func (av x qual (zp st) (zl st) (zb st) .none kV doc pm an cdv ct),osl⟩)
  (c:ar K cdv qual=sG) (k:aj K (.ref f)=sG):Fun K x qual st f (av x qual (zp st) (zl st) (zb st) .none kV doc pm an cdv ct):=⟨⟨oc,od,kV,doc,pm,an,cdv,ct,osl,rfl,l,c⟩,k⟩
end
section
variable{X:Cx}
theorem pv(i:Nat){x:oW}{pos:pR}(hN:X.N[i]? = sE x:=by rfl)(hv:Vis X.env.scope x:=by first | exact Or.inl rfl | exact Or.inr (Or.inl rfl) | exact Or.inr (Or.inr rfl))(hd:(x == ("__debug__" : oW))=sH:=by decide)
  (hcd:(x == ("__classdict__" : oW))=sH:=by decide):PE X (.Name x pos) (yS i):=zaQ hN hv hd hcd
end
theorem zc1{A B:Prop}(h:A):if sG=sG then A else B:=by
 rw[if_pos rfl]
 exact h
theorem xp{c A B:Prop}[Decidable c](h1:c->A)(h2:¬ c->B):if c then A else B:=by
 by_cases h:c
 ·rw[if_pos h]
  exact h1 h
 ·rw[if_neg h]
  exact h2 h
def Same(H H':Hp):Prop:=∀b o,H b=sE o->H' b=sE o
theorem Same.refl(H:Hp):Same H H:=λ_ _ h=>h
theorem Same.trans{H H1 H2:Hp}(a:Same H H1)(b:Same H1 H2):Same H H2:=λc o h=>b c o (a c o h)
theorem Same.free{H H':Hp}(e:Same H H'){l:oP}(h:H' l=Option.none):H l=Option.none:=by
 cases q:H l with
 | none=>rfl
 | some o =>
  rw[e l o q] at h
  cases h
theorem Same.seq{K:oO}{H H':Hp}{a:oP}{xs:List V}(e:Same H H')(h:SqL K H a xs):SqL K H' a xs:=by
 rcases h with (h | ⟨o,h⟩) | h
 ·exact .inl (.inl (e _ _ h))
 ·exact .inl (.inr ⟨o,e _ _ h⟩)
 ·exact .inr h
end L2
open L2
namespace L3
noncomputable abbrev St:=L2.St
noncomputable abbrev cs(x:oW):List Nat:=x.cps.toList
noncomputable abbrev tx(l:List Nat):oW:=⟨l.toArray⟩
theorem za2(x:oW):tx (cs x)=x:=by cases x;rfl
theorem X2(l:List Nat):cs (tx l)=l:=rfl
theorem Xc(x:oW):x.length=(cs x).length:=by simp [Str.length,cs]
theorem zR(l:List Nat):(tx l).length=l.length:=by simp [Str.length,tx]
theorem ZG{x y:oW}(h:cs x=cs y):x=y:=by rw[<- za2 x,<- za2 y,h]
theorem ju{l m:List Nat}(h:tx l=tx m):l=m:=by rw[<- X2 l,<- X2 m,h]
theorem zb4{l m:List Nat}:tx l=tx m ↔ l=m:=⟨ju,λh=>by rw[h]⟩
theorem x0(l m:List Nat):tx l ++ tx m=tx (l ++ m):=by
 apply ZG
 show (tx l ++ tx m).cps.toList=l ++ m
 rw[Str.cps_append]
 simp
noncomputable def cut{α:Type}(l:List α)(lo hi:Option Int):List α:=(l.drop (HT.sIx l.length 0 lo)).take (HT.sIx l.length l.length hi - HT.sIx l.length 0 lo)
theorem wB{α:Type}(l:List α)(lo hi:Option Int):(cut l lo hi).length<=l.length:=by
 unfold cut
 rw[aK,ba]
 lia
theorem Vq(a b:Nat):sliceRange (a:Int) (b:Int) 1=(aX (b - a)).map (λk=>a+k):=by
 unfold sliceRange
 have e:(if (1:Int) > 0 then (if (a:Int)<b then ((b:Int) - a+1 - 1) / 1 else 0) else (if (a:Int) > b then ((a:Int) - b - 1 - 1) / (-1) else 0)).toNat=b - a:=by
  rw[if_pos (by decide)]
  by_cases h:(a:Int)<b
  ·rw[if_pos h,Int.ediv_one];lia
  ·rw[if_neg h];lia
 show (aX ((if (1:Int) > 0 then (if (a:Int)<b then ((b:Int) - a+1 - 1) / 1 else 0) else (if (a:Int) > b then ((a:Int) - b - 1 - 1) / (-1) else 0)).toNat)).map _=_
 rw[e]
 refine cF λk _=>?_
 lia
theorem KD(lo hi:Option Int)(n:Nat):Builtin.Str.strSliceIndices lo hi 1 n=(aX (HT.sIx n n hi - HT.sIx n 0 lo)).map (λk=>HT.sIx n 0 lo+k):=by
 rw[<- Vq]
 have clip:∀(v:Int) (d:Nat),max 0 (min (if v<0 then v+(n:Int) else v) (n:Int))=((HT.sIx n d (sE v):Nat):Int):=λv d=>by
  show _=(((if v<0 then (v+(n:Int)).toNat else min v.toNat n):Nat):Int)
  by_cases hv:v<0
  ·simp only[if_pos hv];lia
  ·simp only[if_neg hv];lia
 have h1:((1:Int) > 0)=True:=by simp
 unfold Builtin.Str.strSliceIndices
 cases lo with
 | none =>
  cases hi with
  | none=>simp only[h1,if_true];rfl
  | some j=>simp only[h1,if_true,clip j n];rfl
 | some i =>
  cases hi with
  | none=>simp only[h1,if_true,clip i 0];rfl
  | some j=>simp only[h1,if_true,clip i 0,clip j n]
theorem Vu(x:oW)(lo hi:Option Int):Txt.slice x lo hi=tx (cut (cs x) lo hi):=by
 have hn:x.length=x.cps.toList.length:=Xc x
 have hj:HT.sIx x.length x.length hi<=x.length:=HT.sIx_le _ _ (aq _) hi
 have hi0:HT.sIx x.length 0 lo<=x.length:=HT.sIx_le _ _ (aJ _) lo
 unfold Txt.slice
 rw[KD]
 split
 ·rename_i h
  have h':HT.sIx x.length x.length hi - HT.sIx x.length 0 lo=x.length:=by simpa using h
  apply ZG
  show x.cps.toList=cut x.cps.toList lo hi
  unfold cut
  rw[<- hn]
  by_cases z:x.length=0
  ·have:x.cps.toList=[]:=dH (by lia)
   rw[this];simp
  ·have e0:HT.sIx x.length 0 lo=0:=by lia
   rw[e0] at h' ⊢
   rw[h',dO,hn,aQ]
 ·apply ZG
  have h:=StrLaws.picks x.cps.toList (HT.sIx x.length x.length hi - HT.sIx x.length 0 lo) (HT.sIx x.length 0 lo) (by lia)
  show (List.filterMap (λk=>x.cps[k]?) _).toArray.toList=cut x.cps.toList lo hi
  unfold cut
  rw[<- hn]
  simpa using h
section
variable{X:Cx}
theorem V5{v:oQ}{o:Option Int}(p:IsPart v o):∃l:Option (Int × rB),v=partValue l/\l.map (·.1)=o:=by
 cases p with
 | none=>exact⟨sF,rfl,rfl⟩
 | int i t=>exact⟨sE (i,t),rfl,rfl⟩
def zcs:V->Option Int->Option Int->Hp->VK->Prop:=λx lo hi H Q=>∃z,x=.str z/\z.length<=oN/\Q (.str (tx (cut (cs z) lo hi))) H
theorem wu:SlR X zcs:=by
 intro sI s σ H x v vl vu lo hi sl Q I rx hs pl pu h
 obtain⟨z,rfl,hz,q⟩:=h
 obtain⟨t,rfl⟩:=rx
 obtain⟨l,rfl,el⟩:=V5 pl
 obtain⟨u,rfl,eu⟩:=V5 pu
 refine⟨"str",_,slot_str_getitem.lookup,typeIs_str s z t,?_⟩
 refine rD (l:=l) (u:=u) (st:=sF) hs rfl ?_
 have e:Txt.slice z lo hi=tx (cut (cs z) lo hi):=Vu z lo hi
 have hl:(tx (cut (cs z) lo hi)).length<=oN:=by rw[zR];have:=wB (cs z) lo hi;rw[<- Xc] at this;lia
 unfold sliceMade slicePicked
 rw[el,eu]
 unfold Txt.slice at e
 by_cases hc:((1:Int) == 1 && (Builtin.Str.strSliceIndices lo hi 1 z.length).length == z.length)=sG
 ·rw[if_pos hc] at e
  have hc':(((sF:Option (Int × rB)).map (·.1)).getD 1 == 1 && (Builtin.Str.strSliceIndices lo hi (((sF:Option (Int × rB)).map (·.1)).getD 1) z.length).length == z.length)=sG:=hc
  rw[if_pos hc']
  exact⟨.str (tx (cut (cs z) lo hi)),H,I,⟨t,by rw[<- e]⟩,q⟩
 ·rw[if_neg hc] at e
  have hc':¬ (((sF:Option (Int × rB)).map (·.1)).getD 1 == 1 && (Builtin.Str.strSliceIndices lo hi (((sF:Option (Int × rB)).map (·.1)).getD 1) z.length).length == z.length)=sG:=hc
  rw[if_neg hc']
  show (Str.mk ((Builtin.Str.strSliceIndices lo hi 1 z.length).filterMap (z.cps[·]?)).toArray).length<=oN/\_
  rw[e]
  refine⟨hl,?_⟩
  exact⟨.str (tx (cut (cs z) lo hi)),H,I.tok _,⟨_,by
   show Value.str (Str.mk ((Builtin.Str.strSliceIndices lo hi 1 z.length).filterMap (z.cps[·]?)).toArray) _=_
   rw[e]⟩,q⟩
theorem Xk(l:List Nat):∀(k:Nat) (sK:Array Nat),((aZ k l.toArray).foldl (· ++ ·) sK).toList=sK.toList ++ (aZ k l).flatten
 | 0,sK=>by simp
 | k+1,sK=>by
  rw[cY,List.foldl_cons,Xk l k,cY,dn]
  simp
theorem XX:OpR X (binaryOp .Mult) (λx y H Q=>∃z n,x=.str z/\y=.int n/\0<=n/\n<=1000/\z.length<=1000/\Q (.str (tx (aZ n.toNat (cs z)).flatten)) H):=by
 intro sI s σ H x y v u Q I rx ry h
 obtain⟨z,n,rfl,rfl,h0,h1,hz,q⟩:=h
 obtain⟨t,rfl⟩:=rx
 obtain⟨t',rfl⟩:=ry
 have hs:oN=16777216:=pz
 have hmul:z.length * n.toNat<=1000 * 1000:=Nat.mul_le_mul hz (by lia)
 have fl:((aZ n.toNat (cs z)).flatten).length=n.toNat * z.length:=by rw[L2.len_rep,<- Xc]
 refine PySem.P.mul_str ?_ (λ_ _=>?_) (λ_ _=>?_) ?_
 ·rw[decide_eq_false (by lia),decide_eq_false (by lia)];rfl
 ·have:(1000:Int)<=(2 ^ 63 - 1) / n:=by
   apply Int.le_ediv_of_mul_le (by lia)
   lia
  lia
 ·unfold Builtin.Str.tooLong
  exact decide_eq_false (by lia)
 ·by_cases c1:n<1
  ·rw[if_pos c1]
   have e:n.toNat=0:=by lia
   rw[e] at q
   exact⟨by decide,.str (tx []),H,I.tok _,⟨_,rfl⟩,q⟩
  ·rw[if_neg c1]
   by_cases c2:(n == 1 || z.length == 0)=sG
   ·rw[if_pos c2]
    have e:tx (aZ n.toNat (cs z)).flatten=z:=by
     rw[Bool.or_eq_true] at c2
     rcases c2 with c | c
     ·have:n.toNat=1:=by have:=eq_of_beq c;lia
      rw[this]
      simp only[List.replicate_one,List.flatten_singleton]
     ·have c0:z.length=0:=eq_of_beq c
      have:cs z=[]:=dH (by rw[<- Xc];exact c0)
      apply ZG
      rw[this]
      show (aZ n.toNat ([]:List Nat)).flatten=[]
      simp only[List.flatten_replicate_nil]
    rw[e] at q
    exact⟨.str z,H,I,⟨_,rfl⟩,q⟩
   ·rw[if_neg c2]
    have e:(⟨(aZ n.toNat z.cps).foldl (· ++ ·) #[]⟩:oW)=tx (aZ n.toNat (cs z)).flatten:=by
     apply ZG
     have:=Xk (cs z) n.toNat #[]
     have e2:(cs z).toArray=z.cps:=by cases z;rfl
     rw[e2] at this
     show (List.foldl (· ++ ·) #[] (aZ n.toNat z.cps)).toList=(aZ n.toNat (cs z)).flatten
     rw[this]
     rfl
    rw[e]
    refine⟨by rw[zR,fl,Nat.mul_comm];lia,.str _,H,I.tok _,⟨_,rfl⟩,q⟩
theorem VZ:OpR X (pc .LtE) (λx y H Q=>∃i j,x=.str i/\y=.str j/\Q (.bl (!(decide (cs j<cs i)))) H):=by
 intro sI s σ H x y v u Q I rx ry h
 obtain⟨i,j,rfl,rfl,q⟩:=h
 obtain⟨t,rfl⟩:=rx
 obtain⟨t',rfl⟩:=ry
 exact PySem.P.le_str ⟨.bl _,H,I,rfl,q⟩
theorem zab(x:oW)(c:Nat):(!(Builtin.Str.occurrences x (tx [c]) 0 x.length 1).isEmpty)=decide (c ∈ cs x):=StrLaws.found_one x c
theorem Uy:MtR X "str.count" (λx xs H Q=>∃z y,x=.str z/\xs=[.str y]/\Q (.int (Txt.count z y)) H):=by
 intro sI s σ H x xs v us Q I rx rv h
 obtain⟨z,y,rfl,rfl,q⟩:=h
 obtain⟨t,rfl⟩:=rx
 obtain⟨u,rfl,t',rfl⟩:=wP rv
 exact PySem.SC.count ⟨.int _,H,I.tok _,⟨_,rfl⟩,q⟩
theorem WO:MtR X "str.find" (λx xs H Q=>∃z y,x=.str z/\xs=[.str y]/\Q (.int (Txt.find z y)) H):=by
 intro sI s σ H x xs v us Q I rx rv h
 obtain⟨z,y,rfl,rfl,q⟩:=h
 obtain⟨t,rfl⟩:=rx
 obtain⟨u,rfl,t',rfl⟩:=wP rv
 exact PySem.SC.find ⟨.int _,H,I.tok _,⟨_,rfl⟩,q⟩
end
end L3
namespace L3
section
variable{X:Cx}{sI:List (oP × pC)}{σ:St}{H:Hp}{s:oR}{fp:List oP}{h':pb}{t':Nat}
theorem Inv.turns(I:Inv X sI σ H s)(k:∀b o,b ∉ fp->s.heap.get? b=sE o->h'.get? b=sE o)(hf:∀b ∈ fp,xO X sI H b):Inv X sI σ H { s with heap:=h',toks:=t' }:=by
 have nit:∀b u,H b=sE u->b ∉ fp:=λb u e z=>by rw[(hf b z).1] at e;cases e
 refine I.step (g':=s.gens) (d':=s.drawn) (ch:=fp) (λb hb=>?_) (λb o _ _ hc e _=>k b o hc e) (λb o _ _ hc e _=>⟨o.slots,k b o hc e⟩) (λ_ _ _ _ n=>n)
  (λb o hc e=>⟨o,k b o hc e⟩) (λ_ _ e=>e) (λ_ _ _ e=>e) (λb ps e=>⟨#[],by rw[e];simp⟩) (λm hm=>?_) (λb u e=>?_) I.bare
 ·obtain⟨_,a1,_,a3,a4,a5⟩:=hf b hb
  exact⟨a3,a1,a4,a5⟩
 ·obtain⟨o,es,ep,ho,r⟩:=hm
  exact⟨o,es,ep,k _ o (λz=>(hf _ z).2.1 rfl) ho,r⟩
 ·refine (I.hok b u e).stay (λc v hc q=>k c v ?_ q) (λ_ q=>q) λ_ _ q=>q
  rcases hc with z | z
  ·rw[z];exact nit b u e
  ·exact nit c _ z
theorem Inv.track{a:oP}{o:HO}(I:Inv X sI σ H s)(fa:xO X sI H a)(new:ObjOk X.prog X.w (upd H a o) s.heap a o):Inv X sI σ (upd H a o) s:=by
 obtain⟨a0,a1,a2,a3,a4,a5⟩:=fa
 have e:s={ s with heap:=s.heap,gens:=s.gens,drawn:=s.drawn,toks:=s.toks }:=rfl
 rw[e]
 refine I.step (g':=s.gens) (d':=s.drawn) (ch:=[a]) (λb hb=>?_) (λb o _ _ _ e _=>e) (λb o _ _ _ e _=>⟨o.slots,e⟩) (λb o hc _ n=>?_)
  (λb o _ e=>⟨o,e⟩) (λb xs e=>?_) (λb u xs e=>?_) (λb ps e=>?_) (λm hm=>hm) (λb u e=>?_) I.bare
 ·have eb:b=a:=by simpa using hb
  subst eb
  exact⟨a3,a1,a4,a5⟩
 ·rw[zo (by simpa using hc)];exact n
 ·rw[zo (zH e a0)];exact e
 ·rw[zo (zH e a0)];exact e
 ·exact⟨#[],by rw[zo (zH e a0),e];simp⟩
 ·by_cases hb:b=a
  ·subst hb;rw[ze] at e;cases e;exact new
  ·rw[zo hb] at e
   exact (I.hok b u e).stay (λc v _ q=>q) (λc q=>by rw[zo (zH q a0)];exact q) λc xs q=>by rw[zo (zH q a0)];exact q
end
noncomputable def Its(x:oW):It:=⟨λi _=>i<(cs x).length,λi H v H'=>H'=H/\∃c,(cs x)[i]? = sE c/\v=.str (tx [c]),λi _=>i=(cs x).length⟩
theorem UE{P:oV}{w:oX}{K:oO}{tg:oZ}{ty:String}(hty:["enumerate","zip","dict_itemiterator","dict_reverseitemiterator","odict_iterator","itertools.zip_longest","itertools.pairwise"].contains ty=sH)(it:oP)(x:oW)(t:rB)
  (W:∀A:oY,A.handled=sF->Walks P w A it [it] [it] x.cps.size (SignAt x) λi h=>h.IsStrIter it ty x t i)
  (S:∀(A:oY) (i:Nat) (s:oR) (Q:oQ->oR->Prop) (E:oQ->oR->Prop),s.heap.IsStrIter it ty x t i->Q (.ref it) s->oS (model P w) A (pyIter (.ref it)) Q E s) :
  Uh P w K tg (Its x) [it] it (λi h=>h.IsStrIter it ty x t i) where
 mem:=by simp
 obj:=λi h st b hb=>by
  have e:b=it:=by simpa using hb
  subst e
  obtain⟨o,e,c,d⟩:=st
  exact⟨o,e,λv z=>by rw[d] at z;cases z⟩
 keep:=λi h h' st k=>let ⟨o,e,r⟩:=st; ⟨o,k it (by simp) o e,r⟩
 item:=by
  intro X hP hw hK hc i sI s σ H E I hf st hg
  subst hP hw hK
  obtain⟨f0,f1,f2,f3,f4,f5⟩:=hf it (by simp)
  have hg':i<x.cps.size:=by have:i<x.cps.toList.length:=hg;simpa using this
  refine (W X.A (I.ok.hd hc)).item i s _ _ hg' st λv h' tk hv st' kk=>?_
  obtain⟨c,u,hcc,rfl⟩:=hv
  have I1:Inv X sI σ H { s with heap:=h',toks:=tk }:=I.turned (λb o hb e=>kk b o (by simpa using hb) e) f0 f1 f3 f4 f5
  obtain⟨o,e,cl,d⟩:=id st'
  refine⟨_,rfl,Vl (s:={ s with heap:=h',toks:=tk }) e cl d hty ⟨.str (tx [c]),H,I1,⟨u,rfl⟩,⟨rfl,c,?_,rfl⟩,st',λb hb=>(hf b hb).1⟩⟩
  show x.cps.toList[i]? = sE c
  simpa using hcc
 done:=by
  intro X hP hw hK hc i sI s σ H E I hf st hg
  subst hP hw hK
  obtain⟨f0,f1,f2,f3,f4,f5⟩:=hf it (by simp)
  have hi:i=x.cps.size:=by have:i=x.cps.toList.length:=hg;simpa using this
  rw[hi] at st
  exact (W X.A (I.ok.hd hc)).done s _ _ st λh' tk kk=>⟨rfl,I.turned (λb o hb e=>kk b o (by simpa using hb) e) f0 f1 f3 f4 f5⟩
 self:=λA i s Q E st h=>S A i s Q E st h
section
variable{X:Cx}{tg:oZ}
def zbB(tl:TE):TI:=λσ H R=>tl σ H λv H1=>∃x,v=.str x/\R (Its x) H1
theorem Zw{l:oZ}{tl:TE}(hl:PE X l tl):PI X tg l (zbB tl):=by
 intro sI s σ H R I h
 refine thn (hl sI s σ H _ I h) λv s1 ⟨y,H1,I1,r1,q1⟩=>?_
 obtain⟨x,e,q⟩:=q1
 subst e
 obtain⟨t,rfl⟩:=r1
 have fin:∀(ty:String) (hty:["enumerate","zip","dict_itemiterator","dict_reverseitemiterator","odict_iterator","itertools.zip_longest","itertools.pairwise"].contains ty=sH)
   (W:∀A:oY,A.handled=sF->Walks X.prog X.w A s1.heap.objs.size [s1.heap.objs.size] [s1.heap.objs.size] x.cps.size (SignAt x) λi h=>h.IsStrIter s1.heap.objs.size ty x t i)
   (S:∀(A:oY) (i:Nat) (s:oR) (Q:oQ->oR->Prop) (E:oQ->oR->Prop),s.heap.IsStrIter s1.heap.objs.size ty x t i->Q (.ref s1.heap.objs.size) s->oS (model X.prog X.w) A (pyIter (.ref s1.heap.objs.size)) Q E s),
   PIE X sI σ tg R (.ref s1.heap.objs.size) { s1 with heap:=s1.heap.push { cls:=.type ty,data:=.fields #[.str x t,.int 0 0] } }:=λty hty W S=>by
  refine⟨s1.heap.objs.size,[s1.heap.objs.size],_,_,H1,rfl,I1.kept (t':=s1.toks) λb o e=>aa _ e,UE hty _ x t W S,⟨_,aI _ rfl,rfl,rfl⟩,λb hb=>?_,q⟩
  have e:b=s1.heap.objs.size:=by simpa using hb
  subst e
  exact I1.fpOk (aq _) (I1.hok.fresh (aq _))
 cases ha:x.cps.all (· < 128)
 ·exact wpAny_pyIter_wide ha (fin "str_iterator" (by decide) (λA hA=>Walks.strWide hA _ x t) λA i s Q E st h=>wpAny_pyIter_striter_wide st h)
 ·exact wpAny_pyIter_ascii ha (fin "str_ascii_iterator" (by decide) (λA hA=>Walks.strAscii hA _ x t) λA i s Q E st h=>wpAny_pyIter_striter_ascii st h)
end
theorem KQ{x:oW}{g:TG}{tb:TS}{D:vh}{σ:St}{H:Hp}(Pv:Nat->St->Hp->Prop)(h0:Pv 0 σ H)
  (hs:∀i c σ H,(cs x)[i]? = sE c->Pv i σ H->g (.str (tx [c])) σ H λσ2 H2=>tb { D with nx:=Pv (i+1),ct:=Pv (i+1),bk:=D.nx } σ2 H2) (hd:∀σ H,Pv (cs x).length σ H->D.nx σ H) :
  ∃W:Nat->Nat->St->Hp->Prop,(∃m,W 0 m σ H)/\∀i m σ H,W i m σ H ->
   ((Its x).stop i H/\D.nx σ H)\/((Its x).go i H/\∃N:St->Hp->Prop,(∀σ' H',N σ' H'->∃m',m'<m/\W (i+1) m' σ' H')/\∀v H',(Its x).yld i H v H'->g v σ H' λσ2 H2=>tb { D with nx:=N,ct:=N,bk:=D.nx } σ2 H2):=by
 refine⟨λi m σ H=>m=(cs x).length - i/\i<=(cs x).length/\Pv i σ H,⟨(cs x).length,by simp,aJ _,h0⟩,?_⟩
 rintro i m σ H ⟨rfl,hi,p⟩
 by_cases hlt:i<(cs x).length
 ·refine .inr ⟨hlt,Pv (i+1),λσ' H' p'=>⟨(cs x).length - (i+1),by lia,rfl,hlt,p'⟩,λv H' y=>?_⟩
  obtain⟨e,c,hc,ev⟩:=y
  subst e ev
  exact hs i c σ _ hc p
 ·have e:i=(cs x).length:=by lia
  subst e
  exact .inl ⟨rfl,hd σ H p⟩
noncomputable def Ite(x:oW):It:=⟨λi _=>i<(cs x).length,λi H v H'=>∃p c,H p=sF/\(cs x)[i]? = sE c/\v=.ref p/\H'=upd H p (.tup [.int (i:Nat),.str (tx [c])]),λi _=>i=(cs x).length⟩
section
variable{X:Cx}
def zbM(ta:TA):TI:=λσ H R=>ta σ H λvs H1=>∃x,vs=[.str x]/\R (Ite x) H1
end
end L3
namespace L3
theorem uj{env:rK}:∀(names:List (oW × rj)) (sK:List (oW × oP)),
    (∀y,(y,NameKind.free) ∈ names->∃c,env.cells.lookup y=sE c)->(∀y c,sK.lookup y=sE c->env.cells.lookup y=sE c) ->
    ∃cl,(forIn names sK λ(x:oW × rj) (cs:List (oW × oP))=>if (x.2 == NameKind.free)=sG then (do let a <- cellOf env x.1;pure (ForInStep.yield ((x.1,a)::cs))) else pure (ForInStep.yield cs):sw (List (oW × oP)))=pure cl /\
      (∀y c,cl.lookup y=sE c->env.cells.lookup y=sE c)/\(∀y,(y,NameKind.free) ∈ names\/(sK.lookup y).isSome=sG->∃c,cl.lookup y=sE c)
  | [],sK,_,ha=>⟨sK,rfl,ha,λy h=>by
      rcases h with h | h
      . cases h
      . exact Option.isSome_iff_exists.mp h⟩
  | (n,k)::r,sK,hn,ha=>by
    by_cases hk:k=NameKind.free
    . subst hk
      obtain⟨c,hc⟩:=hn n (by simp)
      have ha':∀y d,((n,c)::sK).lookup y=sE d->env.cells.lookup y=sE d:=λy d e=>by
        rw[aW] at e
        by_cases hy:(y == n)=sG
        . rw[hy] at e
          have:y=n:=eq_of_beq hy
          subst this
          cases e
          exact hc
        . have hy':(y == n)=sH:=by simpa using hy
          rw[hy'] at e
          exact ha y d e
      obtain⟨cl,e,h1,h2⟩:=uj r ((n,c)::sK) (λy hy=>hn y (aw _ hy)) ha'
      refine⟨cl,?_,h1,λy hy=>h2 y ?_⟩
      . rw[dc]
        have ec:cellOf env n=pure c:=by unfold cellOf;rw[hc]
        simp only[beq_self_eq_true,if_true,ec,pure_bind]
        exact e
      . rcases hy with hy | hy
        . rcases List.mem_cons.mp hy with q | q
          . cases q
            exact .inr (by simp)
          . exact .inl q
        . refine .inr ?_
          rw[aW]
          by_cases hyn:(y == n)=sG
          . rw[hyn];rfl
          . have hy':(y == n)=sH:=by simpa using hyn
            rw[hy'];exact hy
    . obtain⟨cl,e,h1,h2⟩:=uj r sK (λy hy=>hn y (aw _ hy)) ha
      refine⟨cl,?_,h1,λy hy=>h2 y ?_⟩
      . rw[dc]
        have ek:(k == NameKind.free)=sH:=by simpa using hk
        simp only[ek,bM,if_false,pure_bind]
        exact e
      . rcases hy with hy | hy
        . rcases List.mem_cons.mp hy with q | q
          . cases q;exact absurd rfl hk
          . exact .inl q
        . exact .inr hy
theorem wo{scope:pJ}{env:rK}(hn:∀y,(y,NameKind.free) ∈ scope.names->∃c,env.cells.lookup y=sE c) :
  ∃cl,closureFor scope env=pure cl/\(∀y c,cl.lookup y=sE c->env.cells.lookup y=sE c)/\(∀y,(y,NameKind.free) ∈ scope.names->∃c,cl.lookup y=sE c):=by
 obtain⟨cl,e,h1,h2⟩:=uj scope.names [] hn (λy c h=>by cases h)
 refine⟨cl,?_,h1,λy hy=>h2 y (.inl hy)⟩
 unfold closureFor
 simp only[bind_pure]
 exact e
noncomputable abbrev Wv(ifs:List oZ)(env:rK):sw Bool :=
 forIn ifs sG λc r=>if r=sG then (do let ok <- isTrue c env (eval c env);pure (ForInStep.yield ok)) else pure (ForInStep.yield r)
theorem ZS{prog:oV}{w:oX}{A:oY}{R:rQ->oR->Prop}{s:oR}{elt tg iter:oZ}{ifs:List oZ}{scope:pJ}{pos:pR}{it sK:oQ}{env:rK}
  (I:Nat->oR->Prop) {EE:oQ->oR->Prop} (hEE:EE=notedBy (model prog w) A env λe s'=>R (.error e) s')
  (turn:∀n s,I n s->oS (model prog w) A (pyNext it) (λr s1=>match r with
   | none=>R (.ok .next) s1
   | some v=>oS (model prog w) A (letOwnedTupleGo tg it v) (λ_ s2=>oS (model prog w) A (assign tg env v) (λ_ s3 =>
     oS (model prog w) A (Wv ifs env) (λok s4=>if ok=sG then
      oS (model prog w) A (eval elt env) (λx s5=>oS (model prog w) A (call (.builtin "list.append") [sK,x]) (λ_ s6=>∃m,m<n/\I m s6) EE s5) EE s4
      else ∃m,m<n/\I m s4) EE s3) EE s2) EE s1) EE s) (n:Nat) (h:I n s) :
  pN (model prog w) A (.compLoop (.ListComp elt [⟨tg,iter,ifs,0⟩] scope pos) 0 it sK env) R s:=by
 subst hEE
 refine codeAny_loop rfl I (λn s hI=>?_) n h
 show oS _ A ((compTurn (.ListComp elt [⟨tg,iter,ifs,0⟩] scope pos) 0 it sK env).onRaise (λx=>do noteFrame x env;theTreesLotGoes x)) _ _ s
 refine wpAny_noted ?_
 rw[compTurn_list]
 refine oH (pM (oH (thn (turn n s hI) λr s1 h1=>?_)))
 cases r with
 | none=>exact oJ h1
 | some v =>
  refine oH (thn h1 λ_ s2 h2=>oH (thn h2 λ_ s3 h3=>oH (thn h3 λok s4 h4=>?_)))
  cases ok with
  | false=>exact oJ ⟨rfl,h4⟩
  | true=>exact oH (oH (thn h4 λx s5 h5=>oH (thn h5 λ_ s6 h6=>oJ (oJ ⟨rfl,h6⟩))))
noncomputable def ye(X:Cx)(scope:pJ)(cl:List (oW × oP))(C:oP)(N:List oW)(sI:List (oP × pC))(s3:oR)(H3:Hp)(fp:List oP)(E:oQ->oR->Prop):Cx :=
 { X with N:=N,s₀:=s3,H₀:=H3,env:=compEnvC scope cl C X.env,outer:=X.stack,ex:=fp,fn:=λ_=>sH,pn:=X.pn ++ sI,xe:=E }
noncomputable def wZ(σ:St)(own:Nat)(ix:List Nat):St:=aZ own sF ++ ix.map λi=>(σ[i]?).join
structure qT(X:Cx)(scope:pJ)(own caps:List oW)(ix:List Nat):Prop where
 kind:scope.kind=.function
 nocell:∀y ∈ scope.names,y.2≠.cell
 names:∀y ∈ scope.names,y.2=.local->scope.names.lookup y.1=sE .local
 free:∀y,(y,NameKind.free) ∈ scope.names->X.env.kindOf y=sE .cell
 hown:∀y ∈ own,scope.names.lookup y=sE .local
 hcaps:∀y ∈ caps,scope.names.lookup y=sE .free
 hix:ix.map (λi=>X.N[i]?)=caps.map sE
theorem xT{α β:Type}[BEq α][LawfulBEq α]{l:List (α × β)}{a:α}{b:β}(h:l.lookup a=sE b):(a,b) ∈ l:=by
 induction l with
 | nil=>cases h
 | cons p r ih =>
  obtain⟨c,d⟩:=p
  rw[aW] at h
  by_cases e:(a == c)=sG
  ·rw[e] at h
   cases h
   rw[eq_of_beq e]
   exact aD
  ·have e':(a == c)=sH:=by simpa using e
   rw[e'] at h
   exact aw _ (ih h)
theorem vj{scope:pJ}{env:rK}(hf:env.scope.kind=.function):∀{names:List (oW × rj)} {x:oW} {k:rj},names.lookup x=sE k ->
    (names.map λ(n,k)=>if (k == NameKind.free && env.scope.kind == .function && env.kindOf n == sE .cell) then (n,NameKind.cell) else (n,k)).lookup x=sE (if (k == NameKind.free && env.scope.kind == .function && env.kindOf x == sE .cell)=sG then .cell else k)
  | [],_,_,h=>by simp at h
  | (n,k')::r,x,k,h=>by
    have ih:=@vj scope env hf r x k
    show bi x ((if (k' == NameKind.free && env.scope.kind == .function && env.kindOf n == sE .cell)=sG then (n,NameKind.cell) else (n,k'))::_)=_
    by_cases hx:(x == n)=sG
    . have hxn:x=n:=eq_of_beq hx
      subst hxn
      rw[aW,hx] at h
      cases h
      by_cases c:(k' == NameKind.free && env.scope.kind == .function && env.kindOf x == sE .cell)=sG
      . rw[if_pos c,if_pos c,aW,hx]
      . rw[if_neg c,if_neg c,aW,hx]
    . have hx':(x == n)=sH:=by simpa using hx
      rw[aW,hx'] at h
      by_cases c:(k' == NameKind.free && env.scope.kind == .function && env.kindOf n == sE .cell)=sG
      . rw[if_pos c,aW,hx'];exact ih h
      . rw[if_neg c,aW,hx'];exact ih h
theorem uz{scope:pJ}{env:rK}:∀{names:List (oW × rj)} {x:oW},names.lookup x=sF ->
    (names.map λ(n,k)=>if (k == NameKind.free && env.scope.kind == .function && env.kindOf n == sE .cell) then (n,NameKind.cell) else (n,k)).lookup x=sF
  | [],_,_=>rfl
  | (n,k')::r,x,h=>by
    have ih:=@uz scope env r x
    show bi x ((if (k' == NameKind.free && env.scope.kind == .function && env.kindOf n == sE .cell)=sG then (n,NameKind.cell) else (n,k'))::_)=_
    by_cases hx:(x == n)=sG
    . rw[aW,hx] at h;cases h
    . have hx':(x == n)=sH:=by simpa using hx
      rw[aW,hx'] at h
      by_cases c:(k' == NameKind.free && env.scope.kind == .function && env.kindOf n == sE .cell)=sG
      . rw[if_pos c,aW,hx'];exact ih h
      . rw[if_neg c,aW,hx'];exact ih h
section
variable{X:Cx}{scope:pJ}{own caps:List oW}{ix:List Nat}{cl:List (oW × oP)}{sI:List (oP × pC)}{σ:St}{H:Hp}{s:oR}{fp:List oP}{E:oQ->oR->Prop}
theorem jw(S:qT X scope own caps ix)(hcl1:∀y c,cl.lookup y=sE c->X.env.cells.lookup y=sE c)(hcl2:∀y,(y,NameKind.free) ∈ scope.names->∃c,cl.lookup y=sE c)
  (I:Inv X sI σ H s) (hfp:∀b ∈ fp,xO X sI H b) (hlt:∀b ∈ fp,b<s.heap.objs.size) {h4:pb} {t4:Nat} (hn:h4.Ns s.heap.objs.size λ_=>sF) (hk:∀b o,s.heap.get? b=sE o->h4.get? b=sE o) :
  Inv (ye X scope cl s.heap.objs.size (own ++ caps) sI s H fp E) [] (wZ σ own.length ix) H { s with heap:=h4,toks:=t4 }:=by
 have kf:X.env.scope.kind=.function:=I.ok.kind
 have nofp:∀b ∈ fp,b≠s.heap.objs.size:=λb hb=>aF (hlt b hb)
 have cellLt:∀x c,X.env.cells.lookup x=sE c->c<s.heap.objs.size:=λx c e=>by
  obtain⟨v,o,ho,_⟩:=I.cell x c e
  exact ay ho
 have kinds:∀y k,scope.names.lookup y=sE k->(relabel scope X.env).names.lookup y=sE (if (k == NameKind.free && X.env.scope.kind == .function && X.env.kindOf y == sE .cell)=sG then .cell else k):=λy k e=>vj (scope:=scope) kf e
 have back:∀y k,(relabel scope X.env).names.lookup y=sE k->∃k',scope.names.lookup y=sE k'/\k=(if (k' == NameKind.free && X.env.scope.kind == .function && X.env.kindOf y == sE .cell)=sG then .cell else k'):=λy k e=>by
  cases q:scope.names.lookup y with
  | none =>
   have:=uz (scope:=scope) (env:=X.env) q
   have e':(scope.names.map λ(n,k)=>if (k == NameKind.free && X.env.scope.kind == .function && X.env.kindOf n == sE .cell) then (n,NameKind.cell) else (n,k)).lookup y=sE k:=e
   rw[this] at e';cases e'
  | some k' =>
   refine⟨k',rfl,?_⟩
   have:=kinds y k' q
   rw[e] at this
   exact Option.some.inj this
 have isCell:∀y,scope.names.lookup y=sE .free->(relabel scope X.env).names.lookup y=sE .cell:=λy e=>by
  have:=kinds y _ e
  rw[this,if_pos]
  rw[S.free y (xT e),kf]
  rfl
 refine⟨⟨I.ok.mod,?_,I.ok.glob,I.ok.blt,aq _,?_,?_,?_,I.ok.hd,I.ok.frames,.inl rfl,?_,I.bs,aR I.ok.bsz I.sz,?_,?_,I.stack,I.stkFree⟩,rfl,I.bare,Un.kept hk,⟨_,hn,?_⟩,?_,?_,?_,?_,I.hok.kept hk,?_⟩
 ·show (relabel scope X.env).kind=.function
  exact S.kind
 ·intro x y c h1 h2
  exact I.ok.inj x y c (hcl1 x c h1) (hcl1 y c h2)
 ·intro y hy
  have hy':(relabel scope X.env).names.lookup y=sE .cell\/(relabel scope X.env).names.lookup y=sE .free:=hy
  have:scope.names.lookup y=sE .free:=by
   rcases hy' with q | q
   ·obtain⟨k',e,ek⟩:=back y _ q
    by_cases c:(k' == NameKind.free && X.env.scope.kind == .function && X.env.kindOf y == sE .cell)=sG
    ·rw[cE,cE] at c
     rw[e,eq_of_beq c.1.1]
    ·rw[if_neg c] at ek
     exact absurd ek.symm (S.nocell _ (xT e))
   ·obtain⟨k',e,ek⟩:=back y _ q
    by_cases c:(k' == NameKind.free && X.env.scope.kind == .function && X.env.kindOf y == sE .cell)=sG
    ·rw[if_pos c] at ek;cases ek
    ·rw[if_neg c] at ek
     rw[e,<- ek]
  exact hcl2 y (xT this)
 ·intro x c h _
  exact absurd h (by simp [ye])
 ·intro b hb
  refine⟨nofp b hb,λx c e=>?_⟩
  exact (hfp b hb).2.2.2.2.1 x c (hcl1 x c e)
 ·intro b o e hb
  obtain⟨_,_,_,q,_⟩:=hfp b hb
  rcases q with q | q
  ·exact I.ok.noex b o e q
  ·exact absurd (aB (ay e) (aR I.ok.bsz q)) (cH _)
 ·intro b hb z
  rcases List.mem_cons.mp (I.stkSub b z) with e | e
  ·exact (hfp b hb).2.1 e
  ·exact (hfp b hb).2.2.1 e
 ·intro i y v h1 h2 h3
  have hi:own.length<=i:=by
   refine cU λhlt'=>?_
   unfold wZ at h2
   rw[bX (by rw[bU];exact hlt'),eD,if_pos hlt'] at h2
   cases h2
  have h1':caps[i - own.length]? = sE y:=by
   have:(own ++ caps)[i]? = sE y:=h1
   rw[bR hi] at this
   exact this
  have h2':(ix.map λi=>(σ[i]?).join)[i - own.length]? = sE (sE v):=by
   unfold wZ at h2
   rw[bR (by rw[bU];exact hi),bU] at h2
   exact h2
  rw[aH] at h2'
  have hx:=congrArg (λl=>l[i - own.length]?) S.hix
  simp only[aH,h1',Option.map_some] at hx
  cases q:ix[i - own.length]? with
  | none=>rw[q] at h2';cases h2'
  | some j =>
   rw[q] at h2' hx
   have hj:X.N[j]? = sE y:=Option.some.inj hx
   have hv:(σ[j]?).join=sE v:=Option.some.inj h2'
   have hσ:σ[j]? = sE (sE v):=by
    cases r:σ[j]? with
    | none=>rw[r] at hv;cases hv
    | some z=>rw[r] at hv;cases z with
     | none=>cases hv
     | some z=>cases hv;rfl
   have hfree:scope.names.lookup y=sE .free:=S.hcaps y (ae h1')
   have hkc:=S.free y (xT hfree)
   obtain⟨m,hm,hl⟩:=I.loc
   obtain⟨u,ru,l⟩:=hl j y v hj hσ (.inr (.inl hkc))
   refine⟨u,ru,.inr ⟨.inl (isCell y hfree),?_⟩⟩
   rcases l with ⟨k,_⟩ | ⟨_,c,e,z⟩
   ·have:X.env.kindOf y=sE .local:=k
    rw[hkc] at this;cases this
   ·obtain⟨c',e'⟩:=hcl2 y (xT hfree)
    have:=hcl1 y c' e'
    rw[e] at this
    cases this
    obtain⟨o,ho,hd⟩:=z
    exact⟨c,e',o,hk c o ho,hd⟩
 ·intro x c e
  obtain⟨v,o,ho,hd⟩:=I.cell x c (hcl1 x c e)
  exact⟨v,o,hk c o ho,hd⟩
 ·exact I.hok.fresh (aq _)
 ·intro x c e
  exact I.freeC x c (hcl1 x c e)
 ·intro p hp
  have hp':p ∈ X.pn ++ sI:=by
   have:p ∈ (X.pn ++ sI) ++ []:=hp
   rwa [aV] at this
  obtain⟨e,n,ne,nf,d⟩:=I.pin p hp'
  refine⟨hk _ _ e,n,?_,λz=>?_,d⟩
  ·exact aF (ay e)
  ·rcases List.mem_cons.mp (I.stkSub p.1 z) with q | q
   ·exact ne q
   ·exact nf q
 ·show (wZ σ own.length ix).length=(own ++ caps).length
  have:=congrArg eN S.hix
  rw[af,af] at this
  unfold wZ
  rw[am,bU,af,am,this]
end
end L3
namespace L3
def xa(σ σ':St):Prop:=σ.length=σ'.length/\∀(i:Nat) v,σ[i]? = sE (sE v)->σ'[i]? = sE (sE v)
def PTs(X:Cx)(ifs:List oZ)(t:TT):Prop :=
 ∀(sI:List (oP × pC)) (s:oR) (σ:St) (H:Hp) (Q:Bool->Hp->Prop),Inv X sI σ H s->t σ H Q->oS (model X.prog X.w) X.A (Wv ifs X.env) (TP X sI σ Q) X.xe s
def wx:TT:=λ_ H Q=>Q sG H
theorem yE{X:Cx}:PTs X [] wx:=λ_ _ _ H _ I h=>oJ ⟨H,I,h⟩
theorem WQ{X:Cx}{c:oZ}{t:TT}(h:PT X c t):PTs X [c] t:=λsI s σ H Q I hq=>by
 show oS _ _ (forIn [c] sG _) _ _ s
 simp only[dc,eS,if_true]
 exact oH (oH (thn (h sI s σ H Q I hq) λb s' hb=>oJ (oJ hb)))
def jf(wi:TI)(g:TG)(tt:TT)(te:TE)(own:Nat)(ix:List Nat):TE:=λσ H Q=>wi σ H λJ H1=>∀D,H1 D=sF->∃W:Nat->Nat->List V->Hp->Prop,(∃m,W 0 m [] (upd H1 D (.lst []))) /\
 ∀i m sK H',W i m sK H'->(J.stop i H'/\Q (.ref D) H')\/(J.go i H'/\∀x H2,J.yld i H' x H2->g x (wZ σ own ix) H2 λσ3 H3=>xa (wZ σ own ix) σ3/\tt σ3 H3 λb H4=>if b=sG then
  te σ3 H4 λv H5=>H5 D=sE (.lst sK)/\sK.length<oN/\∃m',m'<m/\W (i+1) m' (sK ++ [v]) (upd H5 D (.lst (sK ++ [v])))
  else ∃m',m'<m/\W (i+1) m' sK H4)
theorem Un.but{fs ex:List oP}{H H':Hp}{h h1 h2:pb}{a:oP}(u:Un fs ex H H' h h1)(sb:Heap.SameBut a h1 h2)(ha:h.get? a=sF):Un fs ex H H' h h2:=by
 have ne:∀b o,h.get? b=sE o->b≠a:=λb o e z=>by subst z;rw[ha] at e;cases e
 refine⟨λb o e n hb hx=>(sb.2 b (ne b o e)).trans (u.keep b o e n hb hx),λb o e n hb hx=>?_,u.free,λb o e hx=>?_,u.tups,u.frzs,u.tbls⟩
 ·obtain⟨sl,q⟩:=u.slot b o e n hb hx
  exact⟨sl,(sb.2 b (ne b o e)).trans q⟩
 ·obtain⟨o',q⟩:=u.there b o e hx
  exact⟨o',(sb.2 b (ne b o e)).trans q⟩
theorem HOk.but{P:oV}{w:oX}{H:Hp}{h1 h2:pb}{a:oP}(ok:HOk P w H h1)(sb:Heap.SameBut a h1 h2)(ha:H a=sF):HOk P w H h2:=λb ob e=>by
 refine (ok b ob e).stay (λc u hc q=>(sb.2 c ?_).trans q) (λ_ q=>q) λ_ _ q=>q
 rintro rfl
 rcases hc with rfl | hc
 ·rw[ha] at e;cases e
 ·rw[ha] at hc;cases hc
section
variable{X:Cx}{scope:pJ}{own caps:List oW}{ix:List Nat}{elt tg iter:oZ}{ifs:List oZ}{pos:pR}{wi:TI}{g:TG}{tt:TT}{te:TE}
theorem jo(hc:X.calm=sG)(S:qT X scope own caps ix)
  (hg:∀cl C sI s3 H3 fp,PG (ye X scope cl C (own ++ caps) sI s3 H3 fp λ_ _=>False) tg g)
  (ht:∀cl C sI s3 H3 fp,PTs (ye X scope cl C (own ++ caps) sI s3 H3 fp λ_ _=>False) ifs tt)
  (he:∀cl C sI s3 H3 fp,PE (ye X scope cl C (own ++ caps) sI s3 H3 fp λ_ _=>False) elt te)
  {cl:List (oW × oP)} (hc1:∀y c,cl.lookup y=sE c->X.env.cells.lookup y=sE c) (hc2:∀y,(y,NameKind.free) ∈ scope.names->∃c,cl.lookup y=sE c)
  {sI:List (oP × pC)} {σ:St} {H2:Hp} {s2:oR} {Q:VK} {it:oP} {fp:List oP} {tn:Nat->pb->Prop} {J:It} (I2:Inv X sI σ H2 s2) (T:Uh X.prog X.w X.K tg J fp it tn) (st2:tn 0 s2.heap) (f2:∀b ∈ fp,xO X sI H2 b)
  (q:∀D,H2 D=sF->∃W:Nat->Nat->List V->Hp->Prop,(∃m,W 0 m [] (upd H2 D (.lst []))) /\
   ∀i m sK H',W i m sK H'->(J.stop i H'/\Q (.ref D) H')\/(J.go i H'/\∀x H2,J.yld i H' x H2->g x (wZ σ own.length ix) H2 λσ3 H3=>xa (wZ σ own.length ix) σ3/\tt σ3 H3 λb H4=>if b=sG then
    te σ3 H4 λv H5=>H5 D=sE (.lst sK)/\sK.length<oN/\∃m',m'<m/\W (i+1) m' (sK ++ [v]) (upd H5 D (.lst (sK ++ [v])))
    else ∃m',m'<m/\W (i+1) m' sK H4))
  {RR:oQ->oP->rQ->oR->Prop} {E:oQ->oR->Prop}
  (hRR:∀D C m s' H',H2 D=sF->s'.heap.Ns C m->xO X sI H' C->Inv X sI σ H' s'->Q (.ref D) H'->RR (.ref D) C (.ok .next) s') :
  oS (model X.prog X.w) X.A (newList []) (λsK s3=>oS (model X.prog X.w) X.A (newFunctionEnv scope X.env.globals cl [] X.env.qual sF .none (sE X.env)) (λcenv s4 =>
   pN (model X.prog X.w) X.A (.compStart (.ListComp elt [⟨tg,iter,ifs,0⟩] scope pos) 0 (.ref it) sK { cenv with scope:=relabel scope X.env }) (RR sK cenv.locals) s4) E s3) E s2:=by
 have hD:H2 s2.heap.objs.size=sF:=I2.hok.fresh (aq _)
 obtain⟨W,⟨m0,w0⟩,turn⟩:=q _ hD
 refine rA (rg S.nocell (by intro y hy;simp at hy) (λh1 hns1 hsb1=>?_) S.kind)
 dsimp only at hns1 hsb1 ⊢
 have I3:Inv X sI σ (upd H2 s2.heap.objs.size (.lst [])) { s2 with heap:=s2.heap.push { cls:=.type "list",dict:=sF,data:=.seq ([]:List oQ).toArray } } :=
  I2.lnew (its:=[]) (t':=s2.toks) .nil (aJ _)
 generalize hs3:({ s2 with heap:=s2.heap.push { cls:=.type "list",dict:=sF,data:=.seq ([]:List oQ).toArray } }:oR)=s3 at I3
 have e3:s2.heap.push { cls:=.type "list",dict:=sF,data:=.seq ([]:List oQ).toArray }=s3.heap:=by rw[<- hs3]
 rw[e3] at hns1 hsb1 ⊢
 have k1:∀b o,s3.heap.get? b=sE o->h1.get? b=sE o:=λb o e=>(hsb1.2 b (aF (ay e))).trans (aa _ e)
 have k23:∀b o,s2.heap.get? b=sE o->s3.heap.get? b=sE o:=λb o e=>by rw[<- e3];exact aa _ e
 have hz:s3.heap.objs.size=s2.heap.objs.size+1:=by rw[<- e3,bG]
 have fpObj:∀b ∈ fp,∃o,s2.heap.get? b=sE o:=λb hb=>let ⟨o,e,_⟩:=T.obj 0 _ st2 b hb; ⟨o,e⟩
 have fplt:∀b ∈ fp,b<s2.heap.objs.size:=λb hb=>let ⟨o,e⟩:=fpObj b hb;ay e
 have f3:∀b ∈ fp,xO X sI (upd H2 s2.heap.objs.size (.lst [])) b:=λb hb=>⟨by rw[zo (aF (fplt b hb))];exact (f2 b hb).1,(f2 b hb).2⟩
 have I4:Inv (ye X scope cl s3.heap.objs.size (own ++ caps) sI s3 (upd H2 s2.heap.objs.size (.lst [])) fp λ_ _=>False) [] (wZ σ own.length ix) (upd H2 s2.heap.objs.size (.lst [])) { s3 with heap:=h1,toks:=s3.toks+([]:List (oW × oQ)).length } :=
  jw S hc1 hc2 I3 f3 (λb hb=>by rw[hz];exact cp (fplt b hb)) hns1 k1
 have st4:tn 0 h1:=T.keep 0 _ _ st2 λb hb o e=>k1 b o (k23 b o e)
 generalize hs4:({ s3 with heap:=h1,toks:=s3.toks+([]:List (oW × oQ)).length }:oR)=s4 at I4
 have es4:({ s2 with heap:=h1,toks:=s2.toks+([]:List (oW × oQ)).length }:oR)=s4:=by rw[<- hs4,<- hs3]
 have e4:h1=s4.heap:=by rw[<- hs4]
 have loop:pN (model X.prog X.w) X.A (.compLoop (.ListComp elt [⟨tg,iter,ifs,0⟩] scope pos) 0 (.ref it) (.ref s2.heap.objs.size) (compEnvC scope cl s3.heap.objs.size X.env)) (RR (.ref s2.heap.objs.size) s3.heap.objs.size) s4:=by
  let X':=ye X scope cl s3.heap.objs.size (own ++ caps) sI s3 (upd H2 s2.heap.objs.size (.lst [])) fp λ_ _=>False
  have fp':∀{H':Hp},(∀b ∈ fp,H' b=sF)->∀b ∈ fp,xO X' [] H' b:=λ{H'} hn b hb=>by
   obtain⟨_,a1,a2,a3,a4,a5⟩:=f3 b hb
   refine⟨hn b hb,aF (show b<s3.heap.objs.size from by rw[hz];exact cp (fplt b hb)),λz=>?_,.inl hb,λx c e=>a4 x c (hc1 x c e),λp hp=>?_⟩
   ·rcases List.mem_cons.mp (I3.stkSub b z) with e | e
    ·exact a1 e
    ·exact a2 e
   ·have:p ∈ (X.pn ++ sI) ++ []:=hp
    rw[aV] at this
    exact a5 p this
  refine ZS (λn s'=>∃i sK H',Inv X' [] (wZ σ own.length ix) H' s'/\tn i s'.heap/\(∀b ∈ fp,H' b=sF)/\W i n sK H') rfl ?_ m0 ⟨0,[],_,I4,by rw[<- e4];exact st4,λb hb=>(f3 b hb).1,w0⟩
  rintro n s5 ⟨i,sK,H5,I5,st5,fr5,w5⟩
  refine pB ?_
  rcases turn i n sK H5 w5 with ⟨stop,qn⟩ | ⟨go,step⟩
  ·refine thn (T.done X' rfl rfl rfl hc i [] s5 _ H5 _ I5 (fp' fr5) st5 stop) λr s6 ⟨hr,I6⟩=>?_
   subst hr
   obtain⟨m,hm,_⟩:=I6.loc
   refine hRR _ _ m s6 H5 hD hm (I3.fpOk (aq _) I6.free) (I3.call' (s':=s6) I6.os I6.base I6.hok I6.bare λb hb=>?_) qn
   obtain⟨_,a1,a2,a3,a4,a5⟩:=f3 b hb
   exact⟨a3,a1,a4,a5⟩
  ·refine thn (T.item X' rfl rfl rfl hc i [] s5 _ H5 (λ_ _=>False) I5 (fp' fr5) st5 go) λr s6 ⟨u,hr,h6⟩=>?_
   subst hr
   refine pB (thn h6 λ_ s7 ⟨x,H7,I7,r7,y7,st7,fr7⟩=>?_)
   have I7':=I7.pinned (fp' fr7) (T.obj _ _ st7)
   refine pB (thn (hg _ _ _ _ _ _ _ s7 _ H7 x u _ I7' r7 (step x H7 y7)) λ_ s8 ⟨σ8,H8,I8,ks,q8⟩=>?_)
   refine pB (thn (ht _ _ _ _ _ _ _ s8 σ8 H8 _ I8 q8) λb s9 ⟨H9,I9,q9⟩=>?_)
   have back:∀{s':oR} {H':Hp} {acc':List V} {m':Nat},Inv X' ([] ++ jD fp s7.heap) σ8 H' s'->m'<n->W (i+1) m' acc' H'->∃m,m<n/\∃i sK H',Inv X' [] (wZ σ own.length ix) H' s'/\tn i s'.heap/\(∀b ∈ fp,H' b=sF)/\W i m sK H':=λ{s' H' acc' m'} J' hm w'=>by
    refine⟨m',hm,i+1,acc',H',(J'.unpinned).weak ks.1 ks.2,T.keep _ _ _ st7 λb hb o e=>(J'.pin (b,o) (aC _ (aC _ (xw hb e)))).1,λb hb=>?_,w'⟩
    obtain⟨o,e,d⟩:=T.obj _ _ st7 b hb
    exact (J'.pin (b,o) (aC _ (aC _ (xw hb e)))).2.1
   cases b with
   | false =>
    rw[if_neg aG] at q9 ⊢
    obtain⟨m',hm,w'⟩:=q9
    exact back I9 hm w'
   | true =>
    rw[if_pos rfl] at q9 ⊢
    refine pB (thn (he _ _ _ _ _ _ _ s9 σ8 H9 _ I9 q9) λv s10 ⟨y,H10,I10,r10,hD10,hsz,m',hm,w'⟩=>?_)
    refine pB ?_
    have:=xH (X:=X') _ s10 σ8 H10 (.ref s2.heap.objs.size) [y] (.ref s2.heap.objs.size) [v] (λ_ H'=>H'=upd H10 s2.heap.objs.size (.lst (sK ++ [y]))) I10 rfl (.cons r10 .nil) ⟨_,sK,y,rfl,rfl,hD10,hsz,rfl⟩
    refine thn this λ_ s11 ⟨_,H11,I11,_,eH⟩=>?_
    subst eH
    exact back I11 hm w'
 have goal:pN (model X.prog X.w) X.A (.compStart (.ListComp elt [⟨tg,iter,ifs,0⟩] scope pos) 0 (.ref it) (.ref s2.heap.objs.size) (compEnvC scope cl s3.heap.objs.size X.env)) (RR (.ref s2.heap.objs.size) s3.heap.objs.size) s4 :=
  rH loop (T.self _ 0 s4 _ _ (by rw[<- e4];exact st4) loop)
 rw[<- es4] at goal
 exact goal
theorem xh(hc:X.calm=sG)(S:qT X scope own caps ix)(hi:PI X tg iter wi)
  (hg:∀cl C sI s3 H3 fp,PG (ye X scope cl C (own ++ caps) sI s3 H3 fp λ_ _=>False) tg g)
  (ht:∀cl C sI s3 H3 fp,PTs (ye X scope cl C (own ++ caps) sI s3 H3 fp λ_ _=>False) ifs tt)
  (he:∀cl C sI s3 H3 fp,PE (ye X scope cl C (own ++ caps) sI s3 H3 fp λ_ _=>False) elt te)
  (hs:∀x,foldedSetIterable iter X.env x=pure x:=by intro _;rfl) :
  PE X (.ListComp elt [⟨tg,iter,ifs,0⟩] scope pos) (jf wi g tt te own.length ix):=by
 intro sI s σ H Q I h
 obtain⟨cl,hclos,hc1,hc2⟩:=wo (scope:=scope) (env:=X.env) λy hy=>I.ok.has y (.inl (S.free y hy))
 rw[eval_ListComp]
 refine pY (use:=sF) rfl hs hclos S.kind S.names (thn (hi sI s σ H _ I h) λv s1 h1=>thn h1 λitv s2 h2=>?_)
 obtain⟨it,fp,tn,J,H2,e,I2,T,st2,f2,q⟩:=h2
 subst e
 refine jo (RR:=λsK C=>compPost (model X.prog X.w) X.A X.xe sF (EP X sI σ Q) sK C) hc S hg ht he hc1 hc2 I2 T st2 f2 q ?_
 intro D C m s' H' _ hn fc I' qn
 obtain⟨a0,a1,a2,a3,a4,a5⟩:=fc
 exact⟨m,hn,λh' sb=>⟨.ref D,H',I'.turned (t':=s'.toks) (λb o hb e=>(sb.2 b hb).trans e) a0 a1 a3 a4 a5,rfl,qn⟩⟩
def jW(i:Nat)(t:TE):TS:=λD σ H=>t σ H λx H1=>D.nx (σ.set i (sE x)) H1
theorem wq{i:Nat}{y:oW}{py spos:pR}(hN:X.N.Nodup)(hy:X.N[i]? = sE y)(hly:Loc X.env.scope y)(hf:X.fn y=sG\/X.env.scope.names.lookup y=sE .local)(hc:X.calm=sG)(S:qT X scope own caps ix)(hi:PI X tg iter wi)
  (hg:∀cl C sI s3 H3 fp,PG (ye X scope cl C (own ++ caps) sI s3 H3 fp λ_ _=>False) tg g)
  (ht:∀cl C sI s3 H3 fp,PTs (ye X scope cl C (own ++ caps) sI s3 H3 fp λ_ _=>False) ifs tt)
  (he:∀cl C sI s3 H3 fp,PE (ye X scope cl C (own ++ caps) sI s3 H3 fp λ_ _=>False) elt te)
  (hsw:swapsWith (.ListComp elt [⟨tg,iter,ifs,0⟩] scope pos) (sE (.Name y py)) spos.line X.env=pure sG:=by rfl)
  (hs:∀x,foldedSetIterable iter X.env x=pure x:=by intro _;rfl) :
  PS X (.Assign [.Name y py] (.ListComp elt [⟨tg,iter,ifs,0⟩] scope pos) spos) (jW i (jf wi g tt te own.length ix)):=by
 intro sI s σ H D I h
 obtain⟨cl,hclos,hc1,hc2⟩:=wo (scope:=scope) (env:=X.env) λy hy=>I.ok.has y (.inl (S.free y hy))
 rw[exec_Assign_Name_used _ _ _ _ hsw]
 refine oH (pM (oH ?_))
 show oS _ X.A (do let _ <- comprehension (.ListComp elt [⟨tg,iter,ifs,0⟩] scope pos) scope X.env _ (newList []) sH (eval iter X.env) (sE (assign (.Name y py) X.env))) _ _ s
 refine oH (thn (pY (use:=sE (assign (.Name y py) X.env)) (Q:=λ_ s'=>SP X sI D .next s') rfl hs hclos S.kind S.names (thn (hi sI s σ H _ I h) λv s1 h1=>thn h1 λitv s2 h2=>?_)) λ_ s' hq=>oJ (oJ hq))
 obtain⟨it,fp,tn,J,H2,e,I2,T,st2,f2,q⟩:=h2
 subst e
 refine jo (Q:=λx H1=>D.nx (σ.set i (sE x)) H1) (RR:=λsK C=>compPost (model X.prog X.w) X.A X.xe (sE (assign (.Name y py) X.env)) (λ_ s'=>SP X sI D .next s') sK C) hc S hg ht he hc1 hc2 I2 T st2 f2 q ?_
 intro D' C m s' H1 hD' hn fc I1 nx
 obtain⟨a0,a1,a2,a3,a4,a5⟩:=fc
 show oS _ X.A (assign (.Name y py) X.env (.ref D')) _ _ s'
 refine rZ (Zl I1 hN hy hly (v:=.ref D') rfl (λs'' I2' ⟨a,sb,ha⟩=>?_) hf)
 have hCa:C≠a:=by
  rcases ha with e | e
  ·rw[e];exact a1
  ·exact λz=>a4 _ _ e z.symm
 refine⟨m,hn.sameBut sb hCa,λh' sb'=>⟨_,H1,I2'.turned (t':=s''.toks) (λb o hb e=>(sb'.2 b hb).trans e) a0 a1 a3 a4 a5,nx⟩⟩
end
end L3
namespace L3
section
variable{X:Cx}{a b:oZ}{ta tb:TE}{pos:pR}
def Qv:R2:=λx y H Q=>(∃i j,x=.int i/\y=.int j/\Q (.int (i+j)) H)\/(∃i j,x=.str i/\y=.str j/\i.length+j.length<=oN/\Q (.str (i ++ j)) H)\/zcq x y H Q
theorem qL:OpR X (binaryOp .Add) Qv:=op_add.or (op_add_str.or Vx)
def JO:R2:=λx y H Q=>(∃i j,x=.int i/\y=.int j/\CMul i j/\Q (.int (i * j)) H)\/∃z n,x=.str z/\y=.int n/\0<=n/\n<=1000/\z.length<=1000/\Q (.str (tx (aZ n.toNat (cs z)).flatten)) H
theorem JV:OpR X (binaryOp .Mult) JO:=op_mul.or XX
def zc8:R2:=λx y H Q=>(∃i j,x=.int i/\y=.int j/\Q (.bl (decide (i<j))) H)\/∃i j,x=.str i/\y=.str j/\Q (.bl (decide (cs i<cs j))) H
def zcV:R2:=λx y H Q=>(∃i j,x=.int i/\y=.int j/\Q (.bl (decide (i<=j))) H)\/∃i j,x=.str i/\y=.str j/\Q (.bl (!(decide (cs j<cs i)))) H
theorem vK:OpR X (pc .LtE) zcV:=op_le.or VZ
theorem Wu:OpR X (pc .Gt) (λx y H Q=>∃i j,x=.str i/\y=.str j/\Q (.bl (decide (cs j<cs i))) H):=by
 intro sI s σ H x y v u Q I rx ry h
 obtain⟨i,j,rfl,rfl,q⟩:=h
 obtain⟨t,rfl⟩:=rx
 obtain⟨t',rfl⟩:=ry
 exact PySem.P.gt_str ⟨.bl _,H,I,rfl,q⟩
def zbP:R2:=λx y H Q=>(∃i j,x=.int i/\y=.int j/\Q (.bl (decide (j<i))) H)\/∃i j,x=.str i/\y=.str j/\Q (.bl (decide (cs j<cs i))) H
theorem Xf:OpR X (pc .Gt) zbP:=op_gt.or Wu
def zcB(K:oO):V->Option Int->Option Int->Hp->VK->Prop:=λx lo hi H Q=>zci K x lo hi H Q\/zcs x lo hi H Q
theorem QQ:SlR X (zcB X.K):=sl_list.or wu
noncomputable def cV:V->Option oQ
 | .ty n=>sE (.type n)
 | .ref a=>sE (.ref a)
 | _=>sF
theorem U4:vR X (.builtin "isinstance") (λxs H Q=>∃x c u t b,xs=[x,c]/\cV c=sE u/\Y4 X.K H x t/\aS X.K t u=sE b/\Q (.bl b) H):=by
 intro sI s σ H xs us Q I r h
 obtain⟨x,c,u,t,b,rfl,hc,ty,e,q⟩:=h
 obtain⟨v,w',rfl,rx,rc⟩:=Wz r
 have:w'=u:=by
  cases c with
  | ty n=>cases hc;exact rc
  | ref a=>cases hc;exact rc
  | _=>cases hc
 subst this
 exact W3 I rx ty e λtk=>⟨.bl b,H,I.tok tk,rfl,q⟩
end
end L3
namespace L3
noncomputable def Iel(K:oO)(a:oP):It:=⟨λi H=>∃xs x,SqL K H a xs/\xs[i]? = sE x,λi H v H'=>∃p x,H p=sF/\(∀xs,SqL K H a xs->xs[i]? = sE x)/\v=.ref p/\H'=upd H p (.tup [.int (i:Nat),x]),λi H=>∃xs,SqL K H a xs/\i=xs.length⟩
theorem XW{P:oV}{w:oX}{K:oO}{elts:List oZ}{x1:Nat}{tpos:pR}(e it a:oP)(hei:e≠it) :
  Uh P w K (.Tuple elts x1 tpos) (Iel K a) [e,it] e (λi h=>(∃old,IsEnum h e it i old)/\h.IsListIter it a i) where
 mem:=by simp
 obj:=λi h st b hb=>by
  obtain⟨⟨old,he⟩,o,e2,c,d⟩:=st
  rcases List.mem_cons.mp hb with q | q
  ·subst q
   exact⟨_,he,λv z=>by have z':Data.fields _=Data.cell v:=z;cases z'⟩
  ·have q':b=it:=by simpa using q
   subst q'
   exact⟨o,e2,λv z=>by rw[d] at z;cases z⟩
 keep:=λi h h' st k=>by
  obtain⟨⟨old,he⟩,st⟩:=st
  exact⟨⟨old,k e (by simp) _ he⟩,st.at λo q=>k it (by simp) o q⟩
 item:=by
  intro X hP hw hK hc i sI s σ H E I hf st hg
  subst hP hw hK
  obtain⟨⟨old,he⟩,st⟩:=st
  obtain⟨xs,x,hq,hx⟩:=hg
  obtain⟨its,rv,p,hz⟩:=I.list hq
  obtain⟨u,hu,ru⟩:=rv.get hx
  have hA:X.A.in1.handled=sF:=I.ok.hd hc
  have pl:=p.isList
  have hai:a≠it:=λz=>by
   subst z
   obtain⟨o1,q1,c1,_⟩:=st
   obtain⟨o2,q2,c2,_⟩:=pl
   rw[q1] at q2;cases q2
   rw[c1] at c2
   exact absurd (Value.type.inj c2) (by decide)
  have hea:e≠a:=λz=>by
   subst z
   obtain⟨o2,q2,c2,_⟩:=pl
   rw[he] at q2;cases q2
   exact absurd (Value.type.inj c2) (by decide)
  refine wpAny_pyNext_enum_itemD (Draws.list (A:=X.A.in1) hA it a hai its.toArray) he ⟨st,pl⟩ (by rw[au];exact (List.getElem?_eq_some_iff.mp hu).1) hei (by simp [hei,hea]) λv h' tk hv ho st' hT hsz kk=>?_
  have ev:v=u:=by
   have hv':its.toArray[i]? = sE v:=hv
   rw[List.getElem?_toArray,hu] at hv'
   exact (Option.some.inj hv').symm
  subst ev
  refine⟨_,rfl,wpAny_letOwnedTupleGo_enum ho λh2 he2 sb=>?_⟩
  have elt:e<s.heap.objs.size:=ay he
  have ilt:it<s.heap.objs.size:=by obtain⟨o,q,_⟩:=st;exact ay q
  have I1:Inv X sI σ H { s with heap:=h2,toks:=tk+1 }:=Inv.turns (fp:=[e,it]) I (λb o hb q=>by
   have hb':b≠e/\b≠it:=by simpa using hb
   exact (sb.2 b hb'.1).trans (kk b o hb'.1 hb'.2 q)) hf
  have hp:H s.heap.objs.size=sF:=I.hok.fresh (aq _)
  have hT2:h2.get? s.heap.objs.size=sE { cls:=.type "tuple",data:=.seq #[.int (i:Nat) tk,v] }:=(sb.2 _ (bZ elt)).trans hT
  have I2:Inv X sI σ (upd H s.heap.objs.size (.tup [.int (i:Nat),x])) { s with heap:=h2,toks:=tk+1 } :=
   Inv.track I1 (I.fpOk (aq _) hp) ⟨by show 2<=oN;decide,[.int (i:Nat) tk,v],.cons ⟨_,rfl⟩ (.cons ru .nil),⟨_,hT2,rfl,_,rfl⟩⟩
  refine⟨.ref s.heap.objs.size,_,I2,rfl,⟨s.heap.objs.size,x,hp,λys hy=>by rw[I.list_inj hy hq];exact hx,rfl,rfl⟩,⟨⟨_,by simpa using he2⟩,?_⟩,λb hb=>?_⟩
  ·exact st'.1.at λo q=>(sb.2 it (Ne.symm hei)).trans q
  ·rw[zo]
   ·exact (hf b hb).1
   ·rcases List.mem_cons.mp hb with q | q
    ·rw[q];exact aF elt
    ·have q':b=it:=by simpa using q
     rw[q'];exact aF ilt
 done:=by
  intro X hP hw hK hc i sI s σ H E I hf st hg
  subst hP hw hK
  obtain⟨⟨old,he⟩,st⟩:=st
  obtain⟨xs,hq,hi⟩:=hg
  obtain⟨its,rv,p,hz⟩:=I.list hq
  have pl:=p.isList
  have hai:a≠it:=λz=>by
   subst z
   obtain⟨o1,q1,c1,_⟩:=st
   obtain⟨o2,q2,c2,_⟩:=pl
   rw[q1] at q2;cases q2
   rw[c1] at c2
   exact absurd (Value.type.inj c2) (by decide)
  have hA:X.A.in1.handled=sF:=I.ok.hd hc
  have hi':i=its.toArray.size:=by rw[au,<- rv.length];exact hi
  subst hi'
  refine wpAny_pyNext_enum_endD (Draws.list (A:=X.A.in1) hA it a hai its.toArray) he ⟨st,pl⟩ λh' hx=>⟨rfl,?_⟩
  exact Inv.turns (fp:=[e,it]) (t':=s.toks) I (λb o hb q=>hx b o (λz=>hb (by simp [z])) q) hf
 self:=λA i s Q E st h=>by
  obtain⟨⟨old,he⟩,_⟩:=st
  exact rY he h
section
variable{X:Cx}
def WC(K:oO)(ta:TA):TI:=λσ H R=>ta σ H λvs H1=>∃a,vs=[.ref a]/\(∃xs,SqL K H1 a xs)/\R (Iel K a) H1
theorem wd{a:oZ}{ta:TA}{p pos tpos:pR}{elts:List oZ}{x1:Nat}(hg:Gl X "enumerate")(hm:X.mg "enumerate" = sF)(ha:PA X [a] ta)(hs:oM [a] X.env=[(sH,eval a X.env)]:=by rfl) :
  PI X (.Tuple elts x1 tpos) (.Call (.Name "enumerate" p) [a] [] pos) (WC X.K ta):=by
 intro sI s σ H R I h
 refine Call_ (vd I hg hm PyProof.Rows.boot_enumerate (bB (thn (ha pos sI s σ H _ I h) λus s1 ⟨vs,H1,I1,r1,q1⟩=>?_) hs rfl))
 obtain⟨l,e,⟨xs,hq⟩,q⟩:=q1
 subst e
 obtain⟨u,rfl,ru⟩:=wP r1
 cases ru
 obtain⟨its,rv,pl,hz⟩:=I1.list hq
 refine call_enumerate_list pl.isList λh' he hit hsz kk=>?_
 have I2:Inv X sI σ H1 { s1 with heap:=h' }:=I1.kept (t':=s1.toks) kk
 refine rY (s:={ s1 with heap:=h' }) (i:=0) he ?_
 refine⟨s1.heap.objs.size+1,[s1.heap.objs.size+1,s1.heap.objs.size],_,_,H1,rfl,I2,XW _ _ l (Nat.succ_ne_self _),⟨⟨_,he⟩,hit⟩,λb hb=>?_,q⟩
 have hb':s1.heap.objs.size<=b:=by
  rcases List.mem_cons.mp hb with e | e
  ·rw[e];exact cN _
  ·have:b=s1.heap.objs.size:=by simpa using e
   rw[this];exact aq _
 exact I1.fpOk hb' (I1.hok.fresh hb')
end
def ForEL(K:oO)(a:oP)(g:TG)(tb:TS)(D:vh)(σ:St)(H:Hp):Prop:=∃W:Nat->Nat->St->Hp->Prop,(∃m,W 0 m σ H)/\∀i m σ H,W i m σ H ->
 ((Iel K a).stop i H/\D.nx σ H)\/((Iel K a).go i H/\∃N:St->Hp->Prop,(∀σ' H',N σ' H'->∃m',m'<m/\W (i+1) m' σ' H')/\∀x H',(Iel K a).yld i H x H'->g x σ H' λσ2 H2=>tb { D with nx:=N,ct:=N,bk:=D.nx } σ2 H2)
theorem zby{K:oO}{ta:TA}{g:TG}{tb:TS}{D:vh}{σ:St}{H:Hp}:Qn (WC K ta) g tb D σ H=ta σ H λvs H1=>∃a,vs=[.ref a]/\(∃xs,SqL K H1 a xs)/\ForEL K a g tb D σ H1:=rfl
theorem ForEL.by{K:oO}{a:oP}{xs:List V}{g:TG}{tb:TS}{D:vh}{σ:St}{H:Hp}(Pv:Nat->St->Hp->Prop)(h0:Pv 0 σ H)(hl:∀i σ H,i<=xs.length->Pv i σ H->SqL K H a xs)
  (hs:∀i x σ H p,xs[i]? = sE x->Pv i σ H->H p=sF->g (.ref p) σ (upd H p (.tup [.int (i:Nat),x])) λσ2 H2=>tb { D with nx:=Pv (i+1),ct:=Pv (i+1),bk:=D.nx } σ2 H2) (hd:∀σ H,Pv xs.length σ H->D.nx σ H):ForEL K a g tb D σ H:=by
 refine⟨λi m σ H=>m=xs.length - i/\i<=xs.length/\Pv i σ H,⟨xs.length,by simp,aJ _,h0⟩,?_⟩
 rintro i m σ H ⟨rfl,hi,p⟩
 have q:=hl i σ H hi p
 by_cases hlt:i<xs.length
 ·refine .inr ⟨⟨xs,xs[i],q,by simp [hlt]⟩,Pv (i+1),λσ' H' p'=>⟨xs.length - (i+1),by lia,rfl,hlt,p'⟩,λv H' y=>?_⟩
  obtain⟨p',x,hp,hx,ev,eH⟩:=y
  subst ev eH
  exact hs i x σ H p' (hx xs q) p hp
 ·have e:i=xs.length:=by lia
  subst e
  exact .inl ⟨⟨xs,q,rfl⟩,hd σ H p⟩
def ForT(K:oO)(a:oP)(g:TG)(tb:TS)(D:vh)(σ:St)(H:Hp):Prop:=∃W:Nat->Nat->St->Hp->Prop,(∃m,W 0 m σ H)/\∀i m σ H,W i m σ H ->
 ((Itt K a).stop i H/\D.nx σ H)\/((Itt K a).go i H/\∃N:St->Hp->Prop,(∀σ' H',N σ' H'->∃m',m'<m/\W (i+1) m' σ' H')/\∀x H',(Itt K a).yld i H x H'->g x σ H' λσ2 H2=>tb { D with nx:=N,ct:=N,bk:=D.nx } σ2 H2)
theorem zdn{K:oO}{tl:TE}{g:TG}{tb:TS}{D:vh}{σ:St}{H:Hp}:Qn (zb3 K tl) g tb D σ H=tl σ H λx H1=>∃a,x=.ref a/\(∃xs,SqT K H1 a xs)/\ForT K a g tb D σ H1:=rfl
theorem ForT.by{K:oO}{a:oP}{xs:List V}{g:TG}{tb:TS}{D:vh}{σ:St}{H:Hp}(Pv:Nat->St->Hp->Prop)(h0:Pv 0 σ H)(hl:∀i σ H,i<=xs.length->Pv i σ H->SqT K H a xs)
  (hs:∀i x σ H,xs[i]? = sE x->Pv i σ H->g x σ H λσ2 H2=>tb { D with nx:=Pv (i+1),ct:=Pv (i+1),bk:=D.nx } σ2 H2) (hd:∀σ H,Pv xs.length σ H->D.nx σ H):ForT K a g tb D σ H:=Jr Pv h0 hl hs hd
def tTr(K:oO)(ta:TE):TT:=λσ H Q=>ta σ H λx H'=>∃k,K1 K x H' k/\Q k H'
theorem zbY{K:oO}{ta:TE}{σ:L2.St}{H:Hp}{Q:Bool->Hp->Prop}:tTr K ta σ H Q=ta σ H λx H'=>∃k,K1 K x H' k/\Q k H':=rfl
def tBl(ta:TE):TT:=λσ H Q=>ta σ H λx H'=>∃k,x=.bl k/\Q k H'
theorem zca{ta:TE}{σ:L2.St}{H:Hp}{Q:Bool->Hp->Prop}:tBl ta σ H Q=ta σ H λx H'=>∃k,x=.bl k/\Q k H':=rfl
section
variable{X:Cx}{a:oZ}{ta:TE}
theorem xn(ha:PE X a ta)(he:∀whole,isTrue a X.env whole=(do let v <- whole;standAt a.pos;holding [v] (truthy v))):PT X a (tBl ta):=by
 intro sI s σ H Q I h
 refine isTrue_plain (thn (ha sI s σ H _ I h) λv s1 ⟨x,H1,I1,r1,k,e,q1⟩=>?_) (he _)
 subst e
 exact Q4 sI s1 σ H1 (.bl k) v Q I1 r1 ⟨k,rfl,q1⟩
end
end L3
namespace L3
noncomputable def Irv(K:oO)(a:oP)(n:Nat):It:=⟨λi H=>∃xs,SqL K H a xs/\xs.length=n/\i<n,λi H v H'=>H'=H/\∀xs,SqL K H a xs->xs.length=n->xs[n - 1 - i]? = sE v,λi H=>i=n⟩
theorem U8{P:oV}{w:oX}{K:oO}{tg:oZ}(a it:oP)(n:Nat):Uh P w K tg (Irv K a n) [it] it (λi h=>i<=n/\h.IsRevIter it a ((n:Int) - 1 - (i:Int))) where
 mem:=by simp
 obj:=λi h st b hb=>by
  have e:b=it:=by simpa using hb
  subst e
  obtain⟨_,o,e,c,d⟩:=st
  exact⟨o,e,λv z=>by rw[d] at z;cases z⟩
 keep:=λi h h' st k=>⟨st.1,st.2.at λo e=>k it (by simp) o e⟩
 item:=by
  intro X hP hw hK hc i sI s σ H E I hf st hg
  subst hP hw hK
  obtain⟨xs,hq,hn,hi⟩:=hg
  obtain⟨its,rv,p,hz⟩:=I.list hq
  obtain⟨f0,f1,f2,f3,f4,f5⟩:=hf it (by simp)
  have hx:xs[n - 1 - i]? = sE (xs[n - 1 - i]'(by lia)):=ak (by lia)
  generalize xs[n - 1 - i]'(by lia)=x at hx
  obtain⟨u,hu,ru⟩:=rv.get hx
  have st2:=st.2
  have e:(n:Int) - 1 - (i:Int)=((n - 1 - i:Nat):Int):=by lia
  rw[e] at st2
  refine wpAny_pyNext_rev_item st2 p.isList (x:=u) (by simpa using hu) λh' st' sb=>?_
  have I1:Inv X sI σ H { s with heap:=h' }:=I.turned (t':=s.toks) (λb o hb e=>(sb.2 b hb).trans e) f0 f1 f3 f4 f5
  have e2:((n - 1 - i:Nat):Int) - 1=(n:Int) - 1 - ((i+1:Nat):Int):=by lia
  rw[e2] at st'
  obtain⟨o,e,c,d⟩:=id st'
  exact⟨u,rfl,Vl (s:={ s with heap:=h' }) e c d (by decide) ⟨x,H,I1,ru,⟨rfl,λys hy _=>by rw[I.list_inj hy hq];exact hx⟩,⟨hi,st'⟩,λb hb=>(hf b hb).1⟩⟩
 done:=by
  intro X hP hw hK hc i sI s σ H E I hf st hg
  subst hP hw hK
  obtain⟨f0,f1,f2,f3,f4,f5⟩:=hf it (by simp)
  have hi:i=n:=hg
  have st2:=st.2
  rw[hi,show (n:Int) - 1 - (n:Int)=-1 by lia] at st2
  exact wpAny_pyNext_rev_end (I.ok.hd hc) st2 λh' eb=>⟨rfl,I.turned (t':=s.toks) (λb o hb e=>eb b o hb e) f0 f1 f3 f4 f5⟩
 self:=λ_ _ _ _ _ st h=>rM st.2 h
theorem Qi:pE "reversed" = sE (.type "reversed"):=PyProof.Rows.boot_reversed
section
variable{X:Cx}{tg:oZ}
def zcI(K:oO)(ta:TA):TI:=λσ H R=>ta σ H λvs H1=>∃a xs,vs=[.ref a]/\SqL K H1 a xs/\R (Irv K a xs.length) H1
theorem zaW{a:oZ}{ta:TA}{p pos:pR}(hg:Gl X "reversed")(hm:X.mg "reversed" = sF)(ha:PA X [a] ta)(hs:oM [a] X.env=[(sH,eval a X.env)]:=by rfl) :
  PI X tg (.Call (.Name "reversed" p) [a] [] pos) (zcI X.K ta):=by
 intro sI s σ H R I h
 refine Call_ (vd I hg hm Qi (bB (thn (ha pos sI s σ H _ I h) λus s1 ⟨vs,H1,I1,r1,q1⟩=>?_) hs rfl))
 obtain⟨l,xs,e,hq,q⟩:=q1
 subst e
 obtain⟨u,rfl,ru⟩:=wP r1
 cases ru
 obtain⟨its,rv,pl,hz⟩:=I1.list hq
 have hn:its.toArray.size=xs.length:=by rw[au,<- rv.length]
 refine call_reversed_list pl.isList ?_
 have hit:(s1.heap.push (revObj l ((its.toArray.size:Int) - 1))).IsRevIter s1.heap.objs.size l ((xs.length:Int) - 1 - ((0:Nat):Int)):=by
  refine⟨_,aI _ rfl,rfl,?_⟩
  rw[hn,show (xs.length:Int) - 1 - ((0:Nat):Int)=(xs.length:Int) - 1 by lia]
  rfl
 refine rM (s:={ s1 with heap:=s1.heap.push (revObj l ((its.toArray.size:Int) - 1)) }) hit ?_
 refine⟨s1.heap.objs.size,[s1.heap.objs.size],_,_,H1,rfl,I1.kept (t':=s1.toks) λb o e=>aa _ e,U8 l _ xs.length,⟨aJ _,hit⟩,λb hb=>?_,q⟩
 have e:b=s1.heap.objs.size:=by simpa using hb
 subst e
 exact I1.fpOk (aq _) (I1.hok.fresh (aq _))
end
section
variable{prog:oV}{w:oX}{A:oY}{E:oQ->oR->Prop}{s:oR}
end
section
variable{X:Cx}
def zbC(K:oO)(ta:TA):TE:=λσ H Q=>ta σ H λvs H1=>∃a xs,vs=[.ref a]/\SqL K H1 a xs/\∀l,H1 l=sF->Q (.ref l) (upd H1 l (.lst xs.reverse))
theorem Ky{K:oO}{ta:TA}{σ:L2.St}{H:Hp}{Q:VK}:zbC K ta σ H Q=ta σ H λvs H1=>∃a xs,vs=[.ref a]/\SqL K H1 a xs/\∀l,H1 l=sF->Q (.ref l) (upd H1 l (.lst xs.reverse)):=rfl
end
noncomputable def Izp(K:oO)(a b:oP):It:=⟨λi H=>∃xs ys x y,SqL K H a xs/\SqL K H b ys/\xs[i]? = sE x/\ys[i]? = sE y,λi H v H'=>∃p x y,H p=sF/\(∀xs,SqL K H a xs->xs[i]? = sE x)/\(∀ys,SqL K H b ys->ys[i]? = sE y)/\v=.ref p/\H'=upd H p (.tup [x,y]),λi H=>∃xs ys,SqL K H a xs/\SqL K H b ys/\(xs.length=i\/ys.length=i)/\i<=xs.length/\i<=ys.length⟩
theorem wT{h:pb}{a b:oP}{o1 o2:pC}{t u:String}(h1:h.get? a=sE o1)(c1:o1.cls=.type t)(h2:h.get? b=sE o2)(c2:o2.cls=.type u)(hne:t≠u):a≠b:=λz=>by
 rw[z,h2] at h1
 cases h1
 rw[c2] at c1
 exact hne (Value.type.inj c1).symm
structure Q9(z TI TO i1 i2:oP):Prop where
 TIz:TI≠z
 TOz:TO≠z
 i1z:i1≠z
 i2z:i2≠z
 TITO:TI≠TO
 TIi1:TI≠i1
 TIi2:TI≠i2
 TOi1:TO≠i1
 TOi2:TO≠i2
 i12:i1≠i2
def ZipAt(z TI TO i1 i2 l1 l2:oP)(i:Nat)(h:pb):Prop:=rq h z TI TO .none/\pK h TI (.ref i1) (.ref i2)/\(∃a b,pK h TO a b)/\h.IsListIter i1 l1 i/\h.IsListIter i2 l2 i
theorem ZipAt.apart{z TI TO i1 i2 l1 l2:oP}{i:Nat}{h:pb}{xs ys:Array oQ}(D:Q9 z TI TO i1 i2)(st:ZipAt z TI TO i1 i2 l1 l2 i h)(h1:h.IsList l1 xs)(h2:h.IsList l2 ys):ZipApart z TI TO i1 i2 l1 l2:=by
 obtain⟨hz,hTI,⟨a,b,hTO⟩,⟨o1,e1,c1,_⟩,⟨o2,e2,c2,_⟩⟩:=st
 obtain⟨p1,q1,k1,_⟩:=h1
 obtain⟨p2,q2,k2,_⟩:=h2
 exact⟨D.TIz,D.TOz,D.i1z,D.i2z,D.TITO,D.TIi1,D.TIi2,D.TOi1,D.TOi2,D.i12,wT q1 k1 hz rfl (by decide),wT q1 k1 hTO rfl (by decide),wT q1 k1 e1 c1 (by decide),wT q1 k1 e2 c2 (by decide),wT q2 k2 hz rfl (by decide),wT q2 k2 hTO rfl (by decide),wT q2 k2 e1 c1 (by decide),wT q2 k2 e2 c2 (by decide)⟩
section
variable{X:Cx}
def zde(K:oO)(ta:TA):TI:=λσ H R=>ta σ H λvs H1=>∃a b,vs=[.ref a,.ref b]/\(∃xs,SqL K H1 a xs)/\(∃ys,SqL K H1 b ys)/\R (Izp K a b) H1
end
def zda(K:oO)(a b:oP)(g:TG)(tb:TS)(D:vh)(σ:L2.St)(H:Hp):Prop:=∃W:Nat->Nat->L2.St->Hp->Prop,(∃m,W 0 m σ H)/\∀i m σ H,W i m σ H ->
 ((Izp K a b).stop i H/\D.nx σ H)\/((Izp K a b).go i H/\∃N:L2.St->Hp->Prop,(∀σ' H',N σ' H'->∃m',m'<m/\W (i+1) m' σ' H')/\∀x H',(Izp K a b).yld i H x H'->g x σ H' λσ2 H2=>tb { D with nx:=N,ct:=N,bk:=D.nx } σ2 H2)
theorem zc5{K:oO}{ta:TA}{g:TG}{tb:TS}{D:vh}{σ:L2.St}{H:Hp}:Qn (zde K ta) g tb D σ H=ta σ H λvs H1=>∃a b,vs=[.ref a,.ref b]/\(∃xs,SqL K H1 a xs)/\(∃ys,SqL K H1 b ys)/\zda K a b g tb D σ H1:=rfl
end L3
namespace L3
noncomputable abbrev xob(C:oP)(dx:Option oP)(t:oP)(tb:oQ):pC:={ cls:=.ref C,dict:=dx,data:=.fields #[.ref t,tb,.none,.none,.bool sH,.none] }
noncomputable abbrev xog(C:oP)(dx:Option oP)(t:oP)(tb c:oQ)(k:Bool):pC:={ cls:=.ref C,dict:=dx,data:=.fields #[.ref t,tb,c,.none,.bool k,.none] }
def Kf(h:pb)(x:oP)(tb:oQ):Prop:=tb=.none\/∃T oT ts,tb=.ref T/\T≠x/\h.get? T=sE oT/\oT.data=.fields ts/\3<ts.size
section
variable{M:sj}{A:oY}{E:oQ->oR->Prop}{s:oR}{base:pb}{env env0:rK}{outer:List rK}{L x t C:oP}{dx:Option oP}{cx:oQ}{kx:Bool}
theorem Zs(h:env.frame=env0.frame):dU env=dU env0:=by unfold dU;rw[h]
theorem jR{tb head:oQ}{hadNext:Bool}{Q:Unit->oR->Prop}(hfr:A.frames=sE (env0::outer))(hl:s.heap.FunFrames base (env0::outer))(hf:env0.frame=sE L)(he:env.frame=sE L)
  (hx:s.heap.get? x=sE (xog C dx t tb cx kx))
  (h:∀h' oT ts,h'.get? x=sE (xog C dx t (.ref s.heap.objs.size) cx kx)->s.heap.objs.size≠x->h'.get? s.heap.objs.size=sE oT->oT.data=.fields ts->3<ts.size ->
   (∀b o,b≠x->b ∉ frs (env0::outer)->s.heap.get? b=sE o->h'.get? b=sE o)->(∀b o,b≠x->s.heap.get? b=sE o->∃sl,h'.get? b=sE { o with slots:=sl })->Q () { s with heap:=h' }) :
  oS M A (do let a <- dU env;let pl <- entryPlaceOf L hadNext;let b <- EntryCells.newEntry head a .none (rawInt L) .none pl;setField (.ref x) 1 b) Q E s:=by
 have hxf:x ∉ frs (env0::outer):=λhm=>by
  obtain⟨_,o,ho,hnf⟩:=hl.mem hm
  rw[hx] at ho
  cases ho
  exact hnf _ rfl
 rw[Zs (he.trans hf.symm)]
 refine oH (wpAny_frameOf_fun hfr hl hf λh1 hs1=>oH (wpAny_entryPlaceOf λpl hpl=>?_))
 unfold EntryCells.newEntry newFields
 refine oH (rA ?_ (hpl.sizeOk5 _ _ _ _ _))
 have hz:h1.objs.size=s.heap.objs.size:=hs1.1
 have hx1:h1.get? x=sE (xog C dx t tb cx kx):=(hs1.2.1 x hxf).trans hx
 generalize ho:({ cls:=.type "traceback",dict:=sF,data:=.fields ([head,.ref L,.none,rawInt L,.none] ++ (if pl.isEmpty then aZ 6 Value.none else pl)).toArray }:pC)=ob
 have hx2:(h1.push ob).get? x=sE (xog C dx t tb cx kx):=aa _ hx1
 refine pO hx2 rfl (by show 1<6;decide) ?_
 have hne:h1.objs.size≠x:=bZ (ay hx1)
 have hx3:((h1.push ob).update x (Obj.mapFields (·.setIfInBounds 1 (Value.ref h1.objs.size)))).get? x=sE (xog C dx t (.ref h1.objs.size) cx kx) :=
  bV (Obj.mapFields (·.setIfInBounds 1 (Value.ref h1.objs.size))) hx2 rfl
 have hT:((h1.push ob).update x (Obj.mapFields (·.setIfInBounds 1 (Value.ref h1.objs.size)))).get? h1.objs.size=sE ob :=
  (aL _ _ (Ne.symm hne)).trans (aI h1 (by rw[<- ho];rfl))
 rw[hz] at hx3 hT hne
 have kp:∀b o,b≠x->h1.get? b=sE o->((h1.push ob).update x (Obj.mapFields (·.setIfInBounds 1 (Value.ref h1.objs.size)))).get? b=sE o:=λb o hb e =>
  (aL _ _ (Ne.symm hb)).trans (aa _ e)
 rw[hz] at kp ⊢
 refine h _ ob _ hx3 hne hT (by rw[<- ho]) (by simp only[au,am,aM,cb] <;> lia) (λb o hb hbf e=>kp b o hb ((hs1.2.1 b hbf).trans e)) λb o hb e=>?_
 obtain⟨sl,q⟩:=hs1.2.2 b o e
 exact⟨sl,kp b _ hb q⟩
theorem j6{tb:oQ}{Q:Unit->oR->Prop}(hfr:A.frames=sE (env0::outer))(hl:s.heap.FunFrames base (env0::outer))(hf:env0.frame=sE L)(he:env.frame=sE L)
  (hx:s.heap.get? x=sE (xog C dx t tb cx kx)) (htb:Kf s.heap x tb)
  (h:∀h' T oT ts,h'.get? x=sE (xog C dx t (.ref T) cx kx)->T≠x->(tb=.ref T\/s.heap.objs.size<=T)->h'.get? T=sE oT->oT.data=.fields ts->3<ts.size ->
   (∀b o,b≠x->tb≠.ref b->b ∉ frs (env0::outer)->s.heap.get? b=sE o->h'.get? b=sE o)->(∀b o,b≠x->tb≠.ref b->s.heap.get? b=sE o->∃sl,h'.get? b=sE { o with slots:=sl })->Q () { s with heap:=h' }) :
  oS M A (noteFrame (.ref x) env) (λ_ s1=>oS M A (setFlight (.ref x) sF) Q E s1) E s:=by
 have land:∀(h1:pb) (T:oP) (oT:pC) (ts:Array oQ),h1.get? x=sE (xog C dx t (.ref T) cx kx)->T≠x->(tb=.ref T\/s.heap.objs.size<=T)->h1.get? T=sE oT->oT.data=.fields ts->3<ts.size ->
   (∀b o,b≠x->tb≠.ref b->b ∉ frs (env0::outer)->s.heap.get? b=sE o->h1.get? b=sE o)->(∀b o,b≠x->tb≠.ref b->s.heap.get? b=sE o->∃sl,h1.get? b=sE { o with slots:=sl }) ->
   oS M A (setFlight (.ref x) sF) Q E { s with heap:=h1 }:=λh1 T oT ts e1 nT oldT e2 d2 z2 k1 k2=>by
  unfold setFlight
  refine oH (pi (s:={ s with heap:=h1 }) e1 rfl (x:=.ref T) rfl ?_)
  rw[if_pos (show (Value.ref T != Value.none)=sG from by simp)]
  refine pO (s:={ s with heap:=h1 }) e2 d2 z2 ?_
  have d3:=Obj.data_mapFields d2 (·.setIfInBounds 3 ((sF:Option oP).elim Value.none λf=>rawInt f))
  have nb:∀b,b≠x->tb≠.ref b->(∃o,s.heap.get? b=sE o)->b≠T:=λb hb hbt ⟨o,eo⟩ z=>by
   subst z
   rcases oldT with q | q
   ·exact hbt q
   ·exact absurd (ay eo) (Nat.not_lt.mpr q)
  refine h _ T _ _ ((aL _ _ nT).trans e1) nT oldT (bV _ e2 (Obj.isFreed_of_fields d3)) d3 (by simpa using z2) (λb o hb hbt hbf e=>?_) λb o hb hbt e=>?_
  ·exact (aL _ _ (Ne.symm (nb b hb hbt ⟨o,e⟩))).trans (k1 b o hb hbt hbf e)
  ·obtain⟨sl,q⟩:=k2 b o hb hbt e
   exact⟨sl,(aL _ _ (Ne.symm (nb b hb hbt ⟨o,e⟩))).trans q⟩
 unfold noteFrame
 simp only[he]
 refine oH (pi hx rfl (x:=tb) rfl ?_)
 rcases htb with rfl | ⟨T,oT,ts,rfl,nT,e2,d2,z2⟩
 ·rw[if_neg (by decide)]
  refine jR hfr hl hf he hx λh' oT ts e1 ne e2 d2 z2 k1 k2=>land h' _ oT ts e1 ne (.inr (aq _)) e2 d2 z2 (λb o hb _ hbf e=>k1 b o hb hbf e) λb o hb _ e=>k2 b o hb e
 ·rw[if_pos (show (Value.ref T != Value.none)=sG from by simp)]
  obtain⟨y,hy⟩:∃y,ts[3]? = sE y:=⟨ts[3],by simp [z2]⟩
  refine oH (pi e2 d2 (x:=y) hy ?_)
  by_cases c:(y == rawInt L)=sG
  ·rw[if_pos c]
   exact oJ (land s.heap T oT ts hx nT (.inl rfl) e2 d2 z2 (λb o _ _ _ e=>e) λb o _ _ e=>⟨o.slots,e⟩)
  ·rw[if_neg c]
   refine oH (pO e2 d2 z2 ?_)
   have oth:∀b,b≠T->(s.heap.update T (Obj.mapFields (·.setIfInBounds 3 Value.none))).get? b=s.heap.get? b:=λb hb=>aL _ _ (Ne.symm hb)
   have hl1:(s.heap.update T (Obj.mapFields (·.setIfInBounds 3 Value.none))).FunFrames base (env0::outer):=hl.of_keeps λb o hb hnf=>⟨o,(oth b λq=>by rw[q,e2] at hb;cases hb;exact hnf ts d2).trans hb,rfl⟩
   have hsz:(s.heap.update T (Obj.mapFields (·.setIfInBounds 3 Value.none))).objs.size=s.heap.objs.size:=dz ..
   refine jR (s:={ s with heap:=s.heap.update T (Obj.mapFields (·.setIfInBounds 3 Value.none)) }) hfr hl1 hf he ((oth x (Ne.symm nT)).trans hx) λh' oT' ts' e1 ne e2' d2' z2' k1 k2=>?_
   refine land h' _ oT' ts' e1 ne (.inr (by rw[hsz];exact aq _)) e2' d2' z2' (λb o hb hbt hbf e=>k1 b o hb hbf ((oth b λq=>hbt (by rw[q])).trans e)) λb o hb hbt e=>k2 b o hb ((oth b λq=>hbt (by rw[q])).trans e)
theorem JK{tb:oQ}{Q:Unit->oR->Prop}(hfr:A.frames=sE (env0::outer))(hl:s.heap.FunFrames base (env0::outer))(hf:env0.frame=sE L)(he:env.frame=sE L)
  (hx:s.heap.get? x=sE (xog C dx t tb cx kx)) (htb:Kf s.heap x tb)
  (h:∀h' T oT ts,h'.get? x=sE (xog C dx t (.ref T) cx kx)->T≠x->(tb=.ref T\/s.heap.objs.size<=T)->h'.get? T=sE oT->oT.data=.fields ts->3<ts.size ->
   (∀b o,b≠x->tb≠.ref b->b ∉ frs (env0::outer)->s.heap.get? b=sE o->h'.get? b=sE o)->(∀b o,b≠x->tb≠.ref b->s.heap.get? b=sE o->∃sl,h'.get? b=sE { o with slots:=sl })->Q () { s with heap:=h' }) :
  oS M A (leaving env (.ref x)) Q E s:=oH (j6 hfr hl hf he hx htb h)
end
def CXx(P:oV)(w:oX):CXT:=λouter H s E e s'=>∃(x C t:oP) (dx:Option oP) (tb:oQ) (H':Hp),e=.ref x/\s'.os=s.os/\rn s'.gens/\Un (frs outer) [] H H' s.heap s'.heap/\HOk P w H' s'.heap /\
 s'.heap.get? x=sE (xob C dx t tb)/\Kf s'.heap x tb/\H' x=sF/\s.heap.objs.size<=x/\(∀T,tb=.ref T->H' T=sF/\s.heap.objs.size<=T)/\E (.ref C) dx H'
def zak(X:Cx)(E:XK)(e:oQ)(s:oR):Prop:=∃(sI:List (oP × pC)) (σ:St) (H:Hp) (x C t:oP) (dx:Option oP) (tb:oQ),e=.ref x/\Inv X sI σ H s /\
 s.heap.get? x=sE (xob C dx t tb)/\Kf s.heap x tb/\xO X sI H x/\(∀T,tb=.ref T->xO X sI H T)/\E (.ref C) dx H
def XE(X:Cx)(E:XK):Prop:=∀e s,zak X E e s->X.xe e s
theorem Xn{X:Cx}{E:XK}(hx:XE X E):uB (CXx X.prog X.w) X E:=by
 intro sI σ H s e s' I h
 obtain⟨x,C,t,dx,tb,H',rfl,os,bare,un,hok,ob,tr,hn,hsz,hT,q⟩:=h
 have I':Inv X sI σ H' s':=I.call' os un hok bare λb z=>absurd z (by simp)
 exact hx _ _ ⟨sI,σ,H',x,C,t,dx,tb,rfl,I',ob,tr,I.fpOk hsz hn,λT e=>I.fpOk (hT T e).2 (hT T e).1,q⟩
theorem zax{P:oV}{w:oX}{K:oO}{mg:oW->Option oQ}{base:pb}{N:List oW}{qual:oW}{scope:pJ}{f:oP}{cd:oQ}{A:oY}{outer:List rK}{s:oR}{H:Hp}{E:XK} :
  XE (uQ (CXx P w) P w K mg base N qual scope f cd A outer s H E) E:=by
 intro e s1 h
 obtain⟨sI,σ,H1,x,C,t,dx,tb,rfl,I,ob,tr,fx,fT,q⟩:=h
 show oS _ _ (leaving _ (.ref x)) _ _ s1
 have ff:=I.stack
 refine JK (A:=(uQ (CXx P w) P w K mg base N qual scope f cd A outer s H E).A) (env0:=rm qual scope s.heap.objs.size f cd) (outer:=outer) I.ok.frames ff rfl rfl ob tr λh' T oT ts e1 nT oldT e2 d2 z2 k1 k2=>?_
 have szs:s.heap.objs.size<=s1.heap.objs.size:=I.sz
 have hxs:s.heap.objs.size<=x:=by
  rcases fx.2.2.2.1 with z | z
  ·exact absurd z (by simp [uQ])
  ·exact z
 have hTs:s.heap.objs.size<=T/\H1 T=sF:=by
  rcases oldT with z | z
  ·obtain⟨a0,_,_,a3,_⟩:=fT T z
   rcases a3 with y | y
   ·exact absurd y (by simp [uQ])
   ·exact⟨y,a0⟩
  ·exact⟨aR szs z,I.hok.fresh z⟩
 have tbs:∀b,tb=.ref b->s.heap.objs.size<=b/\H1 b=sF:=λb hb=>by
  obtain⟨a0,_,_,a3,_⟩:=fT b hb
  rcases a3 with y | y
  ·exact absurd y (by simp [uQ])
  ·exact⟨y,a0⟩
 have old:∀b o,s.heap.get? b=sE o->b≠x/\tb≠.ref b:=λb o e=>by
  have hb:=ay e
  refine⟨aF (aB hb hxs),λz=>?_⟩
  exact absurd (aB hb (tbs b z).1) (cH _)
 have un:Un (frs outer) [] H H1 s.heap h':=by
  have B:=I.base
  refine⟨λb o e n hb _=>?_,λb o e n hb _=>?_,λb o e n _=>B.free b o e n (by simp [uQ]),λb o e _=>?_,B.tups,B.frzs,B.tbls⟩
  ·have e1:=B.keep b o e n hb (by simp [uQ])
   refine k1 b o (old b o e).1 (old b o e).2 (λz=>?_) e1
   have z':=I.stkSub b z
   rcases List.mem_cons.mp z' with q | q
   ·exact absurd q (aF (aB (ay e) I.ok.above))
   ·exact hb q
  ·obtain⟨sl,e1⟩:=B.slot b o e n hb (by simp [uQ])
   obtain⟨sl',e2⟩:=k2 b _ (old b o e).1 (old b o e).2 e1
   exact⟨sl',e2⟩
  ·obtain⟨o',e1⟩:=B.there b o e (by simp [uQ])
   obtain⟨sl',e2⟩:=k2 b _ (old b o e).1 (old b o e).2 e1
   exact⟨_,e2⟩
 have hok:HOk P w H1 h':=λb u e=>by
  refine (I.hok b u e).stay (λc v hc q=>k1 c v ?_ ?_ ?_ q) (λ_ q=>q) λ_ _ q=>q
  ·rintro rfl
   rcases hc with rfl | hc
   ·rw[fx.1] at e;cases e
   ·rw[fx.1] at hc;cases hc
  ·intro z
   have:=(tbs c z).2
   rcases hc with rfl | hc
   ·rw[this] at e;cases e
   ·rw[this] at hc;cases hc
  ·intro z
   have:=I.stkFree c z
   rcases hc with rfl | hc
   ·rw[this] at e;cases e
   ·rw[this] at hc;cases hc
 exact⟨x,C,t,dx,.ref T,H1,rfl,I.os,I.bare,un,hok,e1,.inr ⟨T,oT,ts,rfl,nT,e2,d2,z2⟩,fx.1,hxs,λT' z=>by cases z;exact⟨hTs.2,hTs.1⟩,q⟩
theorem Fun.okX{P:oV}{w:oX}{K:oO}{mg:oW->Option oQ}{base:pb}{x qual:oW}{st:pf}{f:oP}{fd:oU}{N ps:List oW}{k:Nat}{sp:Sp}(F:Fun K x qual st f fd)(S:zr N ps (zb st))(len:∀vs H Q E,sp vs H Q E->vs.length=ps.length)
  (hbody:∀(cdv:oQ) (A:oY) (outer:List rK) (s:oR) (H:Hp) (vs:List V) (Q:VK) (E:XK),Room k (A.deeper (rm qual (zb st) s.heap.objs.size f cdv))->XE (uQ (CXx P w) P w K mg base N qual (zb st) f cdv A outer s H E) E->sp vs H Q E ->
   ∃t,PSs (uQ (CXx P w) P w K mg base N qual (zb st) f cdv A outer s H E) (zl st) t/\t { nx:=λ_ H'=>Q .non H',rt:=Q } (start N vs) H):yg P w K mg base (CXx P w) (k+1) f fd ps sp:=by
 obtain⟨oc,od,kV,doc,pm,an,cdv,ct,osl,rfl,lk,hcd⟩:=F.ex
 exact QC lk hcd S len λA outer s H vs Q E hr hsp=>hbody cdv A outer s H vs Q E hr zax hsp
def zaf(X:Cx)(E:XK)(e:oQ)(s:oR):Prop:=∃(cx:oQ) (kx:Bool) (sI:List (oP × pC)) (σ:St) (H:Hp) (x C t:oP) (dx:Option oP) (tb:oQ),e=.ref x/\Inv X sI σ H s /\
 s.heap.get? x=sE (xog C dx t tb cx kx)/\Kf s.heap x tb/\xO X sI H x/\(∀T,tb=.ref T->xO X sI H T)/\E (.ref C) dx H
def XEg(X:Cx)(E:XK):Prop:=∀e s,zaf X E e s->X.xe e s
end L3
namespace L3
structure RoomH(k:Nat)(A:oY):Prop where
 dp:A.depth+3 * k+5<rO
 un:A.units+16 * k+200<cLine
theorem RoomH.mark{k:Nat}{A:oY}(r:RoomH k A)(e:Option oQ):RoomH k (A.mark e):=⟨r.dp,r.un⟩
noncomputable def cxH(P:oV)(w:oX)(K:oO)(mg:oW->Option oQ)(base:pb)(N:List oW)(qual:oW)(scope:pJ)(f:oP)(cd:oQ)(A:oY)(outer:List rK)(s:oR)(H:Hp):Cx :=
 { uQ CX0 P w K mg base N qual scope f cd A outer s H E0 with calm:=sH,xe:=λ_ _=>False }
section
variable{X:Cx}{k:Nat}{f:oP}{fd:oU}{ps:List oW}{sp:Sp}{x:oW}{p pos:pR}{e:oZ}{es:List oZ}{t:TA}
end
end L3
namespace L3
noncomputable abbrev bmV:List oQ:=[.type "ValueError",.type "Exception",.type "BaseException",.type "object"]
noncomputable def ZY(K:oO)(C:oP):Bool:=match K.lookup C with
 | some ⟨.type "type",_,.cls cd,sl⟩=>(match cd.mro,sl.toList with
  | .ref C'::bm,[_,_,_,_,sE (.builtin n),_]=>C' == C && (n == "ValueError.__new__" && (!cd.hasDel && (cd.hasDict && PySem.W.tailIn K bmV bm)))
  | _,_=>sH)
 | _=>sH
theorem vN{K:oO}{C:oP}(q:ZY K C=sG):∃bm N nm qn bs sn sub ab col dd k0 k1 k2 k3 k5,K.lookup C=sE (rP nm qn C N bs bm sG sn sub ab col dd k0 k1 k2 k3 k5 "ValueError.__new__")/\∀h:pb,K.In h->OwnTail h bmV bm:=by
 unfold ZY at q
 split at q
 ·rename_i dd cd sl ho
  split at q
  ·rename_i C' bm k0 k1 k2 k3 n k5 hm hs
   simp only[cE,beq_iff_eq,dZ] at q
   obtain⟨rfl,rfl,hdel,hdct,ht⟩:=q
   obtain⟨nm,bs,mro,ns,qn,hd,sn,sub,ab,col,del⟩:=cd
   dsimp only at hm hdel hdct
   subst hm hdel hdct
   have hsl:sl=#[k0,k1,k2,k3,sE (.builtin "ValueError.__new__"),k5]:=by
    obtain⟨l⟩:=sl
    simp only at hs
    rw[hs]
   subst hsl
   exact⟨bm,ns,nm,qn,bs,sn,sub,ab,col,dd,k0,k1,k2,k3,k5,ho,λh X=>PySem.W.tail_of_in X ht⟩
  ·cases q
 ·cases q
structure XC(K:oO)(C:oP):Prop where
 ok:ZY K C=sG
 sa:ah K (.ref C) "__setattr__" = sE (sE (.builtin "object.__setattr__"))
 ga:ah K (.ref C) "__getattribute__" = sE (sE (.builtin "BaseException.__getattribute__"))
 gt:ah K (.ref C) "__getattr__" = sE sF
 kp:aj K (.ref C)=sG
section
variable{prog:oV}{w:oX}{A:oY}{R:rQ->oR->Prop}{h:pb}{g:Array so}{d:Drawn}{t:Nat}{os:OsState}{K:oO}{C:oP}
theorem Y3{init:oQ}{rest:List oQ}(X:K.In h)(q:ZY K C=sG)(hi:ah K (.ref C) "__init__" = sE (sE init))
  (hb:∀self,PySem.W.Looks (model prog w) h (bindSpecial init self) (init,[self])) (hrest:rest.length<=oN)
  (hq:pN (model prog w) (A.under (.builtin "type.__call__" ⟨.ref C::rest,[]⟩)) (.call init ⟨.ref (h.objs.size+1)::rest,[]⟩) (PySem.W.InitBack (h.objs.size+1) R) ⟨(h.push { cls:=.type "tuple",data:=.seq rest.toArray }).push (xob C sF h.objs.size .none),g,d,t,os⟩) :
  pN (model prog w) A (.call (.ref C) ⟨rest,[]⟩) R ⟨h,g,d,t,os⟩:=by
 obtain⟨bm,N,nm,qn,bs,sn,sub,ab,col,dd,k0,k1,k2,k3,k5,lk,tl⟩:=vN q
 have hC:=X _ _ lk
 have T:=tl h X
 have F:=dW
 have f1:=tc_lookup
 have f2:=tc_bind (.ref C)
 have hT:(⟨h,g,d,t,os⟩:oR).TypeIs (.ref C) "type":=⟨_,hC,rfl⟩
 refine codeAny_of_tree ?_
 show oS _ _ (callAny (.ref C) _) _ _ _
 repeat (any_goals (first | assumption | with_reducible refine pH hC ?_ | wp_step))
 refine⟨rfl,?_⟩
 refine codeAny_call_builtin_at (Code.quiet_builtin _ (by decide +kernel)) entry_typeCall (wpAny_check_type_call_sub hC ?_)
 repeat (first | with_reducible refine pH hC ?_ | with_reducible refine wpAny_madeBy_exc hC ?_ | wp_step)
 refine codeAny_call_builtin_code (Code.quiet_builtin _ F.quiet) (wpAny_check_new_subT F T hC ?_)
 refine codeAny_exc_new_subT F T hC ?_ hrest
 show oS _ _ _ _ _ _
 have k:∀b o,h.get? b=sE o->((h.push { cls:=.type "tuple",data:=.seq rest.toArray }).push (xob C sF h.objs.size .none)).get? b=sE o:=λb o e=>aa _ (aa _ e)
 have hC1:=k _ _ hC
 have hget:((h.push { cls:=.type "tuple",data:=.seq rest.toArray }).push (xob C sF h.objs.size .none)).get? (h.objs.size+1)=sE (xob C sF h.objs.size .none):=by heap_get
 have hcC:(Value.ref C::bm).contains (.ref C)=sG:=by simp
 unfold isInstance
 repeat (first | with_reducible refine pH hget ?_ | wp_step)
 refine pX (C:=C) hC1 ?_
 rw[hcC]
 repeat wp_step
 show oS _ _ (typeLookup (.ref C) _) _ _ _
 refine ((cC X hi).keeps k).at ?_
 refine pD (oH (((hb _).keeps k).at ?_))
 refine oH (pT (pW hq λr s' z=>?_))
 rcases r with e | (v | _ | _ | _) <;> first | exact z | exact z.elim | skip
 obtain⟨rfl,z⟩:=z
 exact oJ (oJ z)
end
end L3
namespace L3
noncomputable def XN(x C:oP)(dx:Option oP):HO:=.ext λh=>∃t,h.get? x=sE (xob C dx t .none)
noncomputable def XT(x C:oP)(dx:Option oP):HO:=.ext λh=>∃t tb c k,h.get? x=sE (xog C dx t tb c k)
noncomputable def XP(x C:oP)(dx:Option oP):HO:=.ext λh=>∃t tb,h.get? x=sE (xob C dx t tb)
theorem zaj{P:oV}{w:oX}{H:Hp}{h:pb}{x C t:oP}{dx:Option oP}(e:h.get? x=sE (xob C dx t .none)):ObjOk P w H h x (XN x C dx) :=
 ⟨⟨t,e⟩,⟨_,e⟩,λh1 h2 ⟨t,q⟩ k=>⟨t,k _ q⟩⟩
theorem zaE{P:oV}{w:oX}{H:Hp}{h:pb}{x C t:oP}{dx:Option oP}{tb c:oQ}{k:Bool}(e:h.get? x=sE (xog C dx t tb c k)):ObjOk P w H h x (XT x C dx) :=
 ⟨⟨t,tb,c,k,e⟩,⟨_,e⟩,λh1 h2 ⟨t,tb,c,k',q⟩ k=>⟨t,tb,c,k',k _ q⟩⟩
theorem zac{P:oV}{w:oX}{H:Hp}{h:pb}{x C:oP}{dx:Option oP}(o:ObjOk P w H h x (XN x C dx)):∃t,h.get? x=sE (xob C dx t .none):=o.1
theorem zcl{P:oV}{w:oX}{H:Hp}{h:pb}{x C:oP}{dx:Option oP}(o:ObjOk P w H h x (XT x C dx)):∃t tb c k,h.get? x=sE (xog C dx t tb c k):=o.1
section
variable{nm q:oW}{C N:oP}{bs bm:List oQ}{hdct:Bool}{sn:List oW}{sub:List oQ}{ab:Bool}{col:Option Bool}{dd:Option oP}{k0 k1 k2 k3 k5:Option oQ}{newId:String}{h:pb}{M:sj}
theorem ZQ(hC:h.get? C=sE (rP nm q C N bs bm hdct sn sub ab col dd k0 k1 k2 k3 k5 newId))(base:oQ):PySem.W.Looks M h (isSubtype (.ref C) base) ((Value.ref C::bm).contains base):=λA Q E s k z=>by
 obtain⟨hp,g,d,t,os⟩:=s
 exact pX (k _ _ hC) z
theorem Vs(hC:h.get? C=sE (rP nm q C N bs bm hdct sn sub ab col dd k0 k1 k2 k3 k5 newId)):PySem.W.Looks M h (mroOf (.ref C)) (.ref C::bm):=λA Q E s k z=>by
 obtain⟨hp,g,d,t,os⟩:=s
 exact wpAny_mroOf_exc (k _ _ hC) z
theorem VF(hC:h.get? C=sE (rP nm q C N bs bm hdct sn sub ab col dd k0 k1 k2 k3 k5 newId)):PySem.W.Looks M h (classData C) { name:=nm,bases:=bs,mro:=.ref C::bm,ns:=N,qualname:=q,hasDict:=hdct,slotNames:=sn,subclasses:=sub,abstract:=ab,collection:=col,hasDel:=sH }:=λA Q E s k z=>by
 unfold classData
 exact oH (wpAny_load (k _ _ hC) (oJ z))
theorem Yl{bmB bm:List oQ}(T:OwnTail h bmB bm)(self:oQ)(hp:refuseLoop self "__setattr__" bmB=pure ()):refuseLoop self "__setattr__" bm=pure ():=by
 induction T with
 | base=>exact hp
 | own _ _ _ _ ih=>rw[refuseLoop_ref];exact ih
end
section
variable{X:Cx}{sI:List (oP × pC)}{σ:St}{H:Hp}{s:oR}{A:oY}{E:oQ->oR->Prop}{x C:oP}{f:oW}{y:V}{u:oQ}
theorem Jq{Q:Unit->oR->Prop}(I:Inv X sI σ H s)(e:H x=sE (XN x C sF))(xc:XC X.K C)(n:NoAttr X.K C f)(ry:RelV y u)
  (h:∀s' dx,H dx=sF->Inv X sI σ (upd (upd H dx (.xd [(f,y)])) x (XN x C (sE dx))) s'->Q () s'):oS (model X.prog X.w) A (setAttr (.ref x) f u) Q E s:=by
 obtain⟨t,ob⟩:=zac (I.hok x _ e)
 obtain⟨bm,N,nm,qn,bs,sn,sub,ab,col,dd,k0,k1,k2,k3,k5,lk,tl⟩:=vN xc.ok
 have hC:=I.kIn _ _ lk
 have T:=tl _ I.kIn
 have SF:=PySem.F.store_ValueError
 have J:PySem.W.InstAt s.heap x (xob C sF t .none) C sF:=⟨ob,rfl,rfl,trivial⟩
 have hob:(Value.ref C::bm).contains (.type "object")=sG:=by rw[dh,T.hasType (show bmV.contains (.type "object")=sG by decide +kernel),dC]
 have isO:PySem.W.Looks (model X.prog X.w) s.heap (isInstance (.ref x) (.type "object")) sG:=J.type.andThen (by have:=ZQ (M:=model X.prog X.w) hC (.type "object");rw[hob] at this;exact this)
 refine fq I.kIn J xc.sa ?_
 refine rh SF.slot.plain SF.entry (@PySem.W.check_slot (model X.prog X.w) _ _ { s with toks:=s.toks+1 } "object.__setattr__" "object" "__setattr__" (.ref x) [.str f s.toks,u] [] _ SF.kind SF.split isO (SF.args _ _ _) ?_)
 rw[PySem.W.osa_eq,refuse_eq]
 refine oH (oH (J.type.here (s:={ s with toks:=s.toks+1 }) (oH ((Vs hC).here (s:={ s with toks:=s.toks+1 }) ?_))))
 rw[refuseLoop_ref,Yl T _ (SF.passes _)]
 refine oJ (oH (J.type.here (s:={ s with toks:=s.toks+1 }) (oH ((cC I.kIn n).here (s:={ s with toks:=s.toks+1 }) (oH (oJ ?_))))))
 show oS _ _ (Builtin.ObjectAttr.storeInOwnDict (.ref x) (.ref C) (.str f s.toks) f u sH) _ _ _
 have hx1:(s.heap.push { cls:=.type "dict",data:=.dict #[] }).get? x=sE (xob C sF t .none):=aa _ ob
 have hxs:x≠s.heap.objs.size:=aF (ay ob)
 refine oH (oJ (oH (oH (rN ob (oH ((VF hC).here (s:={ s with toks:=s.toks+1 }) ?_))))))
 rw[if_neg (by simp)]
 show oS _ _ (if (!sG || !typeHasDict (.ref C))=sG then _ else _) _ _ _
 rw[if_neg (by simp [typeHasDict])]
 have hgd:((s.heap.push { cls:=.type "dict",data:=.dict #[] }).update x λo=>{ cls:=o.cls,dict:=sE s.heap.objs.size,data:=o.data,slots:=o.slots }).get? s.heap.objs.size=sE { cls:=.type "dict",data:=.dict #[] } :=
  (aL _ _ hxs).trans (Heap.get?_push_at rfl rfl)
 have hgx:((s.heap.push { cls:=.type "dict",data:=.dict #[] }).update x λo=>{ cls:=o.cls,dict:=sE s.heap.objs.size,data:=o.data,slots:=o.slots }).get? x=sE (xob C (sE s.heap.objs.size) t .none) :=
  bV _ hx1 rfl
 have hnd:((s.heap.push { cls:=.type "dict",data:=.dict #[] }).update x λo=>{ cls:=o.cls,dict:=sE s.heap.objs.size,data:=o.data,slots:=o.slots }).Ns s.heap.objs.size (λ_=>sF) :=
  ⟨_,#[],_,hgd,rfl,λe he=>absurd he (by simp),λ_=>rfl⟩
 refine oH (wpAny_alloc' (oH (wpAny_update' hx1 (oJ ?_))))
 show oS _ _ (Builtin.ObjectAttr.storeInDict s.heap.objs.size (.str f s.toks) f u) _ _ _
 unfold Builtin.ObjectAttr.storeInDict Builtin.ObjectAttr.newKeyGuard
 refine oH (oJ (oH (wpAny_nsSet1 (Heap.Ns1.of_empty hnd) λh' hn' hs=>?_)))
 obtain⟨oD,esD,epD,hoD,hdD,hcD⟩:=hn'.count (Within.cons f u Within.nil)
 refine oH (sr hoD (by rw[hdD];exact pastItsLine_dict (aR hcD (by rw[aM,cb,pz];lia))) ?_)
 refine oJ ?_
 have hx2:h'.get? x=sE (xob C (sE s.heap.objs.size) t .none):=(hs.2 x hxs).trans hgx
 have hfr:H s.heap.objs.size=sF:=I.hok.fresh (aq _)
 have hxe:x≠s.heap.objs.size:=hxs
 refine h _ s.heap.objs.size hfr ?_
 have k0:∀b o,b≠x->s.heap.get? b=sE o->h'.get? b=sE o:=λb o hb q =>
  (hs.2 b (aF (ay q))).trans ((aL _ _ (Ne.symm hb)).trans (aa _ q))
 have I1:Inv X sI σ (upd H x (XN x C (sE s.heap.objs.size))) { s with heap:=h',toks:=s.toks+1+1 } :=
  I.write (x:=x) (e:=x) (by rw[e];exact True.intro) (.inl rfl) k0 ⟨_,hx2⟩ (zaj hx2)
 have hd2:ObjOk X.prog X.w (upd (upd H x (XN x C (sE s.heap.objs.size))) s.heap.objs.size (.xd [(f,y)])) h' s.heap.objs.size (.xd [(f,y)]):=by
  refine⟨_,hn',λg=>?_⟩
  show RelO (bi g [(f,y)]) (if g=f then sE u else sF)
  by_cases q:g=f
  ·subst q
   rw[if_pos rfl]
   simp [bi,RelO,ry]
  ·rw[if_neg q]
   have q':(g == f)=sH:=by simpa using q
   simp [bi,q',RelO]
 have fd:xO X sI (upd H x (XN x C (sE s.heap.objs.size))) s.heap.objs.size:=I.fpOk (aq _) (by rw[zo (Ne.symm hxe)];exact hfr)
 have I2:=Inv.track I1 fd hd2
 have eH:upd (upd H x (XN x C (sE s.heap.objs.size))) s.heap.objs.size (.xd [(f,y)])=upd (upd H s.heap.objs.size (.xd [(f,y)])) x (XN x C (sE s.heap.objs.size)):=by
  funext b
  unfold upd
  by_cases b1:b=s.heap.objs.size
  ·subst b1
   rw[if_pos rfl,if_neg (Ne.symm hxe),if_pos rfl]
  ·by_cases b2:b=x
   ·subst b2
    rw[if_neg b1,if_pos rfl,if_pos rfl]
   ·rw[if_neg b1,if_neg b2,if_neg b2,if_neg b1]
 rw[eH] at I2
 exact I2
end
end L3
namespace L3
def KJ(K:oO)(ta tv:TE)(f:oW):TS:=λD σ H=>tv σ H λy H1=>ta σ H1 λo H2=>∃x C,o=.ref x/\H2 x=sE (XN x C sF)/\XC K C/\NoAttr K C f/\∀dx,H2 dx=sF->D.nx σ (upd (upd H2 dx (.xd [(f,y)])) x (XN x C (sE dx)))
section
variable{X:Cx}{o value:oZ}{f:oW}{pos pos':pR}{ta tv:TE}
theorem W6(ha:PE X o ta)(hv:PE X value tv)(hs:swapsWith value (sE (.Attribute o f pos')) pos.line X.env=pure sH):PS X (.Assign [.Attribute o f pos'] value pos) (KJ X.K ta tv f):=by
 intro sI s σ H D I h
 refine re (thn (hv sI s σ H _ I h) λu s1 ⟨y,H1,I1,ry,q⟩=>thn (ha sI s1 σ H1 _ I1 q) λov s2 ⟨x',H2,I2,rx,x,C,ex,e,xc,n,q2⟩=>?_) hs
 subst ex
 obtain rfl:ov=Value.ref x:=rx
 exact Jq I2 e xc n ry λs3 dx hdx I3=>⟨σ,_,I3,q2 dx hdx⟩
end
section
variable{M:sj}{A:oY}{E:oQ->oR->Prop}{s:oR}{env:rK}
theorem WF{K:oO}{x:sw oQ}{Q:Flow->oR->Prop}(hh:A.handled=sF)
  (h:oS M A x (λv s1=>∃e C t dx,v=.ref e/\K.In s1.heap/\ZY K C=sG/\s1.heap.get? e=sE (xob C dx t .none)/\E (.ref e) s1) E s):oS M A (raiseStmt env (sE x) sF) Q E s:=by
 unfold raiseStmt
 refine oH (thn h λv s1 h1=>?_)
 obtain⟨e,C,t,dx,rfl,X,hC,he,hE⟩:=h1
 obtain⟨bm,N,nm,qn,bs,sn,sub,ab,col,dd,k0,k1,k2,k3,k5,lk,tl⟩:=vN hC
 have hCo:=X _ _ lk
 have T:=tl _ X
 have hcB:(Value.ref C::bm).contains (.type "BaseException")=sG:=by rw[dh,T.hasType (show bmV.contains (.type "BaseException")=sG by decide +kernel),dC]
 obtain⟨hp,g,d,tk,os⟩:=s1
 repeat (first | with_reducible refine pH he ?_ | with_reducible refine pH hCo ?_ | (with_reducible refine pX hCo ?_;rw[hcB]) | wp_step)
 exact wpAny_raiseNew_none hh hE
theorem Va{K:oO}{e:oZ}{pos:pR}{Q:Flow->oR->Prop}(hh:A.handled=sF)
  (h:oS M A (eval e env) (λv s1=>∃a C t dx,v=.ref a/\K.In s1.heap/\ZY K C=sG/\s1.heap.get? a=sE (xob C dx t .none)/\E (.ref a) s1) E s):oS M A (exec (.Raise (sE e) sF pos) env) Q E s:=by
 rw[arm_exec_Raise]
 first
  | exact oH (pM (WF hh (oH (thn h λv s1 h1=>oH (pM (oJ h1))))))
  | (simp only[evalOpt,Option.map];exact oH (pM (WF hh (oH (thn h λv s1 h1=>oH (pM (oJ h1)))))))
end
noncomputable def del(H:Hp)(x:oP):Hp:=λb=>if b=x then sF else H b
theorem Wt{H:Hp}{x b:oP}(h:b≠x):del H x b=H b:=if_neg h
theorem YM{H:Hp}{x:oP}:del H x x=sF:=if_pos rfl
section
variable{X:Cx}{sI:List (oP × pC)}{σ:St}{H:Hp}{s:oR}
theorem Inv.untrack{x:oP}{φ:pb->Prop}(I:Inv X sI σ H s)(e:H x=sE (.ext φ))(hs:X.s₀.heap.objs.size<=x):Inv X sI σ (del H x) s:=by
 have nx:∀b u,H b=sE u->(∀ψ,u≠.ext ψ)->b≠x:=λb u q nu z=>by subst z;rw[e] at q;cases q;exact nu _ rfl
 have hn:∀b,b≠x->del H x b=H b:=λb hb=>Wt hb
 have es:s={ s with heap:=s.heap,gens:=s.gens,drawn:=s.drawn,toks:=s.toks }:=rfl
 rw[es]
 refine I.step (g':=s.gens) (d':=s.drawn) (ch:=[x]) (λb hb=>?_) (λb o _ _ _ q _=>q) (λb o _ _ _ q _=>⟨o.slots,q⟩) (λb o hc _ n=>?_)
  (λb o _ q=>⟨o,q⟩) (λb xs q=>?_) (λb u xs q=>?_) (λb ps q=>?_) (λm hm=>hm) (λb u q=>?_) I.bare
 ·have eb:b=x:=by simpa using hb
  subst eb
  refine⟨.inr hs,λz=>?_,λy c q z=>?_,λp hp z=>?_⟩
  ·rw[z,I.free] at e;cases e
  ·have:=I.freeC y c q;rw[z,e] at this;cases this
  ·have:=(I.pin p hp).2.1;rw[z,e] at this;cases this
 ·rw[hn b (by simpa using hc)];exact n
 ·rw[hn b (nx b _ q λ_ z=>by cases z)];exact q
 ·rw[hn b (nx b _ q λ_ z=>by cases z)];exact q
 ·exact⟨#[],by rw[hn b (nx b _ q λ_ z=>by cases z),q];simp⟩
 ·by_cases hb:b=x
  ·subst hb
   rw[YM] at q
   cases q
  ·rw[hn b hb] at q
   exact (I.hok b u q).stay (λc v _ z=>z) (λc z=>by rw[hn c (nx c _ z λ_ y=>by cases y)];exact z) λc xs z=>by rw[hn c (nx c _ z λ_ y=>by cases y)];exact z
theorem XS{C:oP}{us:List oQ}{E:oQ->oR->Prop}{Q:oQ->oR->Prop}(I:Inv X sI σ H s)(xc:ZY X.K C=sG)(hi:ah X.K (.ref C) "__init__" = sE (sE (.builtin "ValueError.__init__")))(hl:us.length<=oN)
  (h:∀s' x t,s.heap.objs.size<=x->Inv X sI σ H s'->s'.heap.get? x=sE (xob C sF t .none)->Q (.ref x) s'):oS (model X.prog X.w) X.A (call (.ref C) us) Q E s:=by
 have F:=dW
 obtain⟨bm,N,nm,qn,bs,sn,sub,ab,col,dd,k0,k1,k2,k3,k5,lk,tl⟩:=vN xc
 have hC:=I.kIn _ _ lk
 have T:=tl _ I.kIn
 obtain⟨hp,g,d,t,os⟩:=s
 have k:∀b o,hp.get? b=sE o->((hp.push { cls:=.type "tuple",data:=.seq us.toArray }).push (xob C sF hp.objs.size .none)).get? b=sE o:=λb o e=>aa _ (aa _ e)
 refine pT (Y3 I.kIn xc hi (λself=>PySem.W.Looks.of_pure (F.init.bind self)) hl ?_)
 have hget:((hp.push { cls:=.type "tuple",data:=.seq us.toArray }).push (xob C sF hp.objs.size .none)).get? (hp.objs.size+1)=sE (xob C sF hp.objs.size .none):=by heap_get
 refine rh F.init.plain F.initEntry (wpAny_check_init_subT F (T.keeps k) (k _ _ hC) hget rfl ?_)
 wp_walk
 refine⟨rfl,h _ (hp.objs.size+1) ((hp.push { cls:=.type "tuple",data:=.seq us.toArray }).push (xob C sF hp.objs.size .none)).objs.size (cN _) (I.kept (t':=t) λb o e=>?_) ?_⟩
 ·exact (aL _ _ (bZ (cp (ay e)))).trans (aa _ (k b o e))
 ·exact bV (Obj.mapFields λx=>x.setIfInBounds 0 (Value.ref ((hp.push { cls:=.type "tuple",data:=.seq us.toArray }).push (xob C sF hp.objs.size .none)).objs.size)) (aa _ hget) rfl
def WA(E:XK)(C:oP)(t:TA):TS:=λ_ σ H=>t σ H λvs H1=>vs.length<=oN/\E (.ref C) sF H1
theorem yX{E:XK}{C:oP}{cn:oW}{np cpos pos:pR}{e:oZ}{es:List oZ}{t:TA}(hx:XE X E)(hc:X.calm=sG)(xc:XC X.K C)(hi:ah X.K (.ref C) "__init__" = sE (sE (.builtin "ValueError.__init__")))(hg:Gl X cn)(hm:X.mg cn=sE (.ref C))(ha:PA X (e::es) t)
  (hdb:(cn == ("__debug__" : oW))=sH:=by decide) (he:oM (e::es) X.env=(sH,eval e X.env)::oM es X.env:=by rfl) (hpl:(pj cpos (oM es X.env)).any (·.1)=sH:=by rfl) :
  PS X (.Raise (sE (.Call (.Name cn np) (e::es) [] cpos)) sF pos) (WA E C t):=by
 intro sI s σ H D I h
 refine Va (K:=X.K) (I.ok.hd hc) (px (vm I hg hm ?_ hdb))
 refine bL (h₀:=X.base) I.ok.mod.kin xc.kp (thn (ha cpos sI s σ H _ I h) λus s1 ⟨vs,H1,I1,r,z,q⟩=>⟨I1.kIn,?_⟩) he hpl
 refine XS (us:=[] ++ us) I1 xc.ok hi (by show us.length<=oN;rw[<- r.length];exact z) λs2 x t hz I2 ob=>⟨x,C,t,sF,rfl,I2.kIn,xc.ok,ob,?_⟩
 exact hx _ _ ⟨sI,σ,H1,x,C,t,sF,.none,rfl,I2,ob,.inl rfl,I1.fpOk hz (I1.hok.fresh hz),λT z=>(by cases z),q⟩
theorem VI{A:oY}{C:oP}{us:List oQ}{k:Nat}(r:Room (k+1) A):Room k (A.under (.builtin "type.__call__" ⟨.ref C::us,[]⟩)):=r.make C us []
def V7(E:XK)(C:oP)(sp:Sp)(t:TA):TS:=λ_ σ H=>t σ H λvs H1=>vs.length<=oN/\∀x,H1 x=sF->sp (.ref x::vs) (upd H1 x (XN x C sF)) (λv H2=>v=.non/\∃dx,H2 x=sE (XN x C dx)/\E (.ref C) dx (del H2 x)) E0
theorem Zf{E:XK}{C f:oP}{fd:oU}{k:Nat}{ps:List oW}{sp:Sp}{cn:oW}{np cpos pos:pR}{e:oZ}{es:List oZ}{t:TA}(hx:XE X E)(hc:X.calm=sG)(xc:XC X.K C)(hi:ah X.K (.ref C) "__init__" = sE (sE (.ref f)))(hfn:bc X.K (.ref f)=sG)
  (F:yg X.prog X.w X.K X.mg X.base CX0 k f fd ps sp) (hr:Room (k+1) X.A) (hb:Binds X.K fd ps []) (hg:Gl X cn) (hm:X.mg cn=sE (.ref C)) (ha:PA X (e::es) t)
  (hdb:(cn == ("__debug__" : oW))=sH:=by decide) (he:oM (e::es) X.env=(sH,eval e X.env)::oM es X.env:=by rfl) (hpl:(pj cpos (oM es X.env)).any (·.1)=sH:=by rfl) :
  PS X (.Raise (sE (.Call (.Name cn np) (e::es) [] cpos)) sF pos) (V7 E C sp t):=by
 intro sI s σ H D I h
 refine Va (K:=X.K) (I.ok.hd hc) (px (vm I hg hm ?_ hdb))
 refine bL (h₀:=X.base) I.ok.mod.kin xc.kp (thn (ha cpos sI s σ H _ I h) λus s1 ⟨vs,H1,I1,r,z,q⟩=>⟨I1.kIn,?_⟩) he hpl
 have hl:us.length<=oN:=by rw[<- r.length];exact z
 have ob:((s1.heap.push { cls:=.type "tuple",data:=.seq us.toArray }).push (xob C sF s1.heap.objs.size .none)).get? (s1.heap.objs.size+1)=sE (xob C sF s1.heap.objs.size .none):=by heap_get
 have hfr:H1 (s1.heap.objs.size+1)=sF:=I1.hok.fresh (cN _)
 have I2:Inv X sI σ (upd H1 (s1.heap.objs.size+1) (XN (s1.heap.objs.size+1) C sF)) { s1 with heap:=(s1.heap.push { cls:=.type "tuple",data:=.seq us.toArray }).push (xob C sF s1.heap.objs.size .none) } :=
  I1.laid (t':=s1.toks) (λb o e=>aa _ (aa _ e)) (cN _) (zaj ob)
 have q1:=q _ hfr
 have r2:Vals (V.ref (s1.heap.objs.size+1)::vs) (Value.ref (s1.heap.objs.size+1)::us):=.cons rfl r
 have hlen:(Value.ref (s1.heap.objs.size+1)::us ++ ([]:List oQ)).length=ps.length:=by
  rw[aV,<- r2.length]
  exact F.len _ _ _ _ q1
 have hb2:=hb { s1 with heap:=(s1.heap.push { cls:=.type "tuple",data:=.seq us.toArray }).push (xob C sF s1.heap.objs.size .none) } (Value.ref (s1.heap.objs.size+1)::us) I2.kIn hlen
 rw[aV] at hb2
 have run:=F.run _ X.stack _ _ ⟨Value.ref (s1.heap.objs.size+1)::us,[]⟩ (Value.ref (s1.heap.objs.size+1)::us) _ _ E0 (VI (C:=C) (us:=us) hr) (I2.env0.make C us []) hb2 r2 q1
 have sz0:X.s₀.heap.objs.size<=s1.heap.objs.size+1:=aR I1.sz (cN _)
 show oS (model X.prog X.w) X.A (call (.ref C) us) _ X.xe s1
 refine pT ?_
 refine Y3 (h:=s1.heap) (g:=s1.gens) (d:=s1.drawn) (t:=s1.toks) (os:=s1.os) (rest:=us) I1.kIn xc.ok hi (λself=>fw I1.kIn self (beq_iff_eq.mp hfn)) hl (pW run λr s' hq=>?_)
 cases r with
 | error e=>exact False.elim hq
 | ok fl =>
  cases fl with
  | ret u =>
   obtain⟨v,H',I3,rv,ev,dx,hx3,q3⟩:=I2.after hq
   subst ev
   refine⟨rv,?_⟩
   obtain⟨t,ob3⟩:=zac (I3.hok _ _ hx3)
   have I4:=Inv.untrack I3 hx3 sz0
   refine⟨_,C,t,dx,rfl,I3.kIn,xc.ok,ob3,hx _ _ ⟨sI,σ,_,_,C,t,dx,.none,rfl,I4,ob3,.inl rfl,?_,λT z=>(by cases z),q3⟩⟩
   exact I1.fpOk (cN _) YM
  | next=>exact False.elim hq
  | brk=>exact False.elim hq
  | cont=>exact False.elim hq
end
end L3
namespace L3
def Ko(X:Cx)(sI:List (oP × pC))(σ:St)(E:XK)(e:oQ)(s:oR):Prop:=∃(cx:oQ) (kx:Bool) (H:Hp) (x C t:oP) (dx:Option oP) (tb:oQ),e=.ref x/\Inv X sI σ H s /\
 s.heap.get? x=sE (xog C dx t tb cx kx)/\Kf s.heap x tb/\xO X sI H x/\(∀T,tb=.ref T->xO X sI H T)/\E (.ref C) dx H
noncomputable abbrev TX:=St->Hp->VK->XK->Prop
def PEX(X:Cx)(e:oZ)(t:TX):Prop :=
 ∀(sI:List (oP × pC)) (s:oR) (σ:St) (H:Hp) (Q:VK) (E:XK),Inv X sI σ H s->t σ H Q E->oS (model X.prog X.w) X.A (eval e X.env) (EP X sI σ Q) (Ko X sI σ E) s
section
variable{X:Cx}
variable{k:Nat}{f:oP}{fd:oU}{ps:List oW}{sp:Sp}{dvs:List V}{ds:List oQ}{x:oW}{p pos:pR}{e:oZ}{es:List oZ}{t:TA}
theorem Qu(F:yg X.prog X.w X.K X.mg X.base (CXx X.prog X.w) k f fd ps sp)(hr:Room k X.A)(hg:Gl X x)(hm:X.mg x=sE (.ref f))(hk:aj X.K (.ref f)=sG)(hb:Binds X.K fd ps ds)(hd:Vals dvs ds)
  (ha:PA X.nox (e::es) t) (hdb:(x == ("__debug__" : oW))=sH:=by decide) (he:oM (e::es) X.env=(sH,eval e X.env)::oM es X.env:=by rfl) (hpl:(pj pos (oM es X.env)).any (·.1)=sH:=by rfl) :
  PEX X (.Call (.Name x p) (e::es) [] pos) (λσ H Q E=>t σ H λvs H1=>sp (vs ++ dvs) H1 Q E):=by
 intro sI s σ H Q E I h
 refine px (vm I hg hm ?_ hdb)
 refine bL (h₀:=X.base) I.ok.mod.kin hk (pB (thn (ha pos sI s σ H _ (I.wish _) h) λus s1 ⟨vs,H1,I1,r,q⟩=>⟨I1.kIn,?_⟩)) he hpl
 have I1':Inv X sI σ H1 s1:=I1.unwish
 have r2:Vals (vs ++ dvs) (us ++ ds):=r.append hd
 have hl:(us ++ ds).length=ps.length:=by rw[<- r2.length];exact F.len _ _ _ _ q
 refine pT (pW (F.run X.A X.stack s1 H1 ⟨us,[]⟩ (us ++ ds) (vs ++ dvs) Q E hr I1'.env0 (hb s1 us I1'.kIn hl) r2 q) λr s' hq=>?_)
 cases r with
 | error e =>
  obtain⟨x,C,t,dx,tb,H',rfl,os,bare,un,hok,ob,tr,hn,hsz,hT,q⟩:=hq
  exact⟨.none,sH,H',x,C,t,dx,tb,rfl,I1'.call' os un hok bare (λb z=>absurd z (by simp)),ob,tr,I1'.fpOk hsz hn,λT e=>I1'.fpOk (hT T e).2 (hT T e).1,q⟩
 | ok fl =>
  cases fl with
  | ret u=>exact I1'.after hq
  | next=>exact False.elim hq
  | brk=>exact False.elim hq
  | cont=>exact False.elim hq
end
noncomputable abbrev Cx.suite(X:Cx)(e:oQ):Cx:={ X with A:=X.A.mark (sE e),calm:=sH,xe:=λ_ _=>False }
theorem Inv.suite{X:Cx}{sI:List (oP × pC)}{σ:St}{H:Hp}{s:oR}(I:Inv X sI σ H s)(e:oQ):Inv (Cx.suite X e) sI σ H s :=
 ⟨⟨I.ok.mod,I.ok.kind,I.ok.glob,I.ok.blt,I.ok.above,I.ok.inj,I.ok.has,I.ok.cab,λz=>absurd z (by simp [Cx.suite]),I.ok.frames,I.ok.stk,I.ok.exf,I.ok.bs,I.ok.bsz,I.ok.noex,I.ok.exfs,I.ok.funs,I.ok.frf⟩,
  I.os,I.bare,I.base,I.loc,I.cell,I.free,I.freeC,I.pin,I.hok,I.len⟩
theorem Inv.unsuite{X:Cx}{sI:List (oP × pC)}{σ σ':St}{H H':Hp}{s s':oR}{e:oQ}(J:Inv X sI σ' H' s')(I:Inv (Cx.suite X e) sI σ H s):Inv X sI σ H s :=
 ⟨J.ok,I.os,I.bare,I.base,I.loc,I.cell,I.free,I.freeC,I.pin,I.hok,I.len⟩
structure Hd where
 D:oP
 i:Nat
 ts:TS
def tHs(K:oO)(C:oP)(dx:Option oP)(x:oP)(Dd:vh)(σ:St)(H:Hp):List Hd->Prop
 | []=>False
 | h::r=>∃b,cI K (.ref C) (.ref h.D)=sE b/\if b=sG then h.ts { Dd with nx:=λσ' H'=>Dd.nx (σ'.set h.i sF) H',bk:=λσ' H'=>Dd.bk (σ'.set h.i sF) H',ct:=λσ' H'=>Dd.ct (σ'.set h.i sF) H' } (σ.set h.i (sE (.ref x))) H else tHs K C dx x Dd σ H r
section
variable{X:Cx}{sI:List (oP × pC)}{σ:St}{H:Hp}{s:oR}
end
theorem zaq{M:sj}{A:oY}{E:oQ->oR->Prop}{K:oO}{s:oR}{x C D t:oP}{dx:Option oP}{tb cx:oQ}{kx:Bool}{b:Bool}{Q:Bool->oR->Prop}(X:K.In s.heap)(hD:ZY K D=sG)(he:s.heap.get? x=sE (xog C dx t tb cx kx))
  (hs:cI K (.ref C) (.ref D)=sE b) (h:Q b s):oS M A (excMatches (.ref x) (.ref D)) Q E s:=by
 obtain⟨bm,N,nm,qn,bs,sn,sub,ab,col,dd,k0,k1,k2,k3,k5,lk,tl⟩:=vN hD
 have hDo:=X _ _ lk
 have T:=tl _ X
 have hcB:(Value.ref D::bm).contains (.type "BaseException")=sG:=by rw[dh,T.hasType (show bmV.contains (.type "BaseException")=sG by decide +kernel),dC]
 have L:=PySem.W.looks_subIn (M:=M) X hs
 have f:=tc_notTuple
 obtain⟨hp,g,d,tk,os⟩:=s
 unfold excMatches
 repeat (first | with_reducible refine pH he ?_ | with_reducible refine pH hDo ?_ | (with_reducible refine pX hDo ?_;rw[hcB]) | (with_reducible refine PySem.W.Looks.at L ?_) | wp_step)
 cases b with
 | false=>exact oJ (oJ (oJ h))
 | true=>exact oJ (oJ (oJ h))
section
variable{X:Cx}
noncomputable def tbL:oQ->List oP
 | .ref b=>[b]
 | _=>[]
def zdi(K:oO)(i:Nat)(te:TX)(hds:List Hd):TS:=λD σ H=>te σ H (λv H1=>D.nx (σ.set i (sE v)) H1) λcls dx H1=>∃C,cls=.ref C/\∀x,H1 x=sF->tHs K C dx x D σ (upd H1 x (XT x C dx)) hds
end
end L3
namespace L3
section
variable{prog:oV}{w:oX}{A:oY}{E:oQ->oR->Prop}{s:oR}{K:oO}{x C:oP}{ox:pC}{od:Option pC}{name:oW}{tk:rB}
theorem zao{fill expr:Bool}{Q:oQ->oR->Prop}(X:K.In s.heap)(xc:XC K C)(J:PySem.W.InstAt s.heap x ox C od)
  (h:oS (model prog w) A.in1 (Builtin.«object.__getattribute__» ⟨[.ref x,.str name tk],[]⟩) (λfin s'=>match fin with | .done (.ret v)=>oS (model prog w) A (handedOut v) Q E s' | _=>False) (λ_ _=>False) s) :
  oS (model prog w) A (getAttrBy (.ref x) (.str name tk) fill expr) Q E s:=by
 obtain⟨bm,N,nm,qn,bs,sn,sub,ab,col,dd,k0,k1,k2,k3,k5,lk,tl⟩:=vN xc.ok
 have hC:=X _ _ lk
 have T:=tl _ X
 have FB:=PySem.F.attrBase_ValueError
 have L0:=J.type (M:=model prog w)
 have L1:=cC (M:=model prog w) X xc.ga
 have L2:=cC (M:=model prog w) X xc.gt
 have hcB:(Value.ref C::bm).contains (.type "BaseException")=sG:=by rw[dh,T.hasType (show bmV.contains (.type "BaseException")=sG by decide +kernel),dC]
 have isB:PySem.W.Looks (model prog w) s.heap (isInstance (.ref x) (.type "BaseException")) sG:=L0.andThen (by have:=ZQ (M:=model prog w) hC (.type "BaseException");rw[hcB] at this;exact this)
 have f3:=FB.ga.bind (.ref x)
 have hx0:(expr && onTheHeap (Value.builtin "BaseException.__getattribute__"))=sH:=by cases expr <;> rfl
 have hx2:(Value.builtin "BaseException.__getattribute__" == Value.builtin "object.__getattribute__")=sH:=by decide +kernel
 have hx1:(onTheHeap (Value.ref C) && Value.builtin "BaseException.__getattribute__" == Value.builtin "object.__getattribute__")=sH:=by rw[hx2];rfl
 unfold getAttrBy
 refine pD (oH (L0.here (oH (L1.here ?_))))
 show oS _ _ (if (onTheHeap (Value.ref C) && Value.builtin "BaseException.__getattribute__" == Value.builtin "object.__getattribute__")=sG then _ else _) _ _ _
 rw[hx1,if_neg aG]
 unfold getAttrByItsOwn hookBefore
 rw[if_pos (by rfl)]
 refine oH (L2.here (oH (rf (pD ?_))))
 unfold callGetattribute
 rw[hx0,if_neg aG]
 unfold boundAndCalled
 rw[f3]
 refine oH (oJ ?_)
 show oS (model prog w) A (call (.builtin "BaseException.__getattribute__") [.ref x,.str name tk]) _ _ s
 refine pT (rh FB.ga.plain PySem.F.entry_bexc_ga (@PySem.W.check_slot (model prog w) _ _ s "BaseException.__getattribute__" "BaseException" "__getattribute__" (.ref x) [.str name tk] [] _ (by decide +kernel) (by decide +kernel) isB (PySem.F.args_bexc_ga _ _) ?_))
 refine pS h (λfin s' z=>?_) λ_ _ z=>z.elim
 rcases fin with (_ | _ | _ | v) | _ <;> first | exact z | exact z.elim
theorem QR{Q:Option oQ->oR->Prop}(X:K.In s.heap)(xc:XC K C)(J:PySem.W.InstAt s.heap x ox C od)(ha:ah K (.ref C) "__class__" = sE (sE (.builtin "object.__class__")))
  (hn:cB K (.builtin "object.__class__") "__get__" = sE (sE (.builtin "getset_descriptor.__get__"))) (htk:dB K (.builtin "object.__class__")=sE sG) (hm:bN K C (.type "object")=sE sG)
  (h:Q (sE (.ref C)) { s with toks:=s.toks+1 }):oS (model prog w) A (getAttr? (.ref x) "__class__") Q E s:=by
 have hf:fz K C od "__class__" = sE (.bind (.builtin "getset_descriptor.__get__") (.builtin "object.__class__")):=by
  obtain⟨bm,N,nm,qn,bs,sn,sub,ab,col,dd,k0,k1,k2,k3,k5,lk,tl⟩:=vN xc.ok
  have hcl:(PySem.W.clsIn K C).isSome=sG:=by unfold PySem.W.clsIn;rw[lk];rfl
  obtain⟨cd,hc⟩:=Option.isSome_iff_exists.mp hcl
  unfold fz
  rw[hc,cr,ha,cr]
  simp [hn,htk]
 unfold getAttr? getAttrBy?
 refine oH (wpAny_mkText (oH (rf (zao (s:={ s with toks:=s.toks+1 }) X xc J ?_))))
 have L0:=J.type (M:=model prog w)
 have L1:=PySem.W.looks_find (M:=model prog w) X J hf
 unfold Builtin.«object.__getattribute__»
 refine oH (oJ (oH (oJ (oH (L0.here (s:={ s with toks:=s.toks+1 }) (oH (L1.here (s:={ s with toks:=s.toks+1 }) ?_)))))))
 show oS _ _ (holding [.builtin "object.__class__"] (call (.builtin "getset_descriptor.__get__") [.builtin "object.__class__",.ref x,.ref C]) >>= ret) _ _ _
 refine oH (pD (pT (PySem.W.class_get (s:={ s with toks:=s.toks+1 }) X J hm ?_)))
 refine oJ ?_
 show oS _ _ (handedOut (.ref C)) _ _ _
 rw[PySem.W.handedOut_of rfl]
 exact oJ (oJ h)
end
structure XI(K:oO)(C:oP):Prop extends XC K C where
 ca:ah K (.ref C) "__class__" = sE (sE (.builtin "object.__class__"))
 cg:cB K (.builtin "object.__class__") "__get__" = sE (sE (.builtin "getset_descriptor.__get__"))
 ct:dB K (.builtin "object.__class__")=sE sG
 mo:bN K C (.type "object")=sE sG
theorem zaK{h:pb}{x C t:oP}{tb c:oQ}{k:Bool}(ob:h.get? x=sE (xog C sF t tb c k)):PySem.W.InstAt h x (xog C sF t tb c k) C sF:=⟨ob,rfl,rfl,trivial⟩
theorem zbO{K:oO}{x C:oP}{dx:Option oP}(xi:XI K C):PySem.W.KitX K (.ref x) (.ref C) (λh=>(∃t tb c k,h.get? x=sE (xog C dx t tb c k))/\∀d,dx=sE d->∃o,h.get? d=sE o) where
 ty:=λM h X ⟨⟨t,tb,c,k',ob⟩,_⟩=>(PySem.W.Looks.ld ob).andThen .now
 it:=λM h X _=>by
  obtain⟨bm,N,nm,qn,bs,sn,sub,ab,col,dd,k0,k1,k2,k3,k5,lk,tl⟩:=vN xi.ok
  intro A' Q' E' s' k q
  unfold isType loadHead
  exact oH (rN (k _ _ (X _ _ lk)) (oJ q))
 ne:=λh tp dd its n sl X htp=>by
  obtain⟨bm,N,nm,qn,bs,sn,sub,ab,col,dd,k0,k1,k2,k3,k5,lk,tl⟩:=vN xi.ok
  refine Bool.eq_false_iff.mpr λq=>?_
  have e:C=tp:=Value.ref.inj (beq_iff_eq.mp q)
  subst e
  have z:=congrArg (λo:Option pC=>o.map λo=>match o.data with | .cls _=>sG | _=>sH) ((X _ _ lk).symm.trans htp)
  exact absurd (show sG=sH from Option.some.inj z) (by decide)
 ca:=λ{prog w A E Q s} X ⟨⟨t,tb,c,k',ob⟩,hd⟩ k=>by
  cases dx with
  | none=>exact QR X xi.toXC (zaK ob) xi.ca xi.cg xi.ct xi.mo k
  | some d =>
   obtain⟨o,e⟩:=hd d rfl
   exact QR (od:=sE o) X xi.toXC ⟨ob,rfl,rfl,e⟩ xi.ca xi.cg xi.ct xi.mo k
section
variable{X:Cx}
def XAt(H:Hp)(x C:oP)(dx:Option oP)(fs:List (oW × V)):Prop:=H x=sE (XT x C dx)/\((dx=sF/\fs=[])\/∃d,dx=sE d/\H d=sE (.xd fs))
theorem Vm:vR X (.builtin "isinstance") (λxs H Q=>∃x C dx fs c u b,xs=[.ref x,c]/\cV c=sE u/\XAt H x C dx fs/\XI X.K C/\aS X.K (.ref C) u=sE b/\Q (.bl b) H):=by
 intro sI s σ H xs us Q I r h
 obtain⟨x,C,dx,fs,c,u,b,rfl,hc,⟨hx,hd⟩,xi,e,q⟩:=h
 obtain⟨v,w',rfl,rx,rc⟩:=Wz r
 cases rx
 have:w'=u:=by
  cases c with
  | ty n=>cases hc;exact rc
  | ref a=>cases hc;exact rc
  | _=>cases hc
 subst this
 refine bh (zbO (dx:=dx) xi) I.kIn ⟨zcl (I.hok _ _ hx),λd z=>?_⟩ e (λz=>nomatch z) λtk=>⟨.bl b,H,I.tok tk,rfl,q⟩
 rcases hd with ⟨z',_⟩ | ⟨d',z',hd'⟩
 ·rw[z'] at z;cases z
 ·rw[z'] at z;cases z
  obtain⟨mA,⟨o,es,ep,ho,_⟩,_⟩:=I.hok _ _ hd'
  exact⟨o,ho⟩
def zcf(K:oO)(ta:TE)(f:oW):TE:=λσ H Q=>ta σ H λy H1=>∃x C dx fs v,y=.ref x/\XAt H1 x C dx fs/\XC K C/\bP K C=sG/\NoAttr K C f/\fs.lookup f=sE v/\Q v H1
end
end L3
namespace L3
structure Df(P:oV)(w:oX)(K:oO)(mg:oW->Option oQ)(base:pb)(CX:CXT)(k:Nat)(nm:oW)(ps:List oW)(ds:List oQ)(sp:Sp):Prop where
 ex:∃f fd,yg P w K mg base CX k f fd ps sp/\mg nm=sE (.ref f)/\aj K (.ref f)=sG/\Binds K fd ps ds
structure Bt(mg:oW->Option oQ):Prop where
 len:mg "len" = sF
 range:mg "range" = sF
 isi:mg "isinstance" = sF
 str:mg "str" = sF
 int:mg "int" = sF
 tuple:mg "tuple" = sF
 list:mg "list" = sF
 bool:mg "bool" = sF
 enum:mg "enumerate" = sF
 all:mg "all" = sF
 verr:mg "ValueError" = sF
 max:mg "max" = sF
 rev:mg "reversed" = sF
 zip:mg "zip" = sF
 sum:mg "sum" = sF
 sorted:mg "sorted" = sF
section
variable{X:Cx}{CX:CXT}{k:Nat}{ps:List oW}{sp:Sp}{ds:List oQ}{dvs:List V}{E:XK}{x:oW}{p pos:pR}{e:oZ}{es:List oZ}{t:TA}
theorem cl0{j:Nat}(D:Df X.prog X.w X.K X.mg X.base CX0 k x ps ds sp)(hr:Room j X.A)(hd:Vals dvs ds)(hg:Gl X x)(ha:PA X (e::es) t)(hdb:(x == ("__debug__" : oW))=sH:=by decide)(he:oM (e::es) X.env=(sH,eval e X.env)::oM es X.env:=by rfl)
  (hpl:(pj pos (oM es X.env)).any (·.1)=sH:=by rfl) (hj:k<=j:=by decide):PE X (.Call (.Name x p) (e::es) [] pos) (qi sp dvs E0 t):=by
 obtain⟨f,fd,F,hm,hk,hb⟩:=D.ex
 exact W4 F (hr.mono hj) hg hm hk hb hd Z4 ha hdb he hpl
theorem clX{j:Nat}(D:Df X.prog X.w X.K X.mg X.base (CXx X.prog X.w) k x ps ds sp)(hr:Room j X.A)(hd:Vals dvs ds)(hg:Gl X x)(ha:PA X.nox (e::es) t)(hdb:(x == ("__debug__" : oW))=sH:=by decide)(he:oM (e::es) X.env=(sH,eval e X.env)::oM es X.env:=by rfl)
  (hpl:(pj pos (oM es X.env)).any (·.1)=sH:=by rfl) (hj:k<=j:=by decide):PEX X (.Call (.Name x p) (e::es) [] pos) (λσ H Q E=>t σ H λvs H1=>sp (vs ++ dvs) H1 Q E):=by
 obtain⟨f,fd,F,hm,hk,hb⟩:=D.ex
 exact Qu F (hr.mono hj) hg hm hk hb hd ha hdb he hpl
theorem clP{j:Nat}(hx:XE X E)(D:Df X.prog X.w X.K X.mg X.base (CXx X.prog X.w) k x ps ds sp)(hr:Room j X.A)(hd:Vals dvs ds)(hg:Gl X x)(ha:PA X (e::es) t)(hdb:(x == ("__debug__" : oW))=sH:=by decide)(he:oM (e::es) X.env=(sH,eval e X.env)::oM es X.env:=by rfl)
  (hpl:(pj pos (oM es X.env)).any (·.1)=sH:=by rfl) (hj:k<=j:=by decide):PE X (.Call (.Name x p) (e::es) [] pos) (qi sp dvs E t):=by
 obtain⟨f,fd,F,hm,hk,hb⟩:=D.ex
 exact W4 F (hr.mono hj) hg hm hk hb hd (Xn hx) ha hdb he hpl
end
def TyX(K:oO)(H:Hp)(x:V)(t:oQ):Prop:=Y4 K H x t\/(∃a C dx fs,x=.ref a/\t=.ref C/\XAt H a C dx fs/\XI K C)\/(∃a xs,x=.ref a/\t=.type "list"/\SqL K H a xs)\/∃a xs,x=.ref a/\t=.type "tuple"/\SqT K H a xs
def zb2(K:oO):List V->Hp->VK->Prop:=λxs H Q=>∃x c u t b,xs=[x,c]/\cV c=sE u/\TyX K H x t/\aS K t u=sE b/\Q (.bl b) H
theorem zbK{X:Cx}:vR X (.builtin "isinstance") (zb2 X.K):=by
 intro sI s σ H xs us Q I r h
 obtain⟨x,c,u,t,b,rfl,hc,ty,e,q⟩:=h
 rcases ty with ty | ⟨a,C,dx,fs,rfl,rfl,ha,xi⟩ | ⟨a,ys,rfl,rfl,hq⟩ | ⟨a,ys,rfl,rfl,hq⟩
 ·exact U4 sI s σ H _ us Q I r ⟨x,c,u,t,b,rfl,hc,ty,e,q⟩
 ·exact Vm sI s σ H _ us Q I r ⟨a,C,dx,fs,c,u,b,rfl,hc,ha,xi,e,q⟩
 all_goals
  obtain⟨v,w',rfl,rx,rc⟩:=Wz r
  have:w'=u:=by
   cases c with
   | ty n=>cases hc;exact rc
   | ref a=>cases hc;exact rc
   | _=>cases hc
  subst this
  cases rx
 ·obtain⟨its,_,p,_⟩:=I.list hq
  obtain⟨o,h1,h2,_⟩:=p.isList
  exact bh dY I.kIn ⟨o,h1,h2⟩ e (λz=>nomatch z) λtk=>⟨.bl b,H,I.tok tk,rfl,q⟩
 ·obtain⟨its,_,p,_⟩:=I.tuple hq
  obtain⟨o,h1,h2,_⟩:=p
  exact bh fh I.kIn ⟨o,h1,h2⟩ e (λz=>nomatch z) λtk=>⟨.bl b,H,I.tok tk,rfl,q⟩
theorem xD{X:Cx}{e:oZ}{te:TE}{c:oW}{n:String}{p q pos:pR}(h1:Gl X "isinstance")(h2:X.mg "isinstance" = sF)(he:PE X e te)(hg:Gl X c)(hm:X.mg c=sF)(hv:pE c=sE (.type n))(hn:c≠"__name__":=by decide)(hd:(c == ("__debug__" : oW))=sH:=by decide)
  (hs1:oM [e,.Name c q] X.env=(sH,eval e X.env)::oM [.Name c q] X.env:=by rfl) (hs3:oM [.Name c q] X.env=(sH,eval (.Name c q) X.env)::oM [] X.env:=by rfl) (hs2:(pj pos (oM [.Name c q] X.env)).any (·.1)=sH:=by rfl):PE X (.Call (.Name "isinstance" p) [e,.Name c q] [] pos) (tCB (zb2 X.K) (zN te (zN (tC (.ty n)) ww))) :=
 zt zbK h1 h2 boot_isinstance (za he (za (Kl hg hm hv rfl hn hd) zc hs3) hs1) (he:=hs1) (hpl:=hs2)
theorem za6{a:oP}:cV (.ref a)=sE (.ref a):=rfl
theorem zcr{n:String}:cV (.ty n)=sE (.type n):=rfl
theorem zdm{P w K mg base N q sc f cd A o s H}:(cxH P w K mg base N q sc f cd A o s H).K=K:=rfl
def Vn:V->List V->Hp->VK->Prop:=λx xs H Q=>∃z y,x=.str z/\xs=[.str y]/\Q (.int (Txt.count z y)) H
theorem WM{X:Cx}:MtR X "str.count" Vn:=Uy
def Uo:V->List V->Hp->VK->Prop:=λx xs H Q=>∃z y,x=.str z/\xs=[.str y]/\Q (.int (Txt.find z y)) H
theorem Jj{X:Cx}:MtR X "str.find" Uo:=WO
theorem Vd(l:List Nat)(c:Nat):Txt.count (tx l) (tx [c])=(l.count c:Int):=by
 have h:∀l:List Nat,cnt c l=(l.count c:Int):=λl=>by
  induction l with
  | nil=>rfl
  | cons n r ih =>
   rw[cnt_cons,ih,List.count_cons]
   by_cases e:n=c
   ·subst e;simp;lia
   ·have:(n == c)=sH:=by simpa using e
    simp [e,this]
 exact (PyProof.Rows.count_is (tx l) c).trans (h l)
theorem lt1{a b:Nat}:([a]:List Nat) < [b] ↔ a<b:=by rw[List.cons_lt_cons_iff];exact⟨λh=>h.elim id λ⟨_,q⟩=>absurd q (List.not_lt_nil _),.inl⟩
theorem V4{l:List Nat}{k v:Nat}(h:l[k]? = sE v):(v::(l.take k ++ l.drop (k+1))).Perm l:=by
 obtain⟨hk,e⟩:=List.getElem?_eq_some_iff.mp h
 have e2:l.take k ++ (v::l.drop (k+1))=l:=by
  rw[<- e,<- aU hk,bw]
 exact (List.perm_middle.symm.trans (by rw[e2]))
def KR(K:oO):List V->Hp->VK->Prop:=λxs H Q=>∃x n,xs=[x]/\zb7 K x H n/\Q (.int n) H
theorem yc{X:Cx}:vR X (.builtin "len") (KR X.K):=Qq
def ForR(lo:Int)(n:Nat)(g:TG)(tb:TS)(D:vh)(σ:St)(H:Hp):Prop:=∃W:Nat->Nat->St->Hp->Prop,(∃m,W 0 m σ H)/\∀i m σ H,W i m σ H ->
 ((Itr lo n).stop i H/\D.nx σ H)\/((Itr lo n).go i H/\∃N:St->Hp->Prop,(∀σ' H',N σ' H'->∃m',m'<m/\W (i+1) m' σ' H')/\∀x H',(Itr lo n).yld i H x H'->g x σ H' λσ2 H2=>tb { D with nx:=N,ct:=N,bk:=D.nx } σ2 H2)
theorem zbR{ta:TA}{g:TG}{tb:TS}{D:vh}{σ:St}{H:Hp}:Qn (Kz ta) g tb D σ H=ta σ H λvs H1=>∃j:Int,vs=[.int j]/\-(2 ^ 62)<=j/\j<2 ^ 62/\ForR 0 j.toNat g tb D σ H1:=rfl
theorem zbD{ta:TA}{g:TG}{tb:TS}{D:vh}{σ:St}{H:Hp}:Qn (zaw ta) g tb D σ H=ta σ H λvs H1=>∃i j:Int,vs=[.int i,.int j]/\(-(2 ^ 62)<=i/\i<2 ^ 62/\-(2 ^ 62)<=j/\j<2 ^ 62)/\ForR i (j - i).toNat g tb D σ H1:=rfl
theorem ForR.by{lo:Int}{n:Nat}{g:TG}{tb:TS}{D:vh}{σ:St}{H:Hp}(Pv:Nat->St->Hp->Prop)(h0:Pv 0 σ H)
  (hs:∀i σ H,i<n->Pv i σ H->g (.int (lo+i)) σ H λσ2 H2=>tb { D with nx:=Pv (i+1),ct:=Pv (i+1),bk:=D.nx } σ2 H2) (hd:∀σ H,Pv n σ H->D.nx σ H):ForR lo n g tb D σ H:=VP Pv h0 hs hd
def ForL(K:oO)(a:oP)(g:TG)(tb:TS)(D:vh)(σ:St)(H:Hp):Prop:=∃W:Nat->Nat->St->Hp->Prop,(∃m,W 0 m σ H)/\∀i m σ H,W i m σ H ->
 ((Itl K a).stop i H/\D.nx σ H)\/((Itl K a).go i H/\∃N:St->Hp->Prop,(∀σ' H',N σ' H'->∃m',m'<m/\W (i+1) m' σ' H')/\∀x H',(Itl K a).yld i H x H'->g x σ H' λσ2 H2=>tb { D with nx:=N,ct:=N,bk:=D.nx } σ2 H2)
theorem zc3{K:oO}{tl:TE}{g:TG}{tb:TS}{D:vh}{σ:St}{H:Hp}:Qn (KI K tl) g tb D σ H=tl σ H λx H1=>∃a,x=.ref a/\(∃xs,SqL K H1 a xs)/\ForL K a g tb D σ H1:=rfl
def ForS(x:oW)(g:TG)(tb:TS)(D:vh)(σ:St)(H:Hp):Prop:=∃W:Nat->Nat->St->Hp->Prop,(∃m,W 0 m σ H)/\∀i m σ H,W i m σ H ->
 ((Its x).stop i H/\D.nx σ H)\/((Its x).go i H/\∃N:St->Hp->Prop,(∀σ' H',N σ' H'->∃m',m'<m/\W (i+1) m' σ' H')/\∀v H',(Its x).yld i H v H'->g v σ H' λσ2 H2=>tb { D with nx:=N,ct:=N,bk:=D.nx } σ2 H2)
theorem zdq{tl:TE}{g:TG}{tb:TS}{D:vh}{σ:St}{H:Hp}:Qn (zbB tl) g tb D σ H=tl σ H λv H1=>∃x,v=.str x/\ForS x g tb D σ H1:=rfl
theorem ForS.by{l:List Nat}{g:TG}{tb:TS}{D:vh}{σ:St}{H:Hp}(Pv:Nat->St->Hp->Prop)(h0:Pv 0 σ H)
  (hs:∀i c σ H,l[i]? = sE c->Pv i σ H->g (.str (tx [c])) σ H λσ2 H2=>tb { D with nx:=Pv (i+1),ct:=Pv (i+1),bk:=D.nx } σ2 H2) (hd:∀σ H,Pv l.length σ H->D.nx σ H):ForS (tx l) g tb D σ H:=KQ Pv h0 hs hd
def zdo(x:oW)(g:TG)(tb:TS)(D:vh)(σ:St)(H:Hp):Prop:=∃W:Nat->Nat->St->Hp->Prop,(∃m,W 0 m σ H)/\∀i m σ H,W i m σ H ->
 ((Ite x).stop i H/\D.nx σ H)\/((Ite x).go i H/\∃N:St->Hp->Prop,(∀σ' H',N σ' H'->∃m',m'<m/\W (i+1) m' σ' H')/\∀v H',(Ite x).yld i H v H'->g v σ H' λσ2 H2=>tb { D with nx:=N,ct:=N,bk:=D.nx } σ2 H2)
theorem zdc{ta:TA}{g:TG}{tb:TS}{D:vh}{σ:St}{H:Hp}:Qn (zbM ta) g tb D σ H=ta σ H λvs H1=>∃x,vs=[.str x]/\zdo x g tb D σ H1:=rfl
theorem jr{α:Type}(l:List α){k:Int}(h:0<=k):cut l sF (sE k)=l.take k.toNat:=by
 obtain⟨n,rfl⟩:=bD h
 unfold cut
 rw[HT.sIx_none,HT.sIx_nat,dO,Nat.sub_zero]
 by_cases q:n<=l.length
 ·rw[cy q];rfl
 ·rw[dA (by lia),aQ,bp (by simp;lia)]
theorem vA{α:Type}(l:List α){k:Int}(h:0<=k):cut l (sE k) sF=l.drop k.toNat:=by
 obtain⟨n,rfl⟩:=bD h
 unfold cut
 rw[HT.sIx_none,HT.sIx_nat]
 by_cases q:n<=l.length
 ·rw[cy q]
  rw[bp (by rw[ba] <;> lia)]
  rfl
 ·rw[dA (by lia),d9,aY (by simp;lia)]
  simp
theorem qY{α:Type}{xs:List α}{i:Int}(h0:0<=i)(h1:i<xs.length):∃v,atI xs i=sE v/\xs[i.toNat]? = sE v:=by
 obtain⟨n,rfl⟩:=bD h0
 have hn:n<xs.length:=by lia
 exact⟨xs[n],Ye (ak hn),ak hn⟩
noncomputable def alpha:List Nat:=[97,98,99,100,101,102,103,104,105,106,107,108,109,110,111,112,113,114,115,116,117,118,119,120,121,122]
theorem VT:(("abcdefghijklmnopqrstuvwxyz" : oW))=tx alpha:=by decide +kernel
theorem yk:(oN:Nat)=16777216:=pz
theorem cxK{CX P w K mg base N q sc f cd A o s H E}:(uQ CX P w K mg base N q sc f cd A o s H E).K=K:=rfl
theorem cxP{CX P w K mg base N q sc f cd A o s H E}:(uQ CX P w K mg base N q sc f cd A o s H E).prog=P:=rfl
theorem cxW{CX P w K mg base N q sc f cd A o s H E}:(uQ CX P w K mg base N q sc f cd A o s H E).w=w:=rfl
theorem zbT{a b:Int}:Kt (.int a) (.int b)=sG:=rfl
theorem zbS{a b:oW}:Kt (.str a) (.str b)=sG:=rfl
theorem zcy{a b:Bool}:Kt (.bl a) (.bl b)=sG:=rfl
theorem zct{b:oW}:Kt .non (.str b)=sG:=rfl
theorem zcx{b:oW}:Kt (.str b) .non=sG:=rfl
theorem zf{H:Hp}{p:oP}{o:HO}(h:H p=sF):Same H (upd H p o):=λb u e=>by
 rw[zo (zH e h)]
 exact e
theorem zU{α:Type}{l:List α}{i:Nat}{c:α}(h:l[i]? = sE c):l.take (i+1)=l.take i ++ [c]:=by
 rw[List.take_add_one,h];rfl
end L3
namespace L3
structure FunD(K:oO)(x qual:oW)(st:pf)(dV:oQ)(f:oP)(fd:oU):Prop where
 ex:∃(oc:oQ) (od:Option oP) (kV doc pm:oQ) (an:Option oP) (cdv ct:oQ) (osl:Array (Option oQ)),
  fd=av x qual (zp st) (zl st) (zb st) dV kV doc pm an cdv ct/\K.lookup f=sE ⟨oc,od,.func fd,osl⟩/\ar K cdv qual=sG
theorem FunD.okX{P:oV}{w:oX}{K:oO}{mg:oW->Option oQ}{base:pb}{x qual:oW}{st:pf}{dV:oQ}{f:oP}{fd:oU}{N ps:List oW}{k:Nat}{sp:Sp}(F:FunD K x qual st dV f fd)(S:zr N ps (zb st))(len:∀vs H Q E,sp vs H Q E->vs.length=ps.length)
  (hbody:∀(cdv:oQ) (A:oY) (outer:List rK) (s:oR) (H:Hp) (vs:List V) (Q:VK) (E:XK),Room k (A.deeper (rm qual (zb st) s.heap.objs.size f cdv))->XE (uQ (CXx P w) P w K mg base N qual (zb st) f cdv A outer s H E) E->sp vs H Q E ->
   ∃t,PSs (uQ (CXx P w) P w K mg base N qual (zb st) f cdv A outer s H E) (zl st) t/\t { nx:=λ_ H'=>Q .non H',rt:=Q } (start N vs) H):yg P w K mg base (CXx P w) (k+1) f fd ps sp:=by
 obtain⟨oc,od,kV,doc,pm,an,cdv,ct,osl,rfl,lk,hcd⟩:=F.ex
 exact QC lk hcd S len λA outer s H vs Q E hr hsp=>hbody cdv A outer s H vs Q E hr zax hsp
def vG(C:oP)(f:oW):Sp:=λvs H Q _=>∃x v,vs=[.ref x,v]/\H x=sE (XN x C sF)/\∀dx,H dx=sF->Q .non (upd (upd H dx (.xd [(f,v)])) x (XN x C (sE dx)))
def zcp(H:Hp)(d:oP)(f:oW)(v:V)(H':Hp):Prop:=H d=sF/\Same H H'/\H' d=sE (.xd [(f,v)])
theorem Wm{E:XK}{C:oP}{f:oW}{v:V}{H:Hp}(h:∀d H',zcp H d f v H'->E (.ref C) (sE d) H'):∀x,H x=sF->vG C f [.ref x,v] (upd H x (XN x C sF)) (λu H2=>u=.non/\∃dx,H2 x=sE (XN x C dx)/\E (.ref C) dx (del H2 x)) E0:=by
 intro x hx
 refine⟨x,v,rfl,ze,λdx hd=>⟨rfl,sE dx,ze,h dx _ ⟨?_,?_,?_⟩⟩⟩
 ·by_cases e:dx=x
  ·rw[e];exact hx
  ·rw[zo e] at hd;exact hd
 ·have hne:dx≠x:=λe=>by rw[e,ze] at hd;cases hd
  rw[zo hne] at hd
  intro b o q
  have b1:b≠x:=zH q hx
  have b2:b≠dx:=zH q hd
  rw[Wt b1,zo b1,zo b2,zo b1]
  exact q
 ·have hne:dx≠x:=λe=>by rw[e,ze] at hd;cases hd
  rw[Wt hne,zo hne,ze]
section
variable{X:Cx}
def zbN:R2:=λx y H Q=>∃c l,x=.str (tx [c])/\y=.str (tx l)/\Q (.bl (!decide (c ∈ l))) H
theorem zbk:OpR X (pc .NotIn) zbN:=by
 intro sI s σ H x y v u Q I rx ry h
 obtain⟨c,l,rfl,rfl,q⟩:=h
 refine ZD sI s σ H _ _ v u Q I rx ry ⟨_,_,rfl,rfl,?_⟩
 rw[zab]
 exact q
def zc4:R2:=λx y H Q=>∃c l,x=.str (tx [c])/\y=.str (tx l)/\Q (.bl (decide (c ∈ l))) H
def zcJ:R2:=λx y H Q=>y=.non/\Q (.bl (decide (x=.non))) H
theorem op_isN':OpR X (pc .Is) zcJ:=zbm
def zbf:R2:=λx y H Q=>y=.non/\Q (.bl (!decide (x=.non))) H
theorem op_notN':OpR X (pc .IsNot) zbf:=Jk
def KC:List V->Hp->VK->Prop:=λxs H Q=>∃i j,xs=[.int i,.int j]/\Q (.int (if j > i then j else i)) H
theorem Wl(hc:X.calm=sG):vR X (.builtin "max") KC:=Vc hc
def rGe:R2:=λx y H Q=>∃i j,x=.int i/\y=.int j/\Q (.bl (decide (j<=i))) H
theorem op_ge':OpR X (pc .GtE) rGe:=zbI
def zdh(K:oO)(ta:TE):TT:=λσ H Q=>ta σ H λx H'=>∃k,K1 K x H' k/\Q k H'
end
theorem uU:pE "max" = sE (.builtin "max"):=by decide +kernel
def Ka(ls l:List Nat)(m:Int)(k:Nat):Prop:=∃c,l[k]? = sE c/\(m<=k\/c ∉ ls)
def FB(ls l:List Nat)(m:Int)(k:Nat):Prop:=Ka ls l m k/\∀j<k,¬ Ka ls l m j
def NB(ls l:List Nat)(m:Int):Prop:=∀j,¬ Ka ls l m j
theorem FB.nb{ls l:List Nat}{m:Int}{k:Nat}(h:FB ls l m k)(n:NB ls l m):False:=n k h.1
end L3
namespace L3
inductive D where
 | non | bl (b:Bool) | int (i:Int) | str (x:oW) | lst (l:List D) | tup (l:List D)
mutual
def Is(K:oO)(H:Hp):D->V->Prop
 | .non,v=>v=.non
 | .bl b,v=>v=.bl b
 | .int i,v=>v=.int i
 | .str x,v=>v=.str x
 | .lst l,v=>∃a xs,v=.ref a/\SqL K H a xs/\Iss K H l xs
 | .tup l,v=>∃a xs,v=.ref a/\SqT K H a xs/\Iss K H l xs
def Iss(K:oO)(H:Hp):List D->List V->Prop
 | [],vs=>vs=[]
 | d::l,vs=>∃v r,vs=v::r/\Is K H d v/\Iss K H l r
end
mutual
noncomputable def eqD:D->D->Bool
 | .non,.non=>sG
 | .bl a,.bl b=>a == b
 | .bl a,.int b=>(if a then 1 else 0) == b
 | .int a,.bl b=>a == (if b then 1 else 0)
 | .int a,.int b=>a == b
 | .str a,.str b=>a == b
 | .lst l,.lst m=>jc l m
 | .tup l,.tup m=>jc l m
 | _,_=>sH
noncomputable def jc:List D->List D->Bool
 | [],[]=>sG
 | d::l,e::m=>eqD d e && jc l m
 | _,_=>sH
end
mutual
noncomputable def dpD:D->Nat
 | .lst l=>uK l+1
 | .tup l=>uK l+1
 | _=>0
noncomputable def uK:List D->Nat
 | []=>0
 | d::l=>max (dpD d) (uK l)
end
theorem J3:∀{l:List D} {j:Nat} {d:D},l[j]? = sE d->dpD d<=uK l
 | d::l,0,_,h=>by
  cases h
  simp only[uK]
  lia
 | d::l,j+1,e,h=>by
  have:=J3 (l:=l) (j:=j) (d:=e) h
  simp only[uK]
  lia
mutual
theorem kC:∀d:D,eqD d d=sG
 | .non=>rfl
 | .bl b=>by simp [eqD]
 | .int i=>by simp [eqD]
 | .str x=>by simp [eqD]
 | .lst l=>by simp only[eqD];exact qz l
 | .tup l=>by simp only[eqD];exact qz l
theorem qz:∀l:List D,jc l l=sG
 | []=>rfl
 | d::l=>by simp only[jc,kC d,qz l,Bool.and_self]
end
theorem Iss.len{K:oO}{H:Hp}:∀{l:List D} {vs:List V},Iss K H l vs->vs.length=l.length
 | [],vs,h=>by simp only[Iss] at h;rw[h];rfl
 | d::l,vs,h=>by
  simp only[Iss] at h
  obtain⟨v,r,rfl,_,h2⟩:=h
  simp only[aM,Iss.len h2]
theorem Iss.at{K:oO}{H:Hp}:∀{l:List D} {vs:List V} {j:Nat} {d:D},Iss K H l vs->l[j]? = sE d->∃v,vs[j]? = sE v/\Is K H d v
 | d::l,vs,0,_,h,q=>by
  cases q
  simp only[Iss] at h
  obtain⟨v,r,rfl,h1,_⟩:=h
  exact⟨v,rfl,h1⟩
 | d::l,vs,j+1,e,h,q=>by
  simp only[Iss] at h
  obtain⟨v,r,rfl,_,h2⟩:=h
  exact Iss.at (j:=j) h2 q
theorem Iss.append{K:oO}{H:Hp}:∀{l m:List D} {vs us:List V},Iss K H l vs->Iss K H m us->Iss K H (l ++ m) (vs ++ us)
 | [],m,vs,us,h,g=>by simp only[Iss] at h;rw[h];exact g
 | d::l,m,vs,us,h,g=>by
  simp only[Iss] at h
  obtain⟨v,r,rfl,h1,h2⟩:=h
  simp only[bE,Iss]
  exact⟨v,r ++ us,rfl,h1,Iss.append h2 g⟩
theorem Iss.ints{K:oO}{H:Hp}:∀(l:List Int),Iss K H (l.map D.int) (l.map V.int)
 | []=>by simp only[aP,Iss]
 | i::l=>by
  simp only[az,Iss,Is]
  exact⟨_,_,rfl,rfl,Iss.ints l⟩
theorem zm{K:oO}{H H':Hp}{a:oP}{xs:List V}(e:Same H H')(h:SqT K H a xs):SqT K H' a xs:=by
 rcases h with (h | ⟨o,h⟩) | h
 ·exact .inl (.inl (e _ _ h))
 ·exact .inl (.inr ⟨o,e _ _ h⟩)
 ·exact .inr h
mutual
theorem Is.same{K:oO}{H H':Hp}(e:Same H H'):∀(d:D) (v:V),Is K H d v->Is K H' d v
 | .non,v,h=>by simp only[Is] at h ⊢;exact h
 | .bl b,v,h=>by simp only[Is] at h ⊢;exact h
 | .int b,v,h=>by simp only[Is] at h ⊢;exact h
 | .str b,v,h=>by simp only[Is] at h ⊢;exact h
 | .lst l,v,h=>by
  simp only[Is] at h ⊢
  obtain⟨a,xs,e1,e2,e3⟩:=h
  exact⟨a,xs,e1,e.seq e2,Iss.same e l xs e3⟩
 | .tup l,v,h=>by
  simp only[Is] at h ⊢
  obtain⟨a,xs,e1,e2,e3⟩:=h
  exact⟨a,xs,e1,zm e e2,Iss.same e l xs e3⟩
theorem Iss.same{K:oO}{H H':Hp}(e:Same H H'):∀(l:List D) (vs:List V),Iss K H l vs->Iss K H' l vs
 | [],vs,h=>by simp only[Iss] at h ⊢;exact h
 | d::l,vs,h=>by
  simp only[Iss] at h ⊢
  obtain⟨v,r,e1,e2,e3⟩:=h
  exact⟨v,r,e1,Is.same e d v e2,Iss.same e l r e3⟩
end
theorem vo:∀(l m:List D),jc l m=((aX (min l.length m.length)).all (λj=>eqD (l.getD j .non) (m.getD j .non)) && l.length == m.length)
 | [],[]=>rfl
 | [],e::m=>by simp [jc]
 | d::l,[]=>by simp [jc]
 | d::l,e::m=>by
  simp only[jc,vo l m,aM]
  have h1:min (l.length+1) (m.length+1)=min l.length m.length+1:=by lia
  rw[h1,eO,List.all_cons,List.all_map]
  have h2:(l.length+1 == m.length+1)=(l.length == m.length):=by
   rw[da,beq_iff_eq,beq_iff_eq];lia
  rw[h2]
  simp only[List.getD_cons_zero,Bool.and_assoc]
  rfl
section
variable{X:Cx}{sI:List (oP × pC)}{σ:St}{H:Hp}{s:oR}
theorem Zv{a:oP}{xs ys:List V}(I:Inv X sI σ H s)(h:SqL X.K H a xs)(g:SqT X.K H a ys):False:=by
 obtain⟨its,r,⟨o,n,e,c,_,d⟩,_⟩:=I.list h
 obtain⟨its',r',⟨o',e',c',n',d'⟩,_⟩:=I.tuple g
 rw[e] at e'
 cases e'
 rw[c] at c'
 exact absurd (Value.type.inj c') (by decide)
mutual
theorem Ug(I:Inv X sI σ H s):∀(d e:D) (v:V),Is X.K H d v->Is X.K H e v->d=e
 | .lst l,.lst m,v,h,g=>by
  simp only[Is] at h g
  obtain⟨a,xs,rfl,h1,h2⟩:=h
  obtain⟨b,ys,e,g1,g2⟩:=g
  cases e
  have:=I.list_inj h1 g1
  subst this
  rw[Ys I l m xs h2 g2]
 | .tup l,.tup m,v,h,g=>by
  simp only[Is] at h g
  obtain⟨a,xs,rfl,h1,h2⟩:=h
  obtain⟨b,ys,e,g1,g2⟩:=g
  cases e
  have:=I.tuple_inj h1 g1
  subst this
  rw[Ys I l m xs h2 g2]
 | .lst l,.tup m,v,h,g=>by
  simp only[Is] at h g
  obtain⟨a,xs,rfl,h1,h2⟩:=h
  obtain⟨b,ys,e,g1,g2⟩:=g
  cases e
  exact (Zv I h1 g1).elim
 | .tup l,.lst m,v,h,g=>by
  simp only[Is] at h g
  obtain⟨a,xs,rfl,h1,h2⟩:=h
  obtain⟨b,ys,e,g1,g2⟩:=g
  cases e
  exact (Zv I g1 h1).elim
 | .lst l,.non,v,h,g=>by simp only[Is] at h g;obtain⟨a,xs,rfl,_⟩:=h;cases g
 | .lst l,.bl _,v,h,g=>by simp only[Is] at h g;obtain⟨a,xs,rfl,_⟩:=h;cases g
 | .lst l,.int _,v,h,g=>by simp only[Is] at h g;obtain⟨a,xs,rfl,_⟩:=h;cases g
 | .lst l,.str _,v,h,g=>by simp only[Is] at h g;obtain⟨a,xs,rfl,_⟩:=h;cases g
 | .tup l,.non,v,h,g=>by simp only[Is] at h g;obtain⟨a,xs,rfl,_⟩:=h;cases g
 | .tup l,.bl _,v,h,g=>by simp only[Is] at h g;obtain⟨a,xs,rfl,_⟩:=h;cases g
 | .tup l,.int _,v,h,g=>by simp only[Is] at h g;obtain⟨a,xs,rfl,_⟩:=h;cases g
 | .tup l,.str _,v,h,g=>by simp only[Is] at h g;obtain⟨a,xs,rfl,_⟩:=h;cases g
 | .non,e,v,h,g=>by
  simp only[Is] at h
  subst h
  cases e <;> simp only[Is] at g
  all_goals first | rfl | (obtain⟨a,xs,q,_⟩:=g;cases q) | cases g
 | .bl _,e,v,h,g=>by
  simp only[Is] at h
  subst h
  cases e <;> simp only[Is] at g
  all_goals first | (cases g;rfl) | (obtain⟨a,xs,q,_⟩:=g;cases q) | cases g
 | .int _,e,v,h,g=>by
  simp only[Is] at h
  subst h
  cases e <;> simp only[Is] at g
  all_goals first | (cases g;rfl) | (obtain⟨a,xs,q,_⟩:=g;cases q) | cases g
 | .str _,e,v,h,g=>by
  simp only[Is] at h
  subst h
  cases e <;> simp only[Is] at g
  all_goals first | (cases g;rfl) | (obtain⟨a,xs,q,_⟩:=g;cases q) | cases g
theorem Ys(I:Inv X sI σ H s):∀(l m:List D) (vs:List V),Iss X.K H l vs->Iss X.K H m vs->l=m
 | [],[],_,_,_=>rfl
 | [],e::m,vs,h,g=>by
  simp only[Iss] at h g
  subst h
  obtain⟨_,_,q,_⟩:=g
  cases q
 | d::l,[],vs,h,g=>by
  simp only[Iss] at h g
  subst g
  obtain⟨_,_,q,_⟩:=h
  cases q
 | d::l,e::m,vs,h,g=>by
  simp only[Iss] at h g
  obtain⟨v,r,rfl,h1,h2⟩:=h
  obtain⟨v',r',q,g1,g2⟩:=g
  cases q
  rw[Ug I d e v h1 g1,Ys I l m r h2 g2]
end
theorem xR:∀{xs:List V} {us:List oQ} {j:Nat} {x:V},Vals xs us->xs[j]? = sE x->∃u,us[j]? = sE u/\RelV x u
 | _,_,0,_,.cons r t,h=>by cases h;exact⟨_,rfl,r⟩
 | _,_,j+1,_,.cons r t,h=>xR (j:=j) t h
theorem w6{l m:List D}{xs ys:List V}{its its':List oQ}{A:oY}{n:Nat}(hl:Iss X.K H l xs)(hm:Iss X.K H m ys)(r:Vals xs its)(r':Vals ys its')(hn:uK l<n)
  (ih:∀(d e:D) (x y:V) (u v:oQ),dpD d<n->Is X.K H d x->Is X.K H e y->RelV x u->RelV y v->SeqAt.EqAt A s u v (eqD d e)) :
  ∀j (h1:j<its.toArray.size) (h2:j<its'.toArray.size),SeqAt.EqAt A s its.toArray[j] its'.toArray[j] (eqD (l.getD j .non) (m.getD j .non)):=by
 intro j h1 h2
 rw[au] at h1 h2
 have e1:=hl.len
 have e2:=hm.len
 have e3:=r.length
 have e4:=r'.length
 have g1:l[j]? = sE l[j]:=ak (by lia)
 have g2:m[j]? = sE m[j]:=ak (by lia)
 generalize l[j]=d at g1
 generalize m[j]=e at g2
 obtain⟨x,hx,ix⟩:=hl.at g1
 obtain⟨y,hy,iy⟩:=hm.at g2
 obtain⟨u,hu,ru⟩:=xR r hx
 obtain⟨v,hv,rv⟩:=xR r' hy
 have q1:its.toArray[j]=u:=by
  have:=(List.getElem?_eq_some_iff.mp hu).2
  simpa using this
 have q2:its'.toArray[j]=v:=by
  have:=(List.getElem?_eq_some_iff.mp hv).2
  simpa using this
 rw[q1,q2,ac,ac,g1,g2]
 exact ih d e x y u v (cK (J3 g1) hn) ix iy ru rv
theorem kY(I:Inv X sI σ H s):∀(n:Nat) (A:oY) (d e:D) (x y:V) (u v:oQ),A.units+n<cLine->dpD d<n->Is X.K H d x->Is X.K H e y->RelV x u->RelV y v->SeqAt.EqAt A s u v (eqD d e):=by
 intro n
 induction n with
 | zero=>intro A d e x y u v _ h;exact absurd h (cz _)
 | succ n ih =>
  intro A d e x y u v hu hd hx hy rx ry
  have hu1:A.units<cLine:=by lia
  have huA:A.in1.units+n<cLine:=by show A.units+1+n<cLine;lia
  cases d with
  | lst l =>
   simp only[Is] at hx
   obtain⟨a,xs,rfl,h1,h2⟩:=hx
   cases rx
   obtain⟨its,r,p,_⟩:=I.list h1
   cases e with
   | non=>simp only[Is] at hy;subst hy;cases ry;exact SeqAt.EqAt.list_none p.isList hu1
   | bl b=>simp only[Is] at hy;subst hy;cases ry;exact SeqAt.EqAt.list_bool b p.isList hu1
   | int b=>simp only[Is] at hy;subst hy;obtain⟨t,rfl⟩:=ry;exact SeqAt.EqAt.list_int b t p.isList hu1
   | str b=>simp only[Is] at hy;subst hy;obtain⟨t,rfl⟩:=ry;exact SeqAt.EqAt.list_str b t p.isList hu1
   | tup m =>
    simp only[Is] at hy
    obtain⟨b,ys,rfl,g1,g2⟩:=hy
    cases ry
    obtain⟨its',r',p',_⟩:=I.tuple g1
    exact SeqAt.EqAt.list_tuple p.isList p' hu1
   | lst m =>
    have hy':=hy
    simp only[Is] at hy
    obtain⟨b,ys,rfl,g1,g2⟩:=hy
    cases ry
    obtain⟨its',r',p',_⟩:=I.list g1
    simp only[dpD] at hd
    by_cases hab:a=b
    ·subst hab
     have:=Ug I (.lst l) (.lst m) (.ref a) (by simp only[Is];exact⟨a,xs,rfl,h1,h2⟩) hy'
     rw[this,kC]
     exact SeqAt.EqAt.same _
    ·refine .of_refs hab ?_
     simp only[eqD]
     have L1:=h2.len
     have L2:=g2.len
     have L3:=r.length
     have L4:=r'.length
     by_cases hl:l.length=m.length
     ·have:=SeqAt.RcAt.lists (A:=A) p.isList p'.isList (by simp only[au];lia) hu1 (w6 h2 g2 r r' (n:=n) (by lia) λd e x y u v q1 q2 q3 q4 q5=>ih A.in1 d e x y u v huA q1 q2 q3 q4 q5)
      rw[vo,hl,fj,beq_self_eq_true,e8]
      have e1:its.toArray.size=m.length:=by simp only[au];lia
      rw[e1] at this
      exact this
     ·rw[vo,beq_eq_false_iff_ne.mpr hl,eR]
      exact SeqAt.RcAt.lists_lengths p.isList p'.isList (by rw[bne_iff_ne];simp only[au];lia) hu1
  | tup l =>
   simp only[Is] at hx
   obtain⟨a,xs,rfl,h1,h2⟩:=hx
   cases rx
   obtain⟨its,r,p,_⟩:=I.tuple h1
   cases e with
   | non=>simp only[Is] at hy;subst hy;cases ry;exact SeqAt.EqAt.tuple_none p hu1
   | bl b=>simp only[Is] at hy;subst hy;cases ry;exact SeqAt.EqAt.tuple_bool b p hu1
   | int b=>simp only[Is] at hy;subst hy;obtain⟨t,rfl⟩:=ry;exact SeqAt.EqAt.tuple_int b t p hu1
   | str b=>simp only[Is] at hy;subst hy;obtain⟨t,rfl⟩:=ry;exact SeqAt.EqAt.tuple_str b t p hu1
   | lst m =>
    simp only[Is] at hy
    obtain⟨b,ys,rfl,g1,g2⟩:=hy
    cases ry
    obtain⟨its',r',p',_⟩:=I.list g1
    exact SeqAt.EqAt.tuple_list p p'.isList hu1
   | tup m =>
    have hy':=hy
    simp only[Is] at hy
    obtain⟨b,ys,rfl,g1,g2⟩:=hy
    cases ry
    obtain⟨its',r',p',_⟩:=I.tuple g1
    simp only[dpD] at hd
    by_cases hab:a=b
    ·subst hab
     have:=Ug I (.tup l) (.tup m) (.ref a) (by simp only[Is];exact⟨a,xs,rfl,h1,h2⟩) hy'
     rw[this,kC]
     exact SeqAt.EqAt.same _
    ·refine .of_refs hab ?_
     simp only[eqD]
     have L1:=h2.len
     have L2:=g2.len
     have L3:=r.length
     have L4:=r'.length
     have:=SeqAt.RcAt.tuples (A:=A) p p' hu1 (w6 h2 g2 r r' (n:=n) (by lia) λd e x y u v q1 q2 q3 q4 q5=>ih A.in1 d e x y u v huA q1 q2 q3 q4 q5)
     rw[vo]
     simp only[au] at this
     rw[<- L1,<- L2,L3,L4]
     exact this
  | non =>
   simp only[Is] at hx
   subst hx
   cases e with
   | lst m =>
    simp only[Is] at hy
    obtain⟨b,ys,rfl,g1,g2⟩:=hy
    cases rx;cases ry
    obtain⟨its',r',p',_⟩:=I.list g1
    exact SeqAt.EqAt.none_list p'.isList hu1
   | tup m =>
    simp only[Is] at hy
    obtain⟨b,ys,rfl,g1,g2⟩:=hy
    cases rx;cases ry
    obtain⟨its',r',p',_⟩:=I.tuple g1
    exact SeqAt.EqAt.none_tuple p' hu1
   | _=>simp only[Is] at hy;subst hy;exact Xp rx ry rfl rfl
  | bl c =>
   simp only[Is] at hx
   subst hx
   cases e with
   | lst m =>
    simp only[Is] at hy
    obtain⟨b,ys,rfl,g1,g2⟩:=hy
    cases rx;cases ry
    obtain⟨its',r',p',_⟩:=I.list g1
    exact SeqAt.EqAt.bool_list _ p'.isList hu1
   | tup m =>
    simp only[Is] at hy
    obtain⟨b,ys,rfl,g1,g2⟩:=hy
    cases rx;cases ry
    obtain⟨its',r',p',_⟩:=I.tuple g1
    exact SeqAt.EqAt.bool_tuple _ p' hu1
   | _=>simp only[Is] at hy;subst hy;exact Xp rx ry rfl rfl
  | int c =>
   simp only[Is] at hx
   subst hx
   cases e with
   | lst m =>
    simp only[Is] at hy
    obtain⟨b,ys,rfl,g1,g2⟩:=hy
    obtain⟨t,rfl⟩:=rx;cases ry
    obtain⟨its',r',p',_⟩:=I.list g1
    exact SeqAt.EqAt.int_list _ _ p'.isList hu1
   | tup m =>
    simp only[Is] at hy
    obtain⟨b,ys,rfl,g1,g2⟩:=hy
    obtain⟨t,rfl⟩:=rx;cases ry
    obtain⟨its',r',p',_⟩:=I.tuple g1
    exact SeqAt.EqAt.int_tuple _ _ p' hu1
   | _=>simp only[Is] at hy;subst hy;exact Xp rx ry rfl rfl
  | str c =>
   simp only[Is] at hx
   subst hx
   cases e with
   | lst m =>
    simp only[Is] at hy
    obtain⟨b,ys,rfl,g1,g2⟩:=hy
    obtain⟨t,rfl⟩:=rx;cases ry
    obtain⟨its',r',p',_⟩:=I.list g1
    exact SeqAt.EqAt.str_list _ _ p'.isList hu1
   | tup m =>
    simp only[Is] at hy
    obtain⟨b,ys,rfl,g1,g2⟩:=hy
    obtain⟨t,rfl⟩:=rx;cases ry
    obtain⟨its',r',p',_⟩:=I.tuple g1
    exact SeqAt.EqAt.str_tuple _ _ p' hu1
   | _=>simp only[Is] at hy;subst hy;exact Xp rx ry rfl rfl
def zcW(K:oO):R2:=λx y H Q=>∃l m,((Is K H (.lst l) x/\Is K H (.lst m) y)\/(Is K H (.tup l) x/\Is K H (.tup m) y))/\uK l<50/\Q (.bl (jc l m)) H
theorem K9(hu:X.A.units+100<cLine):OpR X (pc .Eq) (zcW X.K):=by
 intro sI s σ H x y v u Q I rx ry h
 obtain⟨l,m,hh,hd,q⟩:=h
 have hu1:X.A.units<cLine:=by lia
 have huA:X.A.in1.units+50<cLine:=by show X.A.units+1+50<cLine;lia
 rcases hh with ⟨hx,hy⟩ | ⟨hx,hy⟩
 ·simp only[Is] at hx hy
  obtain⟨a,xs,rfl,h1,h2⟩:=hx
  obtain⟨b,ys,rfl,g1,g2⟩:=hy
  cases rx;cases ry
  obtain⟨its,r,p,_⟩:=I.list h1
  obtain⟨its',r',p',_⟩:=I.list g1
  have L1:=h2.len
  have L2:=g2.len
  have L3:=r.length
  have L4:=r'.length
  by_cases hl:l.length=m.length
  ·have:=SeqAt.RcAt.lists (A:=X.A) p.isList p'.isList (by simp only[au];lia) hu1 (w6 h2 g2 r r' (n:=50) hd λd e x y u v q1 q2 q3 q4 q5=>kY I 50 X.A.in1 d e x y u v huA q1 q2 q3 q4 q5)
   have e1:its.toArray.size=m.length:=by simp only[au];lia
   rw[e1] at this
   rw[vo,hl,fj,beq_self_eq_true,e8] at q
   exact this X.prog X.w X.xe _ ⟨.bl _,H,I,rfl,q⟩
  ·rw[vo,beq_eq_false_iff_ne.mpr hl,eR] at q
   exact SeqAt.RcAt.lists_lengths p.isList p'.isList (by rw[bne_iff_ne];simp only[au];lia) hu1 X.prog X.w X.xe _ ⟨.bl _,H,I,rfl,q⟩
 ·simp only[Is] at hx hy
  obtain⟨a,xs,rfl,h1,h2⟩:=hx
  obtain⟨b,ys,rfl,g1,g2⟩:=hy
  cases rx;cases ry
  obtain⟨its,r,p,_⟩:=I.tuple h1
  obtain⟨its',r',p',_⟩:=I.tuple g1
  have L1:=h2.len
  have L2:=g2.len
  have L3:=r.length
  have L4:=r'.length
  have:=SeqAt.RcAt.tuples (A:=X.A) p p' hu1 (w6 h2 g2 r r' (n:=50) hd λd e x y u v q1 q2 q3 q4 q5=>kY I 50 X.A.in1 d e x y u v huA q1 q2 q3 q4 q5)
  simp only[au] at this
  rw[vo,<- L1,<- L2,L3,L4] at q
  exact this X.prog X.w X.xe _ ⟨.bl _,H,I,rfl,q⟩
end
theorem ZW(l m:List Int):jc (l.map D.int) (m.map D.int)=decide (l=m):=by
 induction l generalizing m with
 | nil=>cases m <;> simp [jc]
 | cons a l ih =>
  cases m with
  | nil=>simp [jc]
  | cons b m =>
   simp only[az,jc,eqD,ih m]
   by_cases h1:a=b
   ·subst h1
    by_cases h2:l=m
    ·simp [h2]
    ·simp [h2]
   ·simp [h1]
theorem j3(l:List Int):uK (l.map D.int)=0:=by
 induction l with
 | nil=>rfl
 | cons a l ih=>simp only[az,uK,dpD,ih];rfl
abbrev CNx(n i:Nat)(Pv:Nat->List V->Hp->Prop)(sK:List V)(H:Hp):Prop:=∃m',m'<n - i/\(m'=n - (i+1)/\i+1<=n/\Pv (i+1) sK H)
theorem CNx.mk{n i:Nat}{Pv:Nat->List V->Hp->Prop}{sK:List V}{H:Hp}(hi:i<n)(h:Pv (i+1) sK H):CNx n i Pv sK H:=⟨n - (i+1),by lia,rfl,hi,h⟩
def Yr(J:It)(g:TG)(tt:TT)(te:TE)(own:Nat)(ix:List Nat)(σ:St)(H1:Hp)(Q:VK)(D:oP):Prop:=∃W:Nat->Nat->List V->Hp->Prop,(∃m,W 0 m [] (upd H1 D (.lst []))) /\
 ∀i m sK H',W i m sK H'->(J.stop i H'/\Q (.ref D) H')\/(J.go i H'/\∀x H2,J.yld i H' x H2->g x (wZ σ own ix) H2 λσ3 H3=>xa (wZ σ own ix) σ3/\tt σ3 H3 λb H4=>if b=sG then
  te σ3 H4 λv H5=>H5 D=sE (.lst sK)/\sK.length<oN/\∃m',m'<m/\W (i+1) m' (sK ++ [v]) (upd H5 D (.lst (sK ++ [v])))
  else ∃m',m'<m/\W (i+1) m' sK H4)
def CompR(lo:Int)(n:Nat)(g:TG)(tt:TT)(te:TE)(own:Nat)(ix:List Nat)(σ:St)(H1:Hp)(Q:VK)(D:oP):Prop:=Yr (Itr lo n) g tt te own ix σ H1 Q D
def CompL(K:oO)(a:oP)(g:TG)(tt:TT)(te:TE)(own:Nat)(ix:List Nat)(σ:St)(H1:Hp)(Q:VK)(D:oP):Prop:=Yr (Itl K a) g tt te own ix σ H1 Q D
def CompS(x:oW)(g:TG)(tt:TT)(te:TE)(own:Nat)(ix:List Nat)(σ:St)(H1:Hp)(Q:VK)(D:oP):Prop:=Yr (Its x) g tt te own ix σ H1 Q D
theorem zar{ta:TA}{g:TG}{tt:TT}{te:TE}{own:Nat}{ix:List Nat}{σ:St}{H:Hp}{Q:VK}:jf (Kz ta) g tt te own ix σ H Q=ta σ H λvs H1=>∃j:Int,vs=[.int j]/\-(2 ^ 62)<=j/\j<2 ^ 62/\∀D,H1 D=sF->CompR 0 j.toNat g tt te own ix σ H1 Q D:=rfl
theorem zck{K:oO}{tl:TE}{g:TG}{tt:TT}{te:TE}{own:Nat}{ix:List Nat}{σ:St}{H:Hp}{Q:VK}:jf (KI K tl) g tt te own ix σ H Q=tl σ H λx H1=>∃a,x=.ref a/\(∃xs,SqL K H1 a xs)/\∀D,H1 D=sF->CompL K a g tt te own ix σ H1 Q D:=rfl
theorem zce{tl:TE}{g:TG}{tt:TT}{te:TE}{own:Nat}{ix:List Nat}{σ:St}{H:Hp}{Q:VK}:jf (zbB tl) g tt te own ix σ H Q=tl σ H λv H1=>∃x,v=.str x/\∀D,H1 D=sF->CompS x g tt te own ix σ H1 Q D:=rfl
section
variable{g:TG}{tt:TT}{te:TE}{own:Nat}{ix:List Nat}{σ:St}{H1:Hp}{Q:VK}{D:oP}
theorem CompR.by{lo:Int}{n:Nat}(Pv:Nat->List V->Hp->Prop)(h0:Pv 0 [] (upd H1 D (.lst [])))
  (hs:∀i sK H',i<n->Pv i sK H'->g (.int (lo+i)) (wZ σ own ix) H' λσ3 H3=>xa (wZ σ own ix) σ3/\tt σ3 H3 λb H4=>if b=sG then
   te σ3 H4 λv H5=>H5 D=sE (.lst sK)/\sK.length<oN/\CNx n i Pv (sK ++ [v]) (upd H5 D (.lst (sK ++ [v]))) else CNx n i Pv sK H4)
  (hd:∀sK H',Pv n sK H'->Q (.ref D) H'):CompR lo n g tt te own ix σ H1 Q D:=by
 refine⟨λi m sK H=>m=n - i/\i<=n/\Pv i sK H,⟨n,by simp,aJ _,h0⟩,?_⟩
 rintro i m sK H' ⟨rfl,hi,p⟩
 by_cases hlt:i<n
 ·refine .inr ⟨hlt,λx H2 y=>?_⟩
  obtain⟨e,y⟩:=y
  subst e y
  exact hs i sK _ hlt p
 ·have e:i=n:=by lia
  subst e
  exact .inl ⟨aq _,hd sK H' p⟩
theorem CompL.by{K:oO}{a:oP}{xs:List V}(Pv:Nat->List V->Hp->Prop)(h0:Pv 0 [] (upd H1 D (.lst [])))(hl:∀i sK H',i<=xs.length->Pv i sK H'->SqL K H' a xs)
  (hs:∀i x sK H',xs[i]? = sE x->Pv i sK H'->g x (wZ σ own ix) H' λσ3 H3=>xa (wZ σ own ix) σ3/\tt σ3 H3 λb H4=>if b=sG then
   te σ3 H4 λv H5=>H5 D=sE (.lst sK)/\sK.length<oN/\CNx xs.length i Pv (sK ++ [v]) (upd H5 D (.lst (sK ++ [v]))) else CNx xs.length i Pv sK H4)
  (hd:∀sK H',Pv xs.length sK H'->Q (.ref D) H'):CompL K a g tt te own ix σ H1 Q D:=by
 refine⟨λi m sK H=>m=xs.length - i/\i<=xs.length/\Pv i sK H,⟨xs.length,by simp,aJ _,h0⟩,?_⟩
 rintro i m sK H' ⟨rfl,hi,p⟩
 have q:=hl i sK H' hi p
 by_cases hlt:i<xs.length
 ·refine .inr ⟨⟨xs,xs[i],q,by simp [hlt]⟩,λx H2 y=>?_⟩
  obtain⟨e,y⟩:=y
  subst e
  exact hs i x sK _ (y xs q) p
 ·have e:i=xs.length:=by lia
  subst e
  exact .inl ⟨⟨xs,q,aq _⟩,hd sK H' p⟩
theorem CompS.by{l:List Nat}(Pv:Nat->List V->Hp->Prop)(h0:Pv 0 [] (upd H1 D (.lst [])))
  (hs:∀i c sK H',l[i]? = sE c->Pv i sK H'->g (.str (tx [c])) (wZ σ own ix) H' λσ3 H3=>xa (wZ σ own ix) σ3/\tt σ3 H3 λb H4=>if b=sG then
   te σ3 H4 λv H5=>H5 D=sE (.lst sK)/\sK.length<oN/\CNx l.length i Pv (sK ++ [v]) (upd H5 D (.lst (sK ++ [v]))) else CNx l.length i Pv sK H4)
  (hd:∀sK H',Pv l.length sK H'->Q (.ref D) H'):CompS (tx l) g tt te own ix σ H1 Q D:=by
 refine⟨λi m sK H=>m=l.length - i/\i<=l.length/\Pv i sK H,⟨l.length,by simp,aJ _,h0⟩,?_⟩
 rintro i m sK H' ⟨rfl,hi,p⟩
 by_cases hlt:i<l.length
 ·refine .inr ⟨hlt,λv H2 y=>?_⟩
  obtain⟨e,c,hc,ev⟩:=y
  subst e ev
  exact hs i c sK _ hc p
 ·have e:i=l.length:=by lia
  subst e
  exact .inl ⟨rfl,hd sK H' p⟩
end
theorem xl{x:V}{r:St}:xa (sF::r) (sE x::r):=⟨rfl,λi v h=>by
 cases i with
 | zero=>cases h
 | succ i=>exact h⟩
theorem zP{X:Cx}{scope sc:pJ}{own caps:List oW}{ix:List Nat}(h1:scope.kind=.function)(h2:scope.names.all (λy=>y.2 != .cell)=sG)(h3:scope.names.all (λy=>y.2 != .local || scope.names.lookup y.1 == sE .local)=sG)
  (h4:scope.names.all (λy=>y.2 != .free || sc.names.lookup y.1 == sE .cell)=sG) (hsc:X.env.scope=sc) (h5:own.all (λy=>scope.names.lookup y == sE .local)=sG) (h6:caps.all (λy=>scope.names.lookup y == sE .free)=sG) (h7:ix.map (λi=>X.N[i]?)=caps.map sE):qT X scope own caps ix:=by
 refine⟨h1,λy hy=>?_,λy hy e=>?_,λy hy=>?_,λy hy=>?_,λy hy=>?_,h7⟩
 ·have:=List.all_eq_true.mp h2 y hy
  simpa using this
 ·have:=List.all_eq_true.mp h3 y hy
  rw[e] at this
  simpa using this
 ·have:=List.all_eq_true.mp h4 _ hy
  have:=by simpa using this
  show X.env.scope.names.lookup y=sE .cell
  rw[hsc]
  exact this
 ·have:=List.all_eq_true.mp h5 y hy
  simpa using this
 ·have:=List.all_eq_true.mp h6 y hy
  simpa using this
theorem Z2{α:Type}(l:List α){a b:Int}(h0:0<=a)(h1:a<=b)(h2:b<=l.length):cut l (sE a) (sE b)=(l.drop a.toNat).take (b - a).toNat:=by
 obtain⟨m,rfl⟩:=bD h0
 obtain⟨n,rfl⟩:=bD (by lia:0<=b)
 unfold cut
 rw[HT.sIx_nat,HT.sIx_nat,cy (by lia),cy (by lia)]
 have:((n:Int) - (m:Int)).toNat=n - m:=by lia
 rw[this]
 rfl
theorem jP{k:Nat}{A:oY}(r:Room k A):A.units+100<cLine:=by have:=r.un;lia
end L3
namespace L3
theorem Kr{K:oO}{x y:V}{H:Hp}{Q:VK}{l m:List D}(h:(Is K H (.lst l) x/\Is K H (.lst m) y)\/(Is K H (.tup l) x/\Is K H (.tup m) y))(hd:uK l<50)(q:Q (.bl (jc l m)) H):zcW K x y H Q:=⟨l,m,h,hd,q⟩
def zcH(t u:TS):TS:=λD σ H=>∃R:St->Hp->Prop,t { D with nx:=R } σ H/\∀σ' H',R σ' H'->u D σ' H'
theorem zi{X:Cx}{st:pf}{rest:List pf}{t u:TS}(h1:PS X st t)(h2:PSs X rest u):PSs X (st::rest) (zcH t u):=by
 intro sI s σ H D I h
 obtain⟨R,h,hr⟩:=h
 refine pV (thn (h1 sI s σ H { D with nx:=R } I h) λf s1 q=>?_)
 cases f with
 | next =>
  obtain⟨σ',H',I',q⟩:=q
  exact h2 sI s1 σ' H' D I' (hr _ _ q)
 | ret v=>exact q
 | brk=>exact q
 | cont=>exact q
theorem zj{t u:TS}{D:vh}{σ:St}{H:Hp}(R:St->Hp->Prop)(h:t { D with nx:=R } σ H)(hr:∀σ' H',R σ' H'->u D σ' H'):zcH t u D σ H:=⟨R,h,hr⟩
theorem zG{H H':Hp}{a:oP}{o:HO}(h:Same H H')(e:H a=sF):Same H (upd H' a o):=λb u q=>by
 rw[zo (zH q e)]
 exact h b u q
theorem ForL.by{K:oO}{a:oP}{xs:List V}{g:TG}{tb:TS}{D:vh}{σ:St}{H:Hp}(Pv:Nat->St->Hp->Prop)(h0:Pv 0 σ H)(hl:∀i σ H,i<=xs.length->Pv i σ H->SqL K H a xs)
  (hs:∀i x σ H,xs[i]? = sE x->Pv i σ H->g x σ H λσ2 H2=>tb { D with nx:=Pv (i+1),ct:=Pv (i+1),bk:=D.nx } σ2 H2) (hd:∀σ H,Pv xs.length σ H->D.nx σ H):ForL K a g tb D σ H:=UG Pv h0 hl hs hd
theorem Uj{A B:Prop}(h:B):if sG=sH then A else B:=by rw[if_neg (by decide)];exact h
def CompV(K:oO)(a:oP)(n:Nat)(g:TG)(tt:TT)(te:TE)(own:Nat)(ix:List Nat)(σ:L2.St)(H1:Hp)(Q:VK)(D:oP):Prop:=Yr (Irv K a n) g tt te own ix σ H1 Q D
theorem zbX{K:oO}{ta:TA}{g:TG}{tt:TT}{te:TE}{own:Nat}{ix:List Nat}{σ:L2.St}{H:Hp}{Q:VK}:jf (zcI K ta) g tt te own ix σ H Q=ta σ H λvs H1=>∃a xs,vs=[.ref a]/\SqL K H1 a xs/\∀D,H1 D=sF->CompV K a xs.length g tt te own ix σ H1 Q D:=rfl
theorem CompV.by{K:oO}{a:oP}{xs:List V}{g:TG}{tt:TT}{te:TE}{own:Nat}{ix:List Nat}{σ:L2.St}{H1:Hp}{Q:VK}{D:oP}(Pv:Nat->List V->Hp->Prop)(h0:Pv 0 [] (upd H1 D (.lst [])))(hl:∀i sK H',i<=xs.length->Pv i sK H'->SqL K H' a xs)
  (hs:∀i x sK H',xs.reverse[i]? = sE x->Pv i sK H'->g x (wZ σ own ix) H' λσ3 H3=>xa (wZ σ own ix) σ3/\tt σ3 H3 λb H4=>if b=sG then
   te σ3 H4 λv H5=>H5 D=sE (.lst sK)/\sK.length<oN/\CNx xs.length i Pv (sK ++ [v]) (upd H5 D (.lst (sK ++ [v]))) else CNx xs.length i Pv sK H4)
  (hd:∀sK H',Pv xs.length sK H'->Q (.ref D) H'):CompV K a xs.length g tt te own ix σ H1 Q D:=by
 refine⟨λi m sK H=>m=xs.length - i/\i<=xs.length/\Pv i sK H,⟨xs.length,by simp,aJ _,h0⟩,?_⟩
 rintro i m sK H' ⟨rfl,hi,p⟩
 have q:=hl i sK H' hi p
 by_cases hlt:i<xs.length
 ·refine .inr ⟨⟨xs,q,rfl,hlt⟩,λx H2 y=>?_⟩
  obtain⟨e,y⟩:=y
  subst e
  refine hs i x sK _ ?_ p
  rw[bx hlt]
  exact y xs q rfl
 ·have e:i=xs.length:=by lia
  subst e
  exact .inl ⟨rfl,hd sK H' p⟩
end L3
namespace L3
section
variable{X:Cx}
theorem W1:∀{ys:List oW} {its:List oQ},Vals (ys.map V.str) its->∃l:List (oW × rB),its=strValues l/\l.map (·.1)=ys
 | [],_,.nil=>⟨[],rfl,rfl⟩
 | y::ys,_,.cons r t=>by
  obtain⟨tk,rfl⟩:=r
  obtain⟨l,e1,e2⟩:=W1 t
  exact⟨(y,tk)::l,by rw[e1];rfl,by rw[az,e2]⟩
def zbG(K:oO):V->List V->Hp->VK->Prop:=λx xs H Q=>∃z p ys,x=.str z/\xs=[.ref p]/\SqL K H p (ys.map V.str)/\JoinOk z ys=sG/\Q (.str (Txt.join z ys)) H
theorem za3:MtR X "str.join" (zbG X.K):=by
 intro sI s σ H x xs v us Q I rx rv h
 obtain⟨z,p,ys,rfl,rfl,hS,hok,q⟩:=h
 obtain⟨t,rfl⟩:=rx
 obtain⟨u,rfl,ru⟩:=wP rv
 cases ru
 obtain⟨its,r,pl,_⟩:=I.list hS
 obtain⟨l,rfl,e⟩:=W1 r
 exact PySem.SC.join pl.isList e hok λt' k=>⟨.str _,H,I.tok _,⟨_,rfl⟩,q⟩
theorem YY:∀{bs:List Bool} {its:List oQ} {i:Nat} {v:oQ},Vals (bs.map V.bl) its->its[i]? = sE v->v=.bool (bs.getD i sH)
 | [],_,_,_,.nil,h=>by cases h
 | b::bs,_,0,v,.cons r t,h=>by
  cases r
  cases h
  rfl
 | b::bs,_,i+1,v,.cons r t,h=>YY (bs:=bs) (i:=i) t h
end
end L3
namespace L3
section
variable{M:sj}{A:oY}{E:oQ->oR->Prop}{s:oR}{base:pb}{env env0:rK}{outer:List rK}{L x t C:oP}{dx:Option oP}
theorem zaz{tb:oQ}{Q:Unit->oR->Prop}(hfr:A.frames=sE (env0::outer))(hl:s.heap.FunFrames base (env0::outer))(hf:env0.frame=sE L)(he:env.frame=sE L)
  (hx:s.heap.get? x=sE (xob C dx t tb)) (htb:Kf s.heap x tb)
  (h:∀h' T oT ts,h'.get? x=sE (xob C dx t (.ref T))->T≠x->(tb=.ref T\/s.heap.objs.size<=T)->h'.get? T=sE oT->oT.data=.fields ts->3<ts.size ->
   (∀b o,b≠x->tb≠.ref b->b ∉ frs (env0::outer)->s.heap.get? b=sE o->h'.get? b=sE o)->(∀b o,b≠x->tb≠.ref b->s.heap.get? b=sE o->∃sl,h'.get? b=sE { o with slots:=sl })->Q () { s with heap:=h' }) :
  oS M A (noteFrame (.ref x) env) Q E s:=by
 have land:∀(h1:pb) (T:oP) (oT:pC) (ts:Array oQ),h1.get? x=sE (xob C dx t (.ref T))->T≠x->(tb=.ref T\/s.heap.objs.size<=T)->h1.get? T=sE oT->oT.data=.fields ts->3<ts.size ->
   (∀b o,b≠x->tb≠.ref b->b ∉ frs (env0::outer)->s.heap.get? b=sE o->h1.get? b=sE o)->(∀b o,b≠x->tb≠.ref b->s.heap.get? b=sE o->∃sl,h1.get? b=sE { o with slots:=sl }) ->
   Q () { s with heap:=h1 }:=λh1 T oT ts e1 nT oldT e2 d2 z2 k1 k2=>h h1 T oT ts e1 nT oldT e2 d2 z2 k1 k2
 unfold noteFrame
 simp only[he]
 refine oH (pi hx rfl (x:=tb) rfl ?_)
 rcases htb with rfl | ⟨T,oT,ts,rfl,nT,e2,d2,z2⟩
 ·rw[if_neg (by decide)]
  refine jR hfr hl hf he hx λh' oT ts e1 ne e2 d2 z2 k1 k2=>land h' _ oT ts e1 ne (.inr (aq _)) e2 d2 z2 (λb o hb _ hbf e=>k1 b o hb hbf e) λb o hb _ e=>k2 b o hb e
 ·rw[if_pos (show (Value.ref T != Value.none)=sG from by simp)]
  obtain⟨y,hy⟩:∃y,ts[3]? = sE y:=⟨ts[3],by simp [z2]⟩
  refine oH (pi e2 d2 (x:=y) hy ?_)
  by_cases c:(y == rawInt L)=sG
  ·rw[if_pos c]
   exact oJ (land s.heap T oT ts hx nT (.inl rfl) e2 d2 z2 (λb o _ _ _ e=>e) λb o _ _ e=>⟨o.slots,e⟩)
  ·rw[if_neg c]
   refine oH (pO e2 d2 z2 ?_)
   have oth:∀b,b≠T->(s.heap.update T (Obj.mapFields (·.setIfInBounds 3 Value.none))).get? b=s.heap.get? b:=λb hb=>aL _ _ (Ne.symm hb)
   have hl1:(s.heap.update T (Obj.mapFields (·.setIfInBounds 3 Value.none))).FunFrames base (env0::outer):=hl.of_keeps λb o hb hnf=>⟨o,(oth b λq=>by rw[q,e2] at hb;cases hb;exact hnf ts d2).trans hb,rfl⟩
   have hsz:(s.heap.update T (Obj.mapFields (·.setIfInBounds 3 Value.none))).objs.size=s.heap.objs.size:=dz ..
   refine jR (s:={ s with heap:=s.heap.update T (Obj.mapFields (·.setIfInBounds 3 Value.none)) }) hfr hl1 hf he ((oth x (Ne.symm nT)).trans hx) λh' oT' ts' e1 ne e2' d2' z2' k1 k2=>?_
   refine land h' _ oT' ts' e1 ne (.inr (by rw[hsz];exact aq _)) e2' d2' z2' (λb o hb hbt hbf e=>k1 b o hb hbf ((oth b λq=>hbt (by rw[q])).trans e)) λb o hb hbt e=>k2 b o hb ((oth b λq=>hbt (by rw[q])).trans e)
end
section
variable{X:Cx}{sI:List (oP × pC)}{σ:St}{H1:Hp}{s1:oR}
theorem Inv.noted{h':pb}{x T:oP}{tb:oQ}(I1:Inv X sI σ H1 s1)(hst:X.stack=X.env::X.outer)(fx:xO X sI H1 x)(fT:∀T,tb=.ref T->xO X sI H1 T)(fT':xO X sI H1 T)
  (k1:∀b o,b≠x->tb≠.ref b->b ∉ frs (X.env::X.outer)->s1.heap.get? b=sE o->h'.get? b=sE o) (k2:∀b o,b≠x->tb≠.ref b->s1.heap.get? b=sE o->∃sl,h'.get? b=sE { o with slots:=sl }):Inv X sI σ H1 { s1 with heap:=h' }:=by
 have tbs:∀b,tb=.ref b->H1 b=sF:=λb hb=>(fT b hb).1
 have nch:∀b o,s1.heap.get? b=sE o->b ∉ (x::T::tbL tb)->b≠x/\tb≠.ref b:=λb o _ hb=>by
  refine⟨λz=>hb (by simp [z]),λz=>hb ?_⟩
  rw[z]
  simp [tbL]
 have un:Un (frs X.stack) (x::T::tbL tb) H1 H1 s1.heap h':=by
  rw[hst]
  refine⟨λb o e n hb hc=>?_,λb o e n hb hc=>?_,λb o e n _=>n,λb o e hc=>?_,λb xs e=>e,λb o u e=>e,λb ps e=>⟨#[],by rw[e];simp⟩⟩
  ·obtain⟨a1,a2⟩:=nch b o e hc
   exact k1 b o a1 a2 hb e
  ·obtain⟨a1,a2⟩:=nch b o e hc
   exact k2 b o a1 a2 e
  ·obtain⟨a1,a2⟩:=nch b o e hc
   obtain⟨sl,q⟩:=k2 b o a1 a2 e
   exact⟨_,q⟩
 have hok:HOk X.prog X.w H1 h':=λb u e=>by
  refine (I1.hok b u e).stay (λc v hc q=>k1 c v ?_ ?_ ?_ q) (λ_ q=>q) λ_ _ q=>q
  ·rintro rfl
   rcases hc with rfl | hc
   ·rw[fx.1] at e;cases e
   ·rw[fx.1] at hc;cases hc
  ·intro z
   have:=tbs c z
   rcases hc with rfl | hc
   ·rw[this] at e;cases e
   ·rw[this] at hc;cases hc
  ·intro z
   rw[<- hst] at z
   have:=I1.stkFree c z
   rcases hc with rfl | hc
   ·rw[this] at e;cases e
   ·rw[this] at hc;cases hc
 exact I1.call' (s':={ s1 with heap:=h' }) rfl un hok I1.bare λb hb=>by
  have fb:xO X sI H1 b:=by
   rcases List.mem_cons.mp hb with z | z
   ·rw[z];exact fx
   ·rcases List.mem_cons.mp z with z | z
    ·rw[z];exact fT'
    ·cases tb with
     | ref b' =>
      have:b=b':=by simpa [tbL] using z
      rw[this];exact fT b' rfl
     | _=>simp [tbL] at z
  obtain⟨_,a1,_,a3,a4,a5⟩:=fb
  exact⟨a3,a1,a4,a5⟩
end
section
variable{X:Cx}{scope:pJ}{own caps:List oW}{ix:List Nat}{cl:List (oW × oP)}
theorem VC{N:List oW}{EX:XK}{sI:List (oP × pC)}{σ:St}{H3:Hp}{s3:oR}{fp:List oP}{xe:oQ->oR->Prop}{e:oQ}{s1:oR}{RE:oQ->oR->Prop}(hst:X.stack=X.env::X.outer/\X.env.frame=sE X.env.locals)(hxe:XE X EX)
  (hc1:∀y c,cl.lookup y=sE c->X.env.cells.lookup y=sE c) (I3:Inv X sI σ H3 s3) (f3:∀b ∈ fp,xO X sI H3 b) (fl:zak (ye X scope cl s3.heap.objs.size N sI s3 H3 fp xe) EX e s1)
  (hRE:∀m s' x,s'.heap.Ns s3.heap.objs.size m->(∀h',Heap.SameBut s3.heap.objs.size s'.heap h'->∀cenv:rK,cenv.locals=s3.heap.objs.size->oS (model X.prog X.w) X.A (fk "comprehension.variables-let-go" x cenv:sw oQ) (λ_ _=>False) X.xe { s' with heap:=h' })->RE x s') :
  notedBy (model X.prog X.w) X.A (compEnvC scope cl s3.heap.objs.size X.env) RE e s1:=by
 obtain⟨pins',σ',H1,x,C,t,dx,tb,rfl,I1,ob,tr,fx,fT,q⟩:=fl
 have IX:Inv X sI σ H1 s1:=I3.call' (s':=s1) I1.os I1.base I1.hok I1.bare λb hb=>by
  obtain⟨_,a1,a2,a3,a4,a5⟩:=f3 b hb
  exact⟨a3,a1,a4,a5⟩
 have up:∀b,xO (ye X scope cl s3.heap.objs.size N sI s3 H3 fp xe) pins' H1 b->xO X sI H1 b:=λb hb=>by
  obtain⟨a0,a1,a2,a3,a4,a5⟩:=hb
  rcases a3 with a3 | a3
  ·exact⟨a0,(f3 b a3).2⟩
  ·exact I3.fpOk a3 a0
 have fx':=up x fx
 have fT':∀T,tb=.ref T->xO X sI H1 T:=λT h=>up T (fT T h)
 have fr:X.A.frames=sE (X.env::X.outer):=by rw[<- hst.1];exact IX.ok.frames
 have ff:s1.heap.FunFrames X.base (X.env::X.outer):=by rw[<- hst.1];exact IX.stack
 obtain⟨m,hm,_⟩:=I1.loc
 have fC:xO X sI H1 s3.heap.objs.size:=I3.fpOk (aq _) I1.free
 refine zaz fr ff hst.2 hst.2 ob tr λh' T oT ts e1 nT oldT e2 d2 z2 k1 k2=>?_
 have fT2:xO X sI H1 T:=by
  rcases oldT with z | z
  ·exact fT' T z
  ·exact IX.fpOk z (IX.hok.fresh z)
 have I2:Inv X sI σ H1 { s1 with heap:=h' }:=Inv.noted IX hst.1 fx' fT' fT2 k1 k2
 have hCx:s3.heap.objs.size≠x:=λz=>fx.2.1 z.symm
 have hCtb:tb≠.ref s3.heap.objs.size:=λz=>(fT _ z).2.1 rfl
 obtain⟨oC,es,ep,hoC,rC⟩:=hm
 have hCT:T≠s3.heap.objs.size:=by
  rcases oldT with z | z
  ·exact (fT T z).2.1
  ·exact bZ (aB (ay hoC) z)
 have hCf:s3.heap.objs.size ∉ frs (X.env::X.outer):=λz=>by
  rw[<- hst.1] at z
  rcases List.mem_cons.mp (IX.stkSub _ z) with y | y
  ·exact fC.2.1 y
  ·exact fC.2.2.1 y
 refine hRE m _ _ ⟨oC,es,ep,k1 _ _ hCx hCtb hCf hoC,rC⟩ λh2 sb cenv hcenv=>?_
 have I3':Inv X sI σ H1 { s1 with heap:=h2 }:=I2.turned (t':=s1.toks) (λb o hb e=>(sb.2 b hb).trans e) fC.1 fC.2.1 fC.2.2.2.1 fC.2.2.2.2.1 fC.2.2.2.2.2
 have ob2:h2.get? x=sE (xob C dx t (.ref T)):=(sb.2 x (Ne.symm hCx)).trans e1
 have oT2:h2.get? T=sE oT:=(sb.2 T hCT).trans e2
 unfold fk
 refine oH (pi (s:={ s1 with heap:=h2 }) ob2 rfl (x:=.ref T) rfl ?_)
 rw[if_neg (show ¬ (Value.ref T == Value.none)=sG from by simp)]
 unfold setFlight
 refine oH (oH (pi (s:={ s1 with heap:=h2 }) ob2 rfl (x:=.ref T) rfl ?_))
 rw[if_pos (show (Value.ref T != Value.none)=sG from by simp)]
 refine pO (s:={ s1 with heap:=h2 }) oT2 d2 z2 (wpAny_throw (hxe _ _ ?_))
 have d3:=Obj.data_mapFields d2 (·.setIfInBounds 3 (cenv.frame.elim Value.none λf=>rawInt f))
 have I4:Inv X sI σ H1 { s1 with heap:=h2.update T (Obj.mapFields (·.setIfInBounds 3 (cenv.frame.elim Value.none λf=>rawInt f))) } :=
  I3'.turned (t':=s1.toks) (λb o hb e=>(aL _ _ (Ne.symm hb)).trans e) fT2.1 fT2.2.1 fT2.2.2.2.1 fT2.2.2.2.2.1 fT2.2.2.2.2.2
 exact⟨sI,σ,H1,x,C,t,dx,.ref T,rfl,I4,(aL _ _ nT).trans ob2,.inr ⟨T,_,_,rfl,nT,bV _ oT2 (Obj.isFreed_of_fields d3),d3,by simpa using z2⟩,fx',λT' z=>by cases z;exact fT2,q⟩
end
section
variable{X:Cx}{scope:pJ}{own caps:List oW}{ix:List Nat}{elt tg iter:oZ}{ifs:List oZ}{pos:pR}{wi:TI}{g:TG}{tt:TT}{te:TE}
end
end L3
namespace L3
open PySem.AutoSeq1 (wpAny_loadPart')
open MeetsSeq MeetsSeq2 MeetsSeq3 SeqRoads2 SeqAt
def LtAt(A:oY)(s:oR)(y x:oQ)(b:Bool):Prop :=
 ∀(prog:oV) (w:oX) (E:oQ->oR->Prop) (Q:oQ->oR->Prop),Q (.bool b) s->oS (model prog w) A (richCompare .Lt y x) Q E s
def X9(e t r:Nat->Bool)(m n:Nat):Prop:=∀i,i<=m->i<=n->r i=if i<m/\i<n then (if e i=sG then r (i+1) else t i) else decide (m<n)
theorem V3(l b:oP)(items sJ:Array oQ)(n n2:Nat)(dd dd2:Option oP)(sl sl2:Array (Option oQ))(e t r:Nat->Bool)(hr:X9 e t r items.size sJ.size)(k:Nat) :
  ∀i:Nat,i<=items.size->i<=sJ.size->items.size - i=k->Meets (Builtin.«list.__eq__.loop» ⟨[.ref l,.ref b,rawInt i,rawInt 0],[]⟩)
   (λA R s=>s.heap.get? l=sE { cls:=.type "list",dict:=dd,data:=.seq items n,slots:=sl }/\s.heap.get? b=sE { cls:=.type "list",dict:=dd2,data:=.seq sJ n2,slots:=sl2 } /\
    (∀j (h1:j<items.size) (h2:j<sJ.size),EqAt A.in1 s items[j] sJ[j] (e j))/\(∀j (h1:j<items.size) (h2:j<sJ.size),e j=sH->LtAt A.in1 s items[j] sJ[j] (t j)) /\
    R (.ok (.ret (.bool (r i)))) s):=by
 induction k with
 | zero =>
  intro i b1 b2 hk prog w A R s h
  obtain⟨hp,g,d,tk,os⟩:=s;obtain⟨hl,hb,he,ht,h⟩:=h
  have hri:=hr i b1 b2
  rw[if_neg (by lia)] at hri
  rw[hri] at h
  wp_walk using wpAny_loadPart' hl,wpAny_loadPart' hb
  have hi1:items[((i:Nat):Int).toNat]? = sF:=by simp;lia
  rw[hi1]
  wp_walk using wpAny_loadPart' hl,wpAny_loadPart' hb
  exact h
 | succ k ih =>
  intro i b1 b2 hk prog w A R s h
  obtain⟨hp,g,d,tk,os⟩:=s;obtain⟨hl,hb,he,ht,h⟩:=h
  have hlt:i<items.size:=by lia
  have hi1:items[((i:Nat):Int).toNat]? = sE items[i]:=by simp [hlt]
  have hc:((i:Int)+1)=((i+1:Nat):Int):=by push_cast;rfl
  have hri:=hr i b1 b2
  by_cases hlt2:i<sJ.size
  ·rw[if_pos ⟨hlt,hlt2⟩] at hri
   rw[hri] at h
   have hi2:sJ[((i:Nat):Int).toNat]? = sE sJ[i]:=by simp [hlt2]
   wp_walk using wpAny_loadPart' hl,wpAny_loadPart' hb
   rw[hi1,hi2]
   refine oH (he i hlt hlt2 prog w _ _ ?_)
   cases hb':e i with
   | true =>
    rw[hb',if_pos rfl] at h
    wp_walk
    rw[hc]
    exact⟨plainId_quiet plain_eq_loop _,pZ entry_eq_loop (by
     rw[Around.under_plainId plain_eq_loop _]
     exact ih (i+1) (by lia) (by lia) (by lia) prog w A R _ ⟨hl,hb,he,ht,h⟩)⟩
   | false =>
    rw[hb',if_neg aG] at h
    wp_walk using wpAny_loadPart' hl,wpAny_loadPart' hb
    rw[hi1,hi2]
    refine oH (ht i hlt hlt2 hb' prog w _ _ ?_)
    wp_walk
    exact h
  ·rw[if_neg (by lia)] at hri
   rw[hri] at h
   have hi2:sJ[((i:Nat):Int).toNat]? = sF:=by simp;lia
   wp_walk using wpAny_loadPart' hl,wpAny_loadPart' hb
   rw[hi1,hi2]
   wp_walk using wpAny_loadPart' hl,wpAny_loadPart' hb
   exact h
theorem Uc(l b:oP)(items sJ:Array oQ)(n n2:Nat)(dd dd2:Option oP)(sl sl2:Array (Option oQ))(e t r:Nat->Bool)(hr:X9 e t r items.size sJ.size) :
  Meets (Builtin.«list.__lt__» ⟨[.ref l,.ref b],[]⟩)
   (λA R s=>s.heap.get? l=sE { cls:=.type "list",dict:=dd,data:=.seq items n,slots:=sl }/\s.heap.get? b=sE { cls:=.type "list",dict:=dd2,data:=.seq sJ n2,slots:=sl2 } /\
    (∀j (h1:j<items.size) (h2:j<sJ.size),EqAt A.in1 s items[j] sJ[j] (e j))/\(∀j (h1:j<items.size) (h2:j<sJ.size),e j=sH->LtAt A.in1 s items[j] sJ[j] (t j)) /\
    R (.ok (.ret (.bool (r 0)))) s):=by
 intro prog w A R s h
 obtain⟨hp,g,d,tk,os⟩:=s;obtain⟨hl,hb,he,ht,h⟩:=h
 have f3:=AutoSeq1.sub_list_list
 wp_walk using wpAny_loadPart' hl,wpAny_loadPart' hb
 exact⟨plainId_quiet plain_eq_loop _,pZ entry_eq_loop (by
  rw[Around.under_plainId plain_eq_loop _]
  exact V3 l b items sJ n n2 dd dd2 sl sl2 e t r hr _ 0 (aJ _) (aJ _) rfl prog w A R _ ⟨hl,hb,he,ht,h⟩)⟩
theorem X3(l b:oP)(items sJ:Array oQ)(n n2:Nat)(dd dd2:Option oP)(sl sl2:Array (Option oQ))(e t r:Nat->Bool)(hr:X9 e t r items.size sJ.size) :
  Meets (Builtin.«tuple.__lt__» ⟨[.ref l,.ref b],[]⟩)
   (λA R s=>s.heap.get? l=sE { cls:=.type "tuple",dict:=dd,data:=.seq items n,slots:=sl }/\s.heap.get? b=sE { cls:=.type "tuple",dict:=dd2,data:=.seq sJ n2,slots:=sl2 } /\
    (∀j (h1:j<items.size) (h2:j<sJ.size),EqAt A.in1 s items[j] sJ[j] (e j))/\(∀j (h1:j<items.size) (h2:j<sJ.size),e j=sH->LtAt A.in1 s items[j] sJ[j] (t j)) /\
    R (.ok (.ret (.bool (r 0)))) s) :=
 .of_wp λprog w A R s h=>by
  obtain⟨hp,g,d,tk,os⟩:=s;obtain⟨hl,hb,he,ht,h⟩:=h
  have f2:=AutoSeq1.sub_tuple_tuple
  have hZ:(items.toList.zip sJ.toList).length=min items.size sJ.size:=by simp
  wp_walk using wpAny_loadPart' hl,wpAny_loadPart' hb,wpAny_forIn_list _ (λrest b s'=>b.1=sF/\s'=⟨hp,g,d,tk,os⟩/\∃i,i<=min items.size sJ.size/\rest=(items.toList.zip sJ.toList).drop i /\
   R (.ok (.ret (.bool (r i)))) ⟨hp,g,d,tk,os⟩) _
  case turn =>
   rintro⟨y,x⟩ rest b s' ⟨hb',rfl,i,hi,hz,hR⟩
   have hlt:i<(items.toList.zip sJ.toList).length:=by
    rcases ee i (items.toList.zip sJ.toList).length with h' | h'
    ·exact h'
    ·rw[aY h'] at hz;cases hz
   have hm:i<min items.size sJ.size:=hZ ▸ hlt
   have h1:i<items.size:=aB hm (Nat.min_le_left _ _)
   have h2:i<sJ.size:=aB hm (Nat.min_le_right _ _)
   rw[aU hlt] at hz
   injection hz with hyx hrest
   have hy:y=items[i]:=by have:=congrArg Prod.fst hyx;simpa using this
   have hx:x=sJ[i]:=by have:=congrArg Prod.snd hyx;simpa using this
   subst hy hx
   have hri:=hr i (by lia) (by lia)
   rw[if_pos ⟨h1,h2⟩] at hri
   rw[hri] at hR
   refine oH (he i h1 h2 prog w _ _ ?_)
   cases hy:e i with
   | true =>
    rw[hy,if_pos rfl] at hR
    wp_walk
    exact⟨rfl,rfl,i+1,by lia,hrest,hR⟩
   | false =>
    rw[hy,if_neg aG] at hR
    simp only[Bool.not_false,if_true]
    refine oH (rF ?_)
    refine oH (ht i h1 h2 hy prog w _ _ ?_)
    wp_walk
    exact⟨_,rfl,hR⟩
  case fin =>
   rintro⟨b1,b2⟩ s' ⟨hb',rfl,i,hi,hz,hR⟩
   simp only at hb'
   subst hb'
   have hge:min items.size sJ.size<=i:=by
    rcases ee i (items.toList.zip sJ.toList).length with h' | h'
    ·rw[aU h'] at hz;cases hz
    ·exact hZ ▸ h'
   have hri:=hr i (by lia) (by lia)
   rw[if_neg (by lia)] at hri
   rw[hri] at hR
   wp_walk
   exact⟨_,rfl,hR⟩
  case h =>
   exact⟨rfl,rfl,0,aJ _,rfl,h⟩
theorem LtAt.lists{A:oY}{s:oR}{l b:oP}{items sJ:Array oQ}{e t r:Nat->Bool}(hl:s.heap.IsList l items)(hb:s.heap.IsList b sJ)(hr:X9 e t r items.size sJ.size)(hu:A.units<cLine)
  (he:∀j (h1:j<items.size) (h2:j<sJ.size),EqAt A.in1 s items[j] sJ[j] (e j)) (ht:∀j (h1:j<items.size) (h2:j<sJ.size),e j=sH->LtAt A.in1 s items[j] sJ[j] (t j)):LtAt A s (.ref l) (.ref b) (r 0):=λprog w E Q h=>by
 obtain⟨⟨cls,dd,data,sl⟩,ho,hc,n,hd⟩:=id hl
 obtain⟨⟨cls2,dd2,data2,sl2⟩,ho2,hc2,n2,hd2⟩:=id hb
 simp only at hc hd hc2 hd2
 subst hc hd hc2 hd2
 exact richCompare_meets_room (op:=.Lt) ⟨_,ho,rfl⟩ ⟨_,ho2,rfl⟩ F.slot_list_lt F.entry_list_lt (F.args_list_lt_2 _ _) (Uc l b items sJ n n2 dd dd2 sl sl2 e t r hr)
  ⟨ho,ho2,he,ht,show Value.bool (r 0)≠Value.notImplemented/\Q (.bool (r 0)) s from ⟨(λx=>nomatch x),h⟩⟩ hu
theorem LtAt.tuples{A:oY}{s:oR}{l b:oP}{items sJ:Array oQ}{e t r:Nat->Bool}(hl:s.heap.IsTuple l items)(hb:s.heap.IsTuple b sJ)(hr:X9 e t r items.size sJ.size)(hu:A.units<cLine)
  (he:∀j (h1:j<items.size) (h2:j<sJ.size),EqAt A.in1 s items[j] sJ[j] (e j)) (ht:∀j (h1:j<items.size) (h2:j<sJ.size),e j=sH->LtAt A.in1 s items[j] sJ[j] (t j)):LtAt A s (.ref l) (.ref b) (r 0):=λprog w E Q h=>by
 obtain⟨⟨cls,dd,data,sl⟩,ho,hc,n,hd⟩:=id hl
 obtain⟨⟨cls2,dd2,data2,sl2⟩,ho2,hc2,n2,hd2⟩:=id hb
 simp only at hc hd hc2 hd2
 subst hc hd hc2 hd2
 exact richCompare_meets_room (op:=.Lt) ⟨_,ho,rfl⟩ ⟨_,ho2,rfl⟩ F.slot_tuple_lt F.entry_tuple_lt (F.args_tuple_lt_2 _ _) (X3 l b items sJ n n2 dd dd2 sl sl2 e t r hr)
  ⟨ho,ho2,he,ht,show Value.bool (r 0)≠Value.notImplemented/\Q (.bool (r 0)) s from ⟨(λx=>nomatch x),h⟩⟩ hu
end L3
namespace L3
mutual
def okD:D->D->Prop
 | .int _,.int _=>True
 | .lst l,.lst m=>jk l m
 | .tup l,.tup m=>jk l m
 | _,_=>False
def jk:List D->List D->Prop
 | d::l,e::m=>okD d e/\jk l m
 | _,_=>True
end
mutual
noncomputable def ltD:D->D->Bool
 | .int a,.int b=>decide (a<b)
 | .lst l,.lst m=>v0 l m
 | .tup l,.tup m=>v0 l m
 | _,_=>sH
noncomputable def v0:List D->List D->Bool
 | d::l,e::m=>if eqD d e=sG then v0 l m else ltD d e
 | [],_::_=>sG
 | _,[]=>sH
end
theorem Ud(l m:List D):X9 (λj=>eqD (l.getD j .non) (m.getD j .non)) (λj=>ltD (l.getD j .non) (m.getD j .non)) (λi=>v0 (l.drop i) (m.drop i)) l.length m.length:=by
 intro i b1 b2
 simp only
 by_cases h:i<l.length/\i<m.length
 ·rw[if_pos h,aU h.1,aU h.2,v0]
  rw[ac,ac,ak h.1,ak h.2]
  rfl
 ·rw[if_neg h]
  by_cases h1:i<l.length
  ·have h2:¬ i<m.length:=λz=>h ⟨h1,z⟩
   rw[aU h1,aY (cU h2),v0]
   ·simp;lia
   all_goals simp
  ·rw[aY (cU h1)]
   by_cases h2:i<m.length
   ·rw[aU h2,v0]
    simp;lia
   ·rw[aY (cU h2),v0]
    ·simp;lia
    all_goals simp
theorem K7:∀{l m:List D} {j:Nat} {d e:D},jk l m->l[j]? = sE d->m[j]? = sE e->okD d e
 | d::l,e::m,0,_,_,h,q1,q2=>by
  cases q1;cases q2
  simp only[jk] at h
  exact h.1
 | d::l,e::m,j+1,_,_,h,q1,q2=>by
  simp only[jk] at h
  exact K7 (j:=j) h.2 q1 q2
section
variable{X:Cx}{sI:List (oP × pC)}{σ:St}{H:Hp}{s:oR}
theorem Xd{l m:List D}{xs ys:List V}{its its':List oQ}{A:oY}{n:Nat}(hl:Iss X.K H l xs)(hm:Iss X.K H m ys)(r:Vals xs its)(r':Vals ys its')(hn:uK l<n)(ok:jk l m)
  (ih:∀(d e:D) (x y:V) (u v:oQ),dpD d<n->okD d e->Is X.K H d x->Is X.K H e y->RelV x u->RelV y v->LtAt A s u v (ltD d e)) :
  ∀j (h1:j<its.toArray.size) (h2:j<its'.toArray.size),LtAt A s its.toArray[j] its'.toArray[j] (ltD (l.getD j .non) (m.getD j .non)):=by
 intro j h1 h2
 rw[au] at h1 h2
 have e1:=hl.len
 have e2:=hm.len
 have e3:=r.length
 have e4:=r'.length
 have g1:l[j]? = sE l[j]:=ak (by lia)
 have g2:m[j]? = sE m[j]:=ak (by lia)
 generalize l[j]=d at g1
 generalize m[j]=e at g2
 obtain⟨x,hx,ix⟩:=hl.at g1
 obtain⟨y,hy,iy⟩:=hm.at g2
 obtain⟨u,hu,ru⟩:=xR r hx
 obtain⟨v,hv,rv⟩:=xR r' hy
 have q1:its.toArray[j]=u:=by
  have:=(List.getElem?_eq_some_iff.mp hu).2
  simpa using this
 have q2:its'.toArray[j]=v:=by
  have:=(List.getElem?_eq_some_iff.mp hv).2
  simpa using this
 rw[q1,q2,ac,ac,g1,g2]
 exact ih d e x y u v (cK (J3 g1) hn) (K7 ok g1 g2) ix iy ru rv
theorem QV(I:Inv X sI σ H s):∀(n:Nat) (A:oY) (d e:D) (x y:V) (u v:oQ),A.units+n<cLine->dpD d<n->okD d e->Is X.K H d x->Is X.K H e y->RelV x u->RelV y v->LtAt A s u v (ltD d e):=by
 intro n
 induction n with
 | zero=>intro A d e x y u v _ h;exact absurd h (cz _)
 | succ n ih =>
  intro A d e x y u v hu hd ok hx hy rx ry
  have hu1:A.units<cLine:=by lia
  have huA:A.in1.units+n<cLine:=by show A.units+1+n<cLine;lia
  cases d with
  | int a =>
   cases e with
   | int b =>
    simp only[Is] at hx hy
    subst hx hy
    obtain⟨t,rfl⟩:=rx
    obtain⟨t',rfl⟩:=ry
    exact λprog w E Q h=>lt_int h
   | _=>simp only[okD] at ok
  | lst l =>
   cases e with
   | lst m =>
    simp only[Is] at hx hy
    obtain⟨a,xs,rfl,h1,h2⟩:=hx
    obtain⟨b,ys,rfl,g1,g2⟩:=hy
    cases rx;cases ry
    obtain⟨its,r,p,_⟩:=I.list h1
    obtain⟨its',r',p',_⟩:=I.list g1
    simp only[dpD] at hd
    simp only[okD] at ok
    have L1:=h2.len
    have L2:=g2.len
    have L3:=r.length
    have L4:=r'.length
    have st:=Ud l m
    rw[show l.length=its.toArray.size by simp only[au];lia,show m.length=its'.toArray.size by simp only[au];lia] at st
    exact LtAt.lists (A:=A) p.isList p'.isList st hu1 (w6 h2 g2 r r' (n:=n) (by lia) λd e x y u v q1 q2 q3 q4 q5=>kY I n A.in1 d e x y u v huA q1 q2 q3 q4 q5)
     (λj h1 h2 _=>Xd (n:=n) (A:=A.in1) ‹_› g2 r r' (by lia) ok (λd e x y u v q1 q2 q3 q4 q5 q6=>ih A.in1 d e x y u v huA q1 q2 q3 q4 q5 q6) j h1 h2)
   | _=>simp only[okD] at ok
  | tup l =>
   cases e with
   | tup m =>
    simp only[Is] at hx hy
    obtain⟨a,xs,rfl,h1,h2⟩:=hx
    obtain⟨b,ys,rfl,g1,g2⟩:=hy
    cases rx;cases ry
    obtain⟨its,r,p,_⟩:=I.tuple h1
    obtain⟨its',r',p',_⟩:=I.tuple g1
    simp only[dpD] at hd
    simp only[okD] at ok
    have L1:=h2.len
    have L2:=g2.len
    have L3:=r.length
    have L4:=r'.length
    have st:=Ud l m
    rw[show l.length=its.toArray.size by simp only[au];lia,show m.length=its'.toArray.size by simp only[au];lia] at st
    exact LtAt.tuples (A:=A) p p' st hu1 (w6 h2 g2 r r' (n:=n) (by lia) λd e x y u v q1 q2 q3 q4 q5=>kY I n A.in1 d e x y u v huA q1 q2 q3 q4 q5)
     (λj h1 h2 _=>Xd (n:=n) (A:=A.in1) ‹_› g2 r r' (by lia) ok (λd e x y u v q1 q2 q3 q4 q5 q6=>ih A.in1 d e x y u v huA q1 q2 q3 q4 q5 q6) j h1 h2)
   | _=>simp only[okD] at ok
  | non=>cases e <;> simp only[okD] at ok
  | bl _=>cases e <;> simp only[okD] at ok
  | str _=>cases e <;> simp only[okD] at ok
def zbr(K:oO):R2:=λx y H Q=>∃d e,Is K H d x/\Is K H e y/\dpD d<50/\okD d e/\Q (.bl (ltD d e)) H
theorem VW(hu:X.A.units+100<cLine):OpR X (pc .Lt) (zbr X.K):=by
 intro sI s σ H x y v u Q I rx ry h
 obtain⟨d,e,hx,hy,hd,ok,q⟩:=h
 exact QV I 50 X.A d e x y v u (by lia) hd ok hx hy rx ry X.prog X.w X.xe _ ⟨.bl _,H,I,rfl,q⟩
end
theorem WK{K:oO}{x y:V}{H:Hp}{Q:VK}{d e:D}(h1:Is K H d x)(h2:Is K H e y)(h3:dpD d<50)(h4:okD d e)(q:Q (.bl (ltD d e)) H):zbr K x y H Q:=⟨d,e,h1,h2,h3,h4,q⟩
noncomputable def ltI:List Int->List Int->Bool
 | a::l,b::m=>if a=b then ltI l m else decide (a<b)
 | [],_::_=>sG
 | _,[]=>sH
theorem vJ:∀(l m:List Int),jk (l.map D.int) (m.map D.int)
 | [],_=>by simp only[aP,jk]
 | _::_,[]=>by simp only[aP,az,jk]
 | a::l,b::m=>by simp only[az,jk,okD,true_and];exact vJ l m
theorem ZN:∀(l m:List Int),v0 (l.map D.int) (m.map D.int)=ltI l m
 | [],[]=>by simp only[aP,v0,ltI]
 | [],_::_=>by simp only[aP,az,v0,ltI]
 | _::_,[]=>by simp only[aP,az,v0,ltI]
 | a::l,b::m=>by
  simp only[az,v0,ltI,eqD,ltD,ZN l m,beq_iff_eq]
end L3
namespace L3
mutual
def xv:D->Prop
 | .lst _=>False
 | .tup l=>zZ l
 | _=>True
def zZ:List D->Prop
 | []=>True
 | d::l=>xv d/\zZ l
end
theorem Xe{K:oO}{H:Hp}{a p:oP}{xs ys zs:List V}(hp:H p=sE (.lst ys))(h:SqT K H a xs):SqT K (upd H p (.lst zs)) a xs:=by
 rcases h with (h | ⟨o,h⟩) | h
 ·refine .inl (.inl ?_)
  rw[zo (λe=>by rw[e,hp] at h;cases h)]
  exact h
 ·refine .inl (.inr ⟨o,?_⟩)
  rw[zo (λe=>by rw[e,hp] at h;cases h)]
  exact h
 ·exact .inr h
mutual
theorem Is.updL{K:oO}{H:Hp}{p:oP}{ys zs:List V}(hp:H p=sE (.lst ys)):∀(d:D) (v:V),xv d->Is K H d v->Is K (upd H p (.lst zs)) d v
 | .non,v,_,h=>by simp only[Is] at h ⊢;exact h
 | .bl b,v,_,h=>by simp only[Is] at h ⊢;exact h
 | .int b,v,_,h=>by simp only[Is] at h ⊢;exact h
 | .str b,v,_,h=>by simp only[Is] at h ⊢;exact h
 | .lst l,v,f,h=>by simp only[xv] at f
 | .tup l,v,f,h=>by
  simp only[Is] at h ⊢
  simp only[xv] at f
  obtain⟨a,xs,e1,e2,e3⟩:=h
  exact⟨a,xs,e1,Xe hp e2,Iss.updL hp l xs f e3⟩
theorem Iss.updL{K:oO}{H:Hp}{p:oP}{ys zs:List V}(hp:H p=sE (.lst ys)):∀(l:List D) (vs:List V),zZ l->Iss K H l vs->Iss K (upd H p (.lst zs)) l vs
 | [],vs,_,h=>by simp only[Iss] at h ⊢;exact h
 | d::l,vs,f,h=>by
  simp only[Iss] at h ⊢
  simp only[zZ] at f
  obtain⟨v,r,e1,e2,e3⟩:=h
  exact⟨v,r,e1,Is.updL hp d v f.1 e2,Iss.updL hp l r f.2 e3⟩
end
theorem wF:∀{l:List D},(∀d ∈ l,xv d)->zZ l
 | [],_=>by simp only[zZ]
 | d::l,h=>by simp only[zZ];exact⟨h d (by simp),wF λe he=>h e (by simp [he])⟩
theorem Ve{n:Nat}:∀{l:List D},(∀d ∈ l,dpD d<=n)->uK l<=n
 | [],_=>by simp only[uK];lia
 | d::l,h=>by
  have h1:=h d (by simp)
  have h2:=Ve (n:=n) (l:=l) λe he=>h e (by simp [he])
  simp only[uK]
  lia
def LsA(K:oO)(H:Hp)(a:oP)(ds:List D):Prop:=∃xs,H a=sE (.lst xs)/\Iss K H ds xs
theorem LsA.same{K:oO}{H H':Hp}{a:oP}{ds:List D}(h:LsA K H a ds)(e:Same H H'):LsA K H' a ds:=let ⟨xs,h1,h2⟩:=h; ⟨xs,e _ _ h1,Iss.same e _ _ h2⟩
theorem LsA.is{K:oO}{H:Hp}{a:oP}{ds:List D}(h:LsA K H a ds):Is K H (.lst ds) (.ref a):=by
 obtain⟨xs,h1,h2⟩:=h
 simp only[Is]
 exact⟨a,xs,rfl,SqL.of h1,h2⟩
theorem LsA.nil{K:oO}{H:Hp}{a:oP}:LsA K (upd H a (.lst [])) a []:=⟨[],ze,by simp only[Iss]⟩
theorem LsA.snoc{K:oO}{H:Hp}{a:oP}{ds:List D}{d:D}{xs:List V}{v:V}(h1:H a=sE (.lst xs))(h2:Iss K H ds xs)(f:zZ ds)(fd:xv d)(hv:Is K H d v):LsA K (upd H a (.lst (xs ++ [v]))) a (ds ++ [d]) :=
 ⟨_,ze,Iss.append (Iss.updL h1 _ _ f h2) (by simp only[Iss];exact⟨v,[],rfl,Is.updL h1 _ _ fd hv,rfl⟩)⟩
theorem Is.tup{K:oO}{H:Hp}{p:oP}{vs:List V}{ds:List D}(hp:H p=sF)(h:Iss K H ds vs):Is K (upd H p (.tup vs)) (.tup ds) (.ref p):=by
 simp only[Is]
 exact⟨p,vs,rfl,SqT.of ze,Iss.same (zf hp) _ _ h⟩
noncomputable abbrev dS(l:List Nat):D:=.str (tx l)
noncomputable abbrev zw:=List Nat × List Nat
noncomputable def dR(r:zw):D:=.tup [dS r.1,dS r.2]
theorem zbe{K:oO}{H:Hp}{r:zw}{v:V}(h:Is K H (dR r) v):∃p,v=.ref p/\SqT K H p [.str (tx r.1),.str (tx r.2)]:=by
 simp only[dR,Is,Iss] at h
 obtain⟨a,xs,e,hs,v1,r1,rfl,rfl,v2,r2,rfl,rfl,rfl⟩:=h
 exact⟨a,e,hs⟩
theorem zbZ{K:oO}{H:Hp}{p:oP}{l m:List Nat}(h:SqT K H p [.str (tx l),.str (tx m)]):Is K H (dR (l,m)) (.ref p):=by
 simp only[dR,Is,Iss]
 exact⟨p,_,rfl,h,_,_,rfl,rfl,_,_,rfl,rfl,rfl⟩
theorem JP(r:zw):xv (dR r):=by simp only[dR,xv,zZ,and_self]
theorem zcu(r:zw):dpD (dR r)<=1:=by simp only[dR,dpD,uK];lia
theorem kq(rs:List zw):zZ (rs.map dR):=wF λd h=>by obtain⟨r,_,rfl⟩:=List.mem_map.mp h;exact JP r
theorem zbn(rs:List zw):uK (rs.map dR)<=1:=Ve λd h=>by obtain⟨r,_,rfl⟩:=List.mem_map.mp h;exact zcu r
noncomputable abbrev N3:=Nat × Nat × Nat
noncomputable def d3(t:N3):D:=.tup [.int (t.1:Nat),.int (t.2.1:Nat),.int (t.2.2:Nat)]
theorem zbF{K:oO}{H:Hp}{t:N3}{v:V}(h:Is K H (d3 t) v):∃p,v=.ref p/\SqT K H p [.int (t.1:Nat),.int (t.2.1:Nat),.int (t.2.2:Nat)]:=by
 simp only[d3,Is,Iss] at h
 obtain⟨a,xs,e,hs,v1,r1,rfl,rfl,v2,r2,rfl,rfl,v3,r3,rfl,rfl,rfl⟩:=h
 exact⟨a,e,hs⟩
theorem K8{K:oO}{H:Hp}{i j k:Nat}:Iss K H [.int (i:Nat),.int (j:Nat),.int (k:Nat)] [.int (i:Nat),.int (j:Nat),.int (k:Nat)]:=by
 simp only[Iss,Is]
 exact⟨_,_,rfl,rfl,_,_,rfl,rfl,_,_,rfl,rfl,rfl⟩
theorem Jn(t:N3):xv (d3 t):=by simp only[d3,xv,zZ,and_self]
theorem YO(rs:List N3):zZ (rs.map d3):=wF λd h=>by obtain⟨r,_,rfl⟩:=List.mem_map.mp h;exact Jn r
theorem Iss.get{K:oO}{H:Hp}{l:List D}{vs:List V}{j:Nat}{v:V}(h:Iss K H l vs)(q:vs[j]? = sE v):∃d,l[j]? = sE d/\Is K H d v:=by
 have hj:=(List.getElem?_eq_some_iff.mp q).1
 have hl:=h.len
 have g1:l[j]? = sE l[j]:=ak (by lia)
 obtain⟨x,hx,ix⟩:=h.at g1
 rw[q] at hx
 cases hx
 exact⟨_,g1,ix⟩
theorem Iss.getR{K:oO}{H:Hp}{rs:List zw}{vs:List V}{j:Nat}{v:V}(h:Iss K H (rs.map dR) vs)(q:vs[j]? = sE v):∃r p,rs[j]? = sE r/\v=.ref p/\SqT K H p [.str (tx r.1),.str (tx r.2)]:=by
 obtain⟨d,e,i⟩:=h.get q
 rw[aH] at e
 obtain⟨r,hr,rfl⟩:=Option.map_eq_some_iff.mp e
 obtain⟨p,e1,e2⟩:=zbe i
 exact⟨r,p,hr,e1,e2⟩
theorem Iss.get3{K:oO}{H:Hp}{rs:List N3}{vs:List V}{j:Nat}{v:V}(h:Iss K H (rs.map d3) vs)(q:vs[j]? = sE v):∃r p,rs[j]? = sE r/\v=.ref p/\SqT K H p [.int (r.1:Nat),.int (r.2.1:Nat),.int (r.2.2:Nat)]:=by
 obtain⟨d,e,i⟩:=h.get q
 rw[aH] at e
 obtain⟨r,hr,rfl⟩:=Option.map_eq_some_iff.mp e
 obtain⟨p,e1,e2⟩:=zbF i
 exact⟨r,p,hr,e1,e2⟩
theorem QU{α:Type}(l:List α){a b:Int}(h0:0<=a)(h1:a<=b):cut l (sE a) (sE b)=(l.drop a.toNat).take (b - a).toNat:=by
 by_cases h2:b<=l.length
 ·exact Z2 l h0 h1 h2
 ·obtain⟨m,rfl⟩:=bD h0
  obtain⟨n,rfl⟩:=bD (by lia:0<=b)
  unfold cut
  rw[HT.sIx_nat,HT.sIx_nat,dA (by lia:l.length<=n)]
  have e:(((n:Nat):Int) - ((m:Nat):Int)).toNat=n - m:=by lia
  have e2:((m:Nat):Int).toNat=m:=rfl
  rw[e,e2,bp (l:=l.drop m) (by rw[ba];lia)]
  by_cases hm:m<=l.length
  ·rw[cy hm,bp (by rw[ba];lia)]
  ·rw[dA (by lia),aY (aq _),aY (by lia),List.take_nil]
theorem VB(ns:List Int){a b:Int}(h0:0<=a)(h1:a<=b):JM (ns.map V.int) (sE a) (sE b)=((ns.drop a.toNat).take (b - a).toNat).map V.int:=by
 have e:JM (ns.map V.int) (sE a) (sE b)=cut (ns.map V.int) (sE a) (sE b):=rfl
 rw[e,QU _ h0 h1,List.map_take,List.map_drop]
end L3
namespace L3
open Classical in
section
variable{X:Cx}{sI:List (oP × pC)}{σ:L2.St}{H:Hp}{s:oR}
open Classical in
end
end L3
namespace L3
structure DM(P:oV)(w:oX)(K:oO)(mg:oW->Option oQ)(base:pb)(CX:CXT)(k:Nat)(C:oP)(m:oW)(ps:List oW)(sp:Sp):Prop where
 ex:∃f fd,zaB K C m f/\yg P w K mg base CX k f fd ps sp/\Binds K fd ps []
structure DMk(P:oV)(w:oX)(K:oO)(mg:oW->Option oQ)(base:pb)(CX:CXT)(k:Nat)(C:oP)(ps:List oW)(sp:Sp):Prop where
 ex:∃f fd,Mk K C f/\yg P w K mg base CX k f fd ps sp/\Binds K fd ps []
section
variable{X:Cx}{k j:Nat}{C:oP}{m:oW}{ps:List oW}{sp:Sp}{o e:oZ}{es:List oZ}{ta:TE}{t:TA}{apos pos p:pR}{x:oW}{E:XK}
theorem me0(D:DM X.prog X.w X.K X.mg X.base CX0 k C m ps sp)(c:Cls X.K C)(hr:Room j X.A)(he:PE X o ta){pl:sw Bool}(ht:eval (.Call (.Attribute o m apos) [] [] pos) X.env=(do
      let ov <- eval o X.env
      standAt apos.atName
      let (f,first) <- holding [ov] (getMethod ov m pl)
      callWith pos f first (pj pos (oM [] X.env)) (pF pos (ph [] X.env))):=by rfl) (hj:k<=j:=by decide):PE X (.Call (.Attribute o m apos) [] [] pos) (ZU C m sp [] E0 ta ww):=by
  obtain⟨f,fd,hm,F,hb⟩:=D.ex
  exact UX he c hm F (hr.mono hj) hb .nil Z4 ht
theorem me1(D:DM X.prog X.w X.K X.mg X.base CX0 k C m ps sp)(c:Cls X.K C)(hr:Room j X.A)(he:PE X o ta)(ha:PA X (e::es) t){pl:sw Bool}
    (hst:oM (e::es) X.env=(sH,eval e X.env)::oM es X.env:=by rfl) (hpl:(pj pos (oM es X.env)).any (·.1)=sH:=by rfl)
    (ht:eval (.Call (.Attribute o m apos) (e::es) [] pos) X.env=(do
      let ov <- eval o X.env
      standAt apos.atName
      let (f,first) <- holding [ov] (getMethod ov m pl)
      callWith pos f first (pj pos (oM (e::es) X.env)) (pF pos (ph [] X.env))):=by rfl) (hj:k<=j:=by decide):PE X (.Call (.Attribute o m apos) (e::es) [] pos) (ZU C m sp [] E0 ta t):=by
  obtain⟨f,fd,hm,F,hb⟩:=D.ex
  exact KK he c hm F (hr.mono hj) hb .nil Z4 ha hst hpl ht
theorem mkC(D:DMk X.prog X.w X.K X.mg X.base CX0 k C ps sp)(hr:Room j X.A)(hg:Gl X x)(hm:X.mg x=sE (.ref C))(ha:PA X (e::es) t)(hdb:(x == ("__debug__" : oW))=sH:=by decide)(he:oM (e::es) X.env=(sH,eval e X.env)::oM es X.env:=by rfl)
  (hpl:(pj pos (oM es X.env)).any (·.1)=sH:=by rfl) (hj:k+1<=j:=by decide):PE X (.Call (.Name x p) (e::es) [] pos) (Us C sp [] E0 t):=by
 obtain⟨f,fd,M,F,hb⟩:=D.ex
 exact Vb M F (hr.mono hj) hg hm hb .nil Z4 ha hdb he hpl
end
end L3
namespace L3
section
variable{X:Cx}
end
section
variable{X:Cx}{k j:Nat}{C:oP}{m:oW}{ps:List oW}{sp:Sp}{o e:oZ}{es:List oZ}{ta:TE}{t:TA}{apos pos p:pR}
end
end L3
namespace L3
def zA(Fam:oP->Prop)(m:oW)(sp:oP->Sp)(dvs:List V)(E:XK)(ta:TE)(t:TA):TE:=λσ H Q=>ta σ H λx H1=>∃C a dx fs,Fam C/\x=.ref a/\H1 a=sE (.ins C dx fs)/\fs.lookup m=sF /\
 t σ H1 λvs H2=>sp C (x::(vs ++ dvs)) H2 Q E
structure DMF(P:oV)(w:oX)(K:oO)(mg:oW->Option oQ)(base:pb)(CX:CXT)(k:Nat)(Fam:oP->Prop)(m:oW)(ps:List oW)(sp:oP->Sp):Prop where
 ex:∀C,Fam C->Cls K C/\DM P w K mg base CX k C m ps (sp C)
section
variable{X:Cx}{k j:Nat}{Fam:oP->Prop}{m:oW}{ps:List oW}{sp:oP->Sp}{o e:oZ}{es:List oZ}{ta:TE}{t:TA}{apos pos p:pR}{x:oW}{E:XK}
theorem zdt(D:DMF X.prog X.w X.K X.mg X.base CX0 k Fam m ps sp)(hr:Room j X.A)(he:PE X o ta){pl:sw Bool}(ht:eval (.Call (.Attribute o m apos) [] [] pos) X.env=(do
      let ov <- eval o X.env
      standAt apos.atName
      let (f,first) <- holding [ov] (getMethod ov m pl)
      callWith pos f first (pj pos (oM [] X.env)) (pF pos (ph [] X.env))):=by rfl) (hj:k<=j:=by decide):PE X (.Call (.Attribute o m apos) [] [] pos) (zA Fam m sp [] E0 ta ww):=by
  intro sI s σ H Q I h
  refine bT (pl:=pl) (thn (he sI s σ H _ I h) λu s1 ⟨x,H1,I1,rx,C,a,dx,fs,fam,ex,ea,l,q⟩=>?_) ht
  subst ex
  obtain rfl:u=Value.ref a:=rx
  obtain⟨c,⟨f,fd,hm,F,hb⟩⟩:=D.ex C fam
  refine xS I1 ea c hm l ?_
  exact e9 (first:=[.ref a]) I1.kIn hm.kp (jH (us:=[.ref a]) (vs:=[.ref a]) F (hr.mono hj) hb .nil Z4 I1 (.cons rfl .nil) q)
theorem K6(D:DMF X.prog X.w X.K X.mg X.base CX0 k Fam m ps sp)(hr:Room j X.A)(he:PE X o ta)(ha:PA X (e::es) t){pl:sw Bool}
    (hst:oM (e::es) X.env=(sH,eval e X.env)::oM es X.env:=by rfl) (hpl:(pj pos (oM es X.env)).any (·.1)=sH:=by rfl)
    (ht:eval (.Call (.Attribute o m apos) (e::es) [] pos) X.env=(do
      let ov <- eval o X.env
      standAt apos.atName
      let (f,first) <- holding [ov] (getMethod ov m pl)
      callWith pos f first (pj pos (oM (e::es) X.env)) (pF pos (ph [] X.env))):=by rfl) (hj:k<=j:=by decide):PE X (.Call (.Attribute o m apos) (e::es) [] pos) (zA Fam m sp [] E0 ta t):=by
  intro sI s σ H Q I h
  refine bT (pl:=pl) (thn (he sI s σ H _ I h) λu s1 ⟨x,H1,I1,rx,C,a,dx,fs,fam,ex,ea,l,q⟩=>?_) ht
  subst ex
  obtain rfl:u=Value.ref a:=rx
  obtain⟨c,⟨f,fd,hm,F,hb⟩⟩:=D.ex C fam
  refine xS I1 ea c hm l ?_
  refine bL (first:=[.ref a]) (h₀:=X.base) I.ok.mod.kin hm.kp (thn (ha pos sI s1 σ H1 _ I1 q) λus s2 ⟨vs,H2,I2,r,q2⟩=>⟨I2.kIn,?_⟩) hst hpl
  exact jH (us:=.ref a::us) (vs:=.ref a::vs) F (hr.mono hj) hb .nil Z4 I2 (.cons rfl r) q2
end
section
variable{X:Cx}
theorem YQ:∀{ns:List Int} {its:List oQ},Vals (ns.map V.int) its->sk its ns
 | [],_,.nil=>.nil
 | n::ns,_,.cons r t=>by
  obtain⟨tk,rfl⟩:=r
  exact .cons n tk (YQ t)
def yC(K:oO):List V->Hp->VK->Prop:=λxs H Q=>∃(p:oP) (ns:List Int),xs=[.ref p]/\SqL K H p (ns.map V.int)/\Q (.int ns.sum) H
theorem zaV(hc:X.calm=sG):vR X (.builtin "sum") (yC X.K):=by
 intro sI s σ H xs us Q I r h
 obtain⟨p,ns,rfl,hS,q⟩:=h
 obtain⟨u,rfl,ru⟩:=wP r
 cases ru
 obtain⟨its,rv,pl,hz⟩:=I.list hS
 have hh:X.A.handled=sF:=I.ok.hd hc
 have ia:=YQ rv
 obtain⟨ps,e⟩:=ia.allInts.items
 have en:ps.toList.map (·.1)=ns:=by
  rw[<- nums_intItems,<- e]
  exact ia.numsOf
 refine sum_intListG hh (by rw[<- e];exact pl.isList) λh' tk t' hk=>?_
 rw[preSum_eq,bp (by simp),en]
 exact⟨.int ns.sum,H,I.kept hk,⟨_,rfl⟩,q⟩
end
end L3
namespace L3
theorem X8(l:List Nat):((Builtin.Str.strSliceIndices sF sF (-1) (tx l).length).filterMap ((tx l).cps[·]?))=l.reverse:=by
 rw[zR,picked_rev]
 have e:(tx l).cps=l.toArray:=rfl
 rw[e]
 apply List.ext_getElem?
 intro i
 have h:((aX l.length).map λk=>l.length - 1 - k).filterMap (l.toArray[·]?)=(aX l.length).map λk=>l.getD (l.length - 1 - k) 0:=by
  rw[filterMap_get,dD]
  ·refine cF λk _=>?_
   show l.toArray.getD (l.length - 1 - k) 0=_
   simp [e7,List.getD]
   split <;> simp_all
  ·intro i hi
   obtain⟨k,hk,rfl⟩:=List.mem_map.mp hi
   have:=List.mem_range.mp hk
   show _<l.toArray.size
   rw[au]
   lia
 rw[h]
 by_cases hi:i<l.length
 ·rw[bx hi,aH,List.getElem?_range hi]
  show sE (l.getD (l.length - 1 - i) 0)=_
  rw[ac,ak (by lia)]
  rfl
 ·rw[bz (by simp;lia),bz (by simp;lia)]
def yD(te ts:TE):TE:=λσ H Q=>te σ H λx H1=>ts σ H1 λy H2=>y=.int (-1)/\∃l:List Nat,x=.str (tx l)/\l.length<=oN/\Q (.str (tx l.reverse)) H2
section
variable{X:Cx}{e st:oZ}{te ts:TE}{pos p2:pR}
theorem J9(he:PE X e te)(hs:PE X st ts):PE X (.Subscript e (.Slice sF sF (sE st) p2) pos) (yD te ts):=by
 intro sI s σ H Q I h
 refine sA (thn (he sI s σ H _ I h) λv s1 ⟨x,H1,I1,r1,q1⟩=>?_)
 refine wpAny_Slice ?_
 rw[evalPart_none]
 refine oJ (oJ ?_)
 rw[evalPart_some]
 refine thn (hs sI s1 σ H1 _ I1 q1) λu s2 ⟨y,H2,I2,r2,ey,l,ex,hl,q2⟩=>?_
 subst ey ex
 obtain⟨t,rfl⟩:=r1
 obtain⟨tk,rfl⟩:=r2
 have I4:Inv X sI σ H2 { s2 with heap:=s2.heap.push { cls:=.type "slice",data:=.fields #[.none,.none,.int (-1) tk] } }:=I2.kept (t':=s2.toks) λb ob q=>aa _ q
 show oS (model X.prog X.w) X.A (rV e (.Slice sF sF (sE st) p2) (.str (tx l) t) (.ref s2.heap.objs.size)) (EP X sI σ Q) X.xe { s2 with heap:=s2.heap.push { cls:=.type "slice",data:=.fields #[.none,.none,.int (-1) tk] } }
 refine tail_any (ops:=[.ref s2.heap.objs.size,.str (tx l) t]) (typeIs_str _ (tx l) t) slot_str_getitem.lookup ?_ (by with_unfolding_all rfl)
 refine rD (l:=sF) (u:=sF) (st:=sE (-1,tk)) (Heap.IsSliceOf.new ..) rfl ?_
 unfold sliceMade slicePicked
 have hc':¬ (((sE ((-1:Int),tk)).map (·.1)).getD 1 == 1 && (Builtin.Str.strSliceIndices ((sF:Option (Int × rB)).map (·.1)) ((sF:Option (Int × rB)).map (·.1)) (((sE ((-1:Int),tk)).map (·.1)).getD 1) (tx l).length).length == (tx l).length)=sG:=by
  have:(((sE ((-1:Int),tk)).map (·.1)).getD 1 == 1)=sH:=rfl
  rw[this]
  simp
 rw[if_neg hc']
 have e:Str.mk ((Builtin.Str.strSliceIndices sF sF (-1) (tx l).length).filterMap ((tx l).cps[·]?)).toArray=tx l.reverse:=by
  rw[X8]
 show (Str.mk ((Builtin.Str.strSliceIndices sF sF (-1) (tx l).length).filterMap ((tx l).cps[·]?)).toArray).length<=oN/\_
 rw[e]
 refine⟨by rw[zR,cq];exact hl,?_⟩
 exact⟨.str (tx l.reverse),H2,I4.tok _,⟨_,by
  show Value.str (Str.mk ((Builtin.Str.strSliceIndices sF sF (-1) (tx l).length).filterMap ((tx l).cps[·]?)).toArray) _=_
  rw[e]⟩,q2⟩
end
end L3
namespace L3
structure zdg(K:oO)(C:oP)(m:oW)(f:oP):Prop where
 sg:cB K (.ref C) "__getattribute__" = sE (sE (.builtin "type.__getattribute__"))
 rd:fA K C (.type "type")=sG
 fc:fB K (.ref C) (.type "type") m=sE (.val (.ref f))
 kp:aj K (.ref f)=sG
structure DC(P:oV)(w:oX)(K:oO)(mg:oW->Option oQ)(base:pb)(CX:CXT)(k:Nat)(C:oP)(m:oW)(ps:List oW)(sp:Sp):Prop where
 ex:∃f fd,zdg K C m f/\yg P w K mg base CX k f fd ps sp/\Binds K fd ps []
section
variable{X:Cx}{k j:Nat}{C:oP}{m x:oW}{ps:List oW}{sp:Sp}{e:oZ}{es:List oZ}{t:TA}{apos pos p:pR}
theorem J4(D:DC X.prog X.w X.K X.mg X.base CX0 k C m ps sp)(hr:Room j X.A)(hg:Gl X x)(hm:X.mg x=sE (.ref C))(ha:PA X (e::es) t){pl:sw Bool}(hdb:(x == ("__debug__" : oW))=sH:=by decide)
    (hst:oM (e::es) X.env=(sH,eval e X.env)::oM es X.env:=by rfl) (hpl:(pj pos (oM es X.env)).any (·.1)=sH:=by rfl)
    (ht:eval (.Call (.Attribute (.Name x p) m apos) (e::es) [] pos) X.env=(do
      let ov <- eval (.Name x p) X.env
      standAt apos.atName
      let (f,first) <- holding [ov] (getMethod ov m pl)
      callWith pos f first (pj pos (oM (e::es) X.env)) (pF pos (ph [] X.env))):=by rfl) (hj:k<=j:=by decide):PE X (.Call (.Attribute (.Name x p) m apos) (e::es) [] pos) (qi sp [] E0 t):=by
  obtain⟨f,fd,cm,F,hb⟩:=D.ex
  have hn:PE X (.Name x p) (tC (.ref C)):=xg hg hm rfl hdb
  intro sI s σ H Q I h
  refine bT (pl:=pl) (thn (hn sI s σ H (λy H1=>y=.ref C/\H1=H) I ⟨rfl,rfl⟩) λu s1 ⟨y,H1,I1,ry,ey,eH⟩=>?_) ht
  subst ey eH
  obtain rfl:u=Value.ref C:=ry
  refine PySem.W.method_cls I1.kIn cm.sg (PySem.W.cls_value I1.kIn cm.rd cm.fc rfl ?_)
  refine bL (first:=[]) (h₀:=X.base) I.ok.mod.kin cm.kp (thn (ha pos sI _ σ H1 _ (I1.tok _) h) λus s2 ⟨vs,H2,I2,r,q2⟩=>⟨I2.kIn,?_⟩) hst hpl
  exact jH (us:=us) (vs:=vs) F (hr.mono hj) hb .nil Z4 I2 r q2
def zy:V->List V->Hp->VK->Prop:=λx xs H Q=>∃(z y:oW) (i:Nat),x=.str z/\xs=[.str y]/\PySem.Txt.find z y=(i:Int)/\Q (.int (i:Nat)) H
theorem KB:MtR X "str.index" zy:=by
 intro sI s σ H x xs v us Q I rx rv h
 obtain⟨z,y,i,rfl,rfl,hf,q⟩:=h
 obtain⟨t,rfl⟩:=rx
 obtain⟨u,rfl,t',rfl⟩:=wP rv
 unfold PySem.Txt.find at hf
 cases ho:Builtin.Str.occurrences z y 0 z.length 1 with
 | nil=>rw[ho] at hf;dsimp only at hf;lia
 | cons a r =>
  rw[ho] at hf
  have:a=i:=by dsimp only at hf;lia
  subst this
  exact PySem.SC.index ho ⟨.int _,H,I.tok _,⟨_,rfl⟩,q⟩
end
end L3
namespace L3
section
variable{prog:oV}{w:oX}{A:oY}{E:oQ->oR->Prop}{s:oR}
theorem w8{h h':pb}{a:oP}{ty:String}{x:oW}{t:rB}{i:Nat}(y:h.IsStrIter a ty x t i)(e:∀o,h.get? a=sE o->h'.get? a=sE o):h'.IsStrIter a ty x t i:=let ⟨o,ho,r⟩:=y; ⟨o,e o ho,r⟩
theorem vC{h h':pb}{a t:oP}{i:Nat}(y:h.IsTupleIter a t i)(e:∀o,h.get? a=sE o->h'.get? a=sE o):h'.IsTupleIter a t i:=let ⟨o,ho,r⟩:=y; ⟨o,e o ho,r⟩
theorem Jc{h h':pb}{a:oP}{xs:Array oQ}(y:h.IsTuple a xs)(e:∀o,h.get? a=sE o->h'.get? a=sE o):h'.IsTuple a xs:=let ⟨o,ho,r⟩:=y; ⟨o,e o ho,r⟩
theorem sit(x:oW):pq x="str_ascii_iterator"\/pq x="str_iterator":=by
 unfold pq
 split
 ·exact .inl rfl
 ·exact .inr rfl
theorem qm{it:oP}{x:oW}{t:rB}{i c:Nat}{Q:oQ->oR->Prop}(hit:s.heap.IsStrIter it (pq x) x t i)(hx:x.cps[i]? = sE c)
  (hQ:∀h',h'.IsStrIter it (pq x) x t (i+1)->Heap.SameBut it s.heap h'->Q (.str ⟨#[c]⟩ s.toks) { s with heap:=h',toks:=s.toks+1 }) :
  oS (model prog w) A (Builtin.SmallTypes.nextOf (.ref it)) Q E s:=by
 rcases sit x with e | e
 ·rw[e] at hit hQ
  exact wpAny_nextOf_ascii_item hit hx hQ
 ·rw[e] at hit hQ
  exact wpAny_nextOf_wide_item hit hx hQ
theorem jg{it:oP}{x:oW}{t:rB}{i:Nat}{Q:oQ->oR->Prop}(hh:A.handled=sF)(hit:s.heap.IsStrIter it (pq x) x t i)(hx:x.cps[i]? = sF)
  (hE:∀h' e,Heap.ExtBut it s.heap h'->(∃o,h'.get? e=sE o/\o.cls=.type "StopIteration")->E (.ref e) { s with heap:=h' }) :
  oS (model prog w) A (Builtin.SmallTypes.nextOf (.ref it)) Q E s:=by
 rcases sit x with e | e
 ·rw[e] at hit
  exact wpAny_nextOf_ascii_end hh hit hx hE
 ·rw[e] at hit
  exact wpAny_nextOf_wide_end hh hit hx hE
theorem qW{it t:oP}{i:Nat}{items:Array oQ}{x:oQ}{Q:oQ->oR->Prop}(hit:s.heap.IsTupleIter it t i)(ht:s.heap.IsTuple t items)(hx:items[i]? = sE x)
  (hQ:∀h',h'.IsTupleIter it t (i+1)->Heap.SameBut it s.heap h'->Q x { s with heap:=h' }) :
  oS (model prog w) A (Builtin.SmallTypes.nextOf (.ref it)) Q E s:=by
 obtain⟨o,ho,hc,hd⟩:=id hit
 obtain⟨ol,hol,_,nl,hdl⟩:=ht
 unfold Builtin.SmallTypes.nextOf
 refine oH (wpAny_callSpecial?_slot (name:=bF "__next__") hit.typeIs F.slot_tuple_iterator_next
  (rE F.slot_tuple_iterator_next hit.typeIs F.entry_tuple_iterator_next ?_ (F.args_tuple_iterator_next_1 _)))
 show oS _ _ (field (.ref it) 0 >>= _) _ _ s
 refine oH (pi ho hd (x:=.ref t) rfl ?_)
 show oS _ _ (if (Value.ref t == Value.none)=sG then _ else _) _ _ s
 rw[if_neg (show ¬ ((Value.ref t == Value.none)=sG) from aG)]
 show oS _ _ (field (.ref it) 1 >>= _) _ _ s
 refine oH (pi ho hd (x:=.int i 0) rfl ?_)
 show oS _ _ (seqItems? (.ref t) >>= _) _ _ s
 refine oH (pG hol hdl ?_)
 simp only[aO,hx]
 refine oH (pO ho hd (by simp) (oJ ⟨x,rfl,oJ (hQ _ ?_ (Heap.SameBut.update ..))⟩))
 exact⟨_,bV _ ho (Obj.isFreed_of_fields (Obj.data_mapFields hd _)),(Obj.cls_mapFields ..).trans hc,by
  rw[Obj.data_mapFields hd];simp [rawInt]⟩
structure zap(z TI TO i1 i2 l2:oP):Prop extends Q9 z TI TO i1 i2 where
 l2z:l2≠z
 l2TO:l2≠TO
 l2i1:l2≠i1
 l2i2:l2≠i2
theorem U7{z TI TO i1 i2 l2:oP}{k c:Nat}{X:oW}{tx:rB}{ys:Array oQ}{y a b:oQ}{Q:oQ->oR->Prop}(D:zap z TI TO i1 i2 l2)
  (hz:rq s.heap z TI TO .none) (hTI:pK s.heap TI (.ref i1) (.ref i2)) (hTO:pK s.heap TO a b)
  (h1:s.heap.IsStrIter i1 (pq X) X tx k) (h2:s.heap.IsTupleIter i2 l2 k) (hl2:s.heap.IsTuple l2 ys) (hx:X.cps[k]? = sE c) (hy:ys[k]? = sE y)
  (hQ:∀h' t',rq h' z TI TO (rawInt s.heap.objs.size)->pK h' TO (.str ⟨#[c]⟩ t') y->h'.IsStrIter i1 (pq X) X tx (k+1)->h'.IsTupleIter i2 l2 (k+1)->pK h' s.heap.objs.size (.str ⟨#[c]⟩ t') y->h'.objs.size=s.heap.objs.size+1 ->
   (∀c o,c≠z->c≠TO->c≠i1->c≠i2->s.heap.get? c=sE o->h'.get? c=sE o)->Q (.ref s.heap.objs.size) { s with heap:=h',toks:=s.toks+1 }) :
  oS (model prog w) A (Builtin.«zip.__next__» ⟨[.ref z],[]⟩) (λfin s'=>∃v,fin=.done (.ret v)/\Q v s') E s:=by
 show oS _ _ (field (.ref z) 2 >>= _) _ _ _
 refine oH (pi hz rfl (x:=.bool sH) rfl ?_)
 show oS _ _ (field (.ref z) 3 >>= _) _ _ _
 refine oH (pi hz rfl (x:=.ref TI) rfl ?_)
 refine oH (pG hTI rfl ?_)
 show oS _ _ (Builtin.SmallTypes.ownedTupleIsFree (.ref z) >>= _) _ _ _
 refine oH ?_
 unfold Builtin.SmallTypes.ownedTupleIsFree
 refine oH (pi hz rfl (x:=.none) rfl (oJ ?_))
 simp only[if_true]
 refine oH (rF ?_)
 refine oH (pi hz rfl (x:=.ref TO) rfl ?_)
 refine oH (pP hz (by simp) λh₁ hz₁ hs₁=>?_)
 replace hz₁:rq h₁ z TI TO .ellipsis:=hz₁
 refine oH ?_
 simp only[List.zipIdx_cons,List.zipIdx_nil,dc,eS]
 refine oH (oH (rS ?_))
 show oS _ _ (Builtin.SmallTypes.nextOf (.ref i1) >>= _) _ _ _
 refine oH (qm (s:={ s with heap:=h₁ }) (w8 h1 λo e=>hs₁.extBut _ _ D.i1z e) hx λh₂ h1₂ hs₂=>oJ ?_)
 have hTO₂:pK h₂ TO a b:=hs₂.extBut _ _ D.TOi1 (hs₁.extBut _ _ D.TOz hTO)
 refine oH (pG hTO₂ rfl ?_)
 refine oH (rL hTO₂ λh₃ hTO₃ hs₃=>?_)
 replace hTO₃:pK h₃ TO (.str ⟨#[c]⟩ s.toks) b:=hTO₃
 refine oH (ra (oJ ?_))
 refine oH (oH (rS ?_))
 show oS _ _ (Builtin.SmallTypes.nextOf (.ref i2) >>= _) _ _ _
 have up3:∀d o,d≠z->d≠i1->d≠TO->s.heap.get? d=sE o->h₃.get? d=sE o:=λd o d1 d2 d3 e=>hs₃.extBut _ _ d3 (hs₂.extBut _ _ d2 (hs₁.extBut _ _ d1 e))
 refine oH (qW (vC h2 λo e=>up3 _ o D.i2z D.i12.symm D.TOi2.symm e) (Jc hl2 λo e=>up3 _ o D.l2z D.l2i1 D.l2TO e) hy λh₄ h2₄ hs₄=>oJ ?_)
 have hTO₄:pK h₄ TO (.str ⟨#[c]⟩ s.toks) b:=hs₄.extBut _ _ D.TOi2 hTO₃
 refine oH (pG hTO₄ rfl ?_)
 refine oH (rL hTO₄ λh₅ hTO₅ hs₅=>?_)
 replace hTO₅:pK h₅ TO (.str ⟨#[c]⟩ s.toks) y:=hTO₅
 refine oH (ra (oJ (oJ ?_)))
 refine oH (pG hTO₅ rfl ?_)
 refine oH (wpAny_newTuple ?_)
 have hsz:h₅.objs.size=s.heap.objs.size:=by rw[hs₅.1,hs₄.1,hs₃.1,hs₂.1,hs₁.1]
 have hz₅:rq h₅ z TI TO .ellipsis:=hs₅.extBut _ _ D.TOz.symm (hs₄.extBut _ _ D.i2z.symm (hs₃.extBut _ _ D.TOz.symm (hs₂.extBut _ _ D.i1z.symm hz₁)))
 have hk₅:∀c o,c≠z->c≠TO->c≠i1->c≠i2->s.heap.get? c=sE o->h₅.get? c=sE o:=λc o c1 c2 c3 c4 e =>
  hs₅.extBut _ _ c2 (hs₄.extBut _ _ c4 (up3 _ _ c1 c3 c2 e))
 have h1₅:h₅.IsStrIter i1 (pq X) X tx (k+1):=w8 h1₂ λo e=>hs₅.extBut _ _ D.TOi1.symm (hs₄.extBut _ _ D.i12 (hs₃.extBut _ _ D.TOi1.symm e))
 have h2₅:h₅.IsTupleIter i2 l2 (k+1):=vC h2₄ λo e=>hs₅.extBut _ _ D.TOi2.symm e
 have hzlt:z<h₅.objs.size:=ay hz₅
 show oS _ _ (Builtin.SmallTypes.ownedTupleHandOut (.ref z) (.ref h₅.objs.size) >>= _) _ _ _
 refine oH ?_
 unfold Builtin.SmallTypes.ownedTupleHandOut
 have hz₆:rq (h₅.push { cls:=.type "tuple",data:=.seq #[.str ⟨#[c]⟩ s.toks,y] }) z TI TO .ellipsis:=aa _ hz₅
 refine oH (pP hz₆ (by simp) λh₇ hz₇ hs₇=>?_)
 replace hz₇:rq h₇ z TI TO (rawInt h₅.objs.size):=hz₇
 refine pP hz₇ (by simp) λh₈ hz₈ hs₈=>?_
 replace hz₈:rq h₈ z TI TO (rawInt h₅.objs.size):=hz₈
 have up:∀c o,c≠z->h₅.get? c=sE o->h₈.get? c=sE o:=λc o c1 e=>hs₈.extBut _ _ c1 (hs₇.extBut _ _ c1 (aa _ e))
 have hT₈:pK h₈ h₅.objs.size (.str ⟨#[c]⟩ s.toks) y:=hs₈.extBut _ _ (bZ hzlt) (hs₇.extBut _ _ (bZ hzlt) (aI _ rfl))
 have hz8:h₈.objs.size=h₅.objs.size+1:=by rw[hs₈.1,hs₇.1,bG]
 rw[hsz] at hz₈ hT₈ hz8
 refine oJ ⟨_,rfl,?_⟩
 show Q (.ref h₅.objs.size) _
 rw[hsz]
 exact hQ h₈ s.toks hz₈ (up _ _ D.TOz hTO₅) (w8 h1₅ λo e=>up _ o D.i1z e) (vC h2₅ λo e=>up _ o D.i2z e) hT₈ hz8 λc o c1 c2 c3 c4 e=>up c o c1 (hk₅ c o c1 c2 c3 c4 e)
theorem Jz{z TI TO i1 i2 l2:oP}{k:Nat}{X:oW}{tx:rB}{a b:oQ}{Q:Fin->oR->Prop}(hh:A.handled=sF)(D:zap z TI TO i1 i2 l2)
  (hz:rq s.heap z TI TO .none) (hTI:pK s.heap TI (.ref i1) (.ref i2)) (hTO:pK s.heap TO a b)
  (h1:s.heap.IsStrIter i1 (pq X) X tx k) (hx:X.cps[k]? = sF)
  (hE:∀h' e,(∀c o,c≠z->c≠TO->c≠i1->c≠i2->s.heap.get? c=sE o->h'.get? c=sE o)->(∃o,h'.get? e=sE o/\o.cls=.type "StopIteration")->E (.ref e) { s with heap:=h' }) :
  oS (model prog w) A (Builtin.«zip.__next__» ⟨[.ref z],[]⟩) Q E s:=by
 show oS _ _ (field (.ref z) 2 >>= _) _ _ _
 refine oH (pi hz rfl (x:=.bool sH) rfl ?_)
 show oS _ _ (field (.ref z) 3 >>= _) _ _ _
 refine oH (pi hz rfl (x:=.ref TI) rfl ?_)
 refine oH (pG hTI rfl ?_)
 show oS _ _ (Builtin.SmallTypes.ownedTupleIsFree (.ref z) >>= _) _ _ _
 refine oH ?_
 unfold Builtin.SmallTypes.ownedTupleIsFree
 refine oH (pi hz rfl (x:=.none) rfl (oJ ?_))
 simp only[if_true]
 refine oH (rF ?_)
 refine oH (pi hz rfl (x:=.ref TO) rfl ?_)
 refine oH (pP hz (by simp) λh₁ hz₁ hs₁=>?_)
 replace hz₁:rq h₁ z TI TO .ellipsis:=hz₁
 refine oH ?_
 simp only[List.zipIdx_cons,List.zipIdx_nil,dc,eS]
 refine oH (oH (rS ?_))
 show oS _ _ (Builtin.SmallTypes.nextOf (.ref i1) >>= _) _ _ _
 refine oH (jg (s:={ s with heap:=h₁ }) hh (w8 h1 λo e=>hs₁.extBut _ _ D.i1z e) hx λh₂ e hs₂ he=>?_)
 obtain⟨oe,hoe,hce⟩:=he
 have hz₂:rq h₂ z TI TO .ellipsis:=hs₂ _ _ D.i1z.symm hz₁
 have hez:e≠z:=λx=>by subst x;rw[hz₂] at hoe;cases hoe;simp at hce
 refine pP hz₂ (by simp) λh₃ _ hs₃=>hE h₃ e (λc o c1 _ c3 _ x=>hs₃.extBut _ _ c1 (hs₂ _ _ c3 (hs₁.extBut _ _ c1 x))) ⟨oe,hs₃.extBut _ _ hez hoe,hce⟩
end
end L3
namespace L3
section
variable{prog:oV}{w:oX}{A:oY}{E:oQ->oR->Prop}{s:oR}
theorem qx{z TI TO i1 i2 l2:oP}{k c:Nat}{X:oW}{tx:rB}{ys:Array oQ}{y a b:oQ}{Q:Option oQ->oR->Prop}(D:zap z TI TO i1 i2 l2)
  (hz:rq s.heap z TI TO .none) (hTI:pK s.heap TI (.ref i1) (.ref i2)) (hTO:pK s.heap TO a b)
  (h1:s.heap.IsStrIter i1 (pq X) X tx k) (h2:s.heap.IsTupleIter i2 l2 k) (hl2:s.heap.IsTuple l2 ys) (hx:X.cps[k]? = sE c) (hy:ys[k]? = sE y)
  (hQ:∀h' t',rq h' z TI TO (rawInt s.heap.objs.size)->pK h' TO (.str ⟨#[c]⟩ t') y->h'.IsStrIter i1 (pq X) X tx (k+1)->h'.IsTupleIter i2 l2 (k+1)->pK h' s.heap.objs.size (.str ⟨#[c]⟩ t') y->h'.objs.size=s.heap.objs.size+1 ->
   (∀c o,c≠z->c≠TO->c≠i1->c≠i2->s.heap.get? c=sE o->h'.get? c=sE o)->Q (sE (.ref s.heap.objs.size)) { s with heap:=h',toks:=s.toks+1 }) :
  oS (model prog w) A (pyNext (.ref z)) Q E s:=by
 have hT:s.TypeIs (.ref z) "zip":=⟨_,hz,rfl⟩
 unfold pyNext
 exact oH (rf (wpAny_callSpecial?_slot (name:=bF "__next__") hT F.slot_zip_next
  (rE F.slot_zip_next hT F.entry_zip_next
   (U7 D hz hTI hTO h1 h2 hl2 hx hy λh' t' a1 a2 a3 a4 a5 a6 a7=>oJ (hQ h' t' a1 a2 a3 a4 a5 a6 a7)) (F.args_zip_next_1 _))))
theorem je{z TI TO i1 i2 l2:oP}{k:Nat}{X:oW}{tx:rB}{a b:oQ}{Q:Option oQ->oR->Prop}(hh:A.handled=sF)(D:zap z TI TO i1 i2 l2)
  (hz:rq s.heap z TI TO .none) (hTI:pK s.heap TI (.ref i1) (.ref i2)) (hTO:pK s.heap TO a b)
  (h1:s.heap.IsStrIter i1 (pq X) X tx k) (hx:X.cps[k]? = sF)
  (hQ:∀h',(∀c o,c≠z->c≠TO->c≠i1->c≠i2->s.heap.get? c=sE o->h'.get? c=sE o)->Q sF { s with heap:=h' }):oS (model prog w) A (pyNext (.ref z)) Q E s:=by
 have hT:s.TypeIs (.ref z) "zip":=⟨_,hz,rfl⟩
 unfold pyNext
 refine oH (rf (wpAny_callSpecial?_slot (name:=bF "__next__") hT F.slot_zip_next
  (rE F.slot_zip_next hT F.entry_zip_next (Jz hh D hz hTI hTO h1 hx λh' e hk he=>?_) (F.args_zip_next_1 _))))
 obtain⟨o,ho,hc⟩:=he
 refine oH (wpAny_isInstance (T:="StopIteration") (b:=sG) ⟨o,ho,hc⟩ isSubtype_stop ?_)
 exact oJ (hQ _ hk)
end
noncomputable abbrev zbp(h:pb)(x:oW)(t:rB):pb:=h.push { cls:=.type (pq x),data:=.fields #[.str x t,.int 0 0] }
noncomputable abbrev zbv(h:pb)(x:oW)(t:rB)(l2:oP):pb:=(zbp h x t).push { cls:=.type "tuple_iterator",data:=.fields #[.ref l2,.int 0 0] }
noncomputable abbrev zbt(h:pb)(x:oW)(t:rB)(l2:oP):pb:=(zbv h x t l2).push { cls:=.type "tuple",data:=.seq #[.ref h.objs.size,.ref (zbp h x t).objs.size] }
noncomputable abbrev zbs(h:pb)(x:oW)(t:rB)(l2:oP):pb:=(zbt h x t l2).push { cls:=.type "tuple",data:=.seq #[.none,.none] }
noncomputable abbrev Jt(h:pb)(x:oW)(t:rB)(l2:oP):pb:=(zbs h x t l2).push { cls:=.type "zip",data:=.fields #[.none,.bool sH,.bool sH,.ref (zbv h x t l2).objs.size,.ref (zbt h x t l2).objs.size] }
theorem kG(x:oW)(t:rB)(l2:oP)(ys:Array oQ) :
  Meets (Builtin.«zip.__new__» ⟨[.type "zip",.str x t,.ref l2],[]⟩) (λ_ R s=>s.heap.IsTuple l2 ys /\
   R (.ok (.ret (.ref (zbs s.heap x t l2).objs.size))) { s with heap:=Jt s.heap x t l2 }) :=
 .of_wp λprog w A R s h=>by
  obtain⟨hp,g,d,tk,os⟩:=s;obtain⟨hl2,h⟩:=h
  have hsub:=sub_zip
  have hL2:Heap.IsTuple (Shared.heap ⟨hp.push { cls:=.type (pq x),data:=.fields #[.str x t,.int 0 0] },g,d,tk,os⟩) l2 ys:=Jc hl2 λo e=>aa _ e
  wp_walk using wpAny_pyIter_strU (s:=⟨hp,g,d,tk,os⟩) (x:=x) (t:=t),rX hL2
  exact⟨_,rfl,h⟩
section
variable{prog:oV}{w:oX}{A:oY}{E:oQ->oR->Prop}{s:oR}
theorem Qd{x:oW}{t:rB}{l2:oP}{ys:Array oQ}{Q:oQ->oR->Prop}(hl2:s.heap.IsTuple l2 ys)
  (h:∀h',rq h' (s.heap.objs.size+4) (s.heap.objs.size+2) (s.heap.objs.size+3) .none->pK h' (s.heap.objs.size+2) (.ref s.heap.objs.size) (.ref (s.heap.objs.size+1)) ->
   pK h' (s.heap.objs.size+3) .none .none->h'.IsStrIter s.heap.objs.size (pq x) x t 0->h'.IsTupleIter (s.heap.objs.size+1) l2 0->h'.objs.size=s.heap.objs.size+5 ->
   (∀c o,s.heap.get? c=sE o->h'.get? c=sE o)->Q (.ref (s.heap.objs.size+4)) { s with heap:=h' }) :
  oS (model prog w) A (call (.type "zip") [.str x t,.ref l2]) Q E s:=by
 refine callType_new F.called_zip (by decide) (F.typeCall_zip_2 _ _) (F.newCall_zip_2 _ _) (λobj=>F.args_object_init_3 obj _ _) F.entry_zip_new
  (kG x t l2 ys) ⟨hl2,?_⟩
 have z1:(zbp s.heap x t).objs.size=s.heap.objs.size+1:=bG ..
 have z2:(zbv s.heap x t l2).objs.size=s.heap.objs.size+2:=by rw[bG,z1]
 have z3:(zbt s.heap x t l2).objs.size=s.heap.objs.size+3:=by rw[bG,z2]
 have z4:(zbs s.heap x t l2).objs.size=s.heap.objs.size+4:=by rw[bG,z3]
 have z5:(Jt s.heap x t l2).objs.size=s.heap.objs.size+5:=by rw[bG,z4]
 have g5:(Jt s.heap x t l2).get? (zbs s.heap x t l2).objs.size=sE _:=aI _ rfl
 have g4:(Jt s.heap x t l2).get? (zbt s.heap x t l2).objs.size=sE _:=aa _ (aI _ rfl)
 have g3:(Jt s.heap x t l2).get? (zbv s.heap x t l2).objs.size=sE _:=aa _ (aa _ (aI _ rfl))
 have g2:(Jt s.heap x t l2).get? (zbp s.heap x t).objs.size=sE _:=aa _ (aa _ (aa _ (aI _ rfl)))
 have g1:(Jt s.heap x t l2).get? s.heap.objs.size=sE _:=aa _ (aa _ (aa _ (aa _ (aI _ rfl))))
 show _/\_
 rw[z2,z3,z4] at g5
 rw[z1,z2] at g3
 rw[z3] at g4
 rw[z1] at g2
 rw[z4]
 exact⟨⟨_,g5,rfl⟩,h _ g5 g3 g4 ⟨_,g1,rfl,rfl⟩ ⟨_,g2,rfl,rfl⟩ z5 λc o x =>
  aa _ (aa _ (aa _ (aa _ (aa _ x))))⟩
end
end L3
namespace L3
noncomputable def Izs(K:oO)(l:List Nat)(b:oP):It:=⟨λi H=>∃ys y,SqT K H b ys/\i<l.length/\ys[i]? = sE y,λi H v H'=>∃p c y,H p=sF/\l[i]? = sE c/\(∀ys,SqT K H b ys->ys[i]? = sE y)/\v=.ref p/\H'=upd H p (.tup [.str (tx [c]),y]),λi H=>i=l.length⟩
def ZSt(z TI TO i1 i2:oP)(X:oW)(t:rB)(l2:oP)(i:Nat)(h:pb):Prop:=rq h z TI TO .none/\pK h TI (.ref i1) (.ref i2)/\(∃a b,pK h TO a b)/\h.IsStrIter i1 (pq X) X t i/\h.IsTupleIter i2 l2 i
theorem U5{P:oV}{w:oX}{K:oO}{elts:List oZ}{x1:Nat}{tpos:pR}(z TI TO i1 i2 l2:oP)(l:List Nat)(t:rB)(D:zap z TI TO i1 i2 l2) :
  Uh P w K (.Tuple elts x1 tpos) (Izs K l l2) [z,TI,TO,i1,i2] z (λi h=>ZSt z TI TO i1 i2 (tx l) t l2 i h) where
 mem:=by simp
 obj:=λi h st b hb=>by
  obtain⟨hz,hTI,⟨a,c,hTO⟩,⟨o1,e1,c1,d1⟩,⟨o2,e2,c2,d2⟩⟩:=st
  simp only[dw,ef,or_false] at hb
  rcases hb with rfl | rfl | rfl | rfl | rfl
  ·exact⟨_,hz,λv q=>by have q':Data.fields _=Data.cell v:=q;cases q'⟩
  ·exact⟨_,hTI,λv q=>by have q':Data.seq _ _=Data.cell v:=q;cases q'⟩
  ·exact⟨_,hTO,λv q=>by have q':Data.seq _ _=Data.cell v:=q;cases q'⟩
  ·exact⟨o1,e1,λv q=>by rw[d1] at q;cases q⟩
  ·exact⟨o2,e2,λv q=>by rw[d2] at q;cases q⟩
 keep:=λi h h' st k=>by
  obtain⟨hz,hTI,⟨a,c,hTO⟩,h1,h2⟩:=st
  exact⟨k z (by simp) _ hz,k TI (by simp) _ hTI,⟨a,c,k TO (by simp) _ hTO⟩,w8 h1 λo e=>k i1 (by simp) o e,vC h2 λo e=>k i2 (by simp) o e⟩
 item:=by
  intro X hP hw hK hc i sI s σ H E I hf st hg
  subst hP hw hK
  obtain⟨ys,y,hqy,hi,hy⟩:=hg
  obtain⟨its2,rv2,p2,_⟩:=I.tuple hqy
  obtain⟨u2,hu2,ru2⟩:=rv2.get hy
  obtain⟨hz,hTI,⟨a,b,hTO⟩,h1,h2⟩:=st
  have hl2:s.heap.IsTuple l2 its2.toArray:=p2
  have hx:(tx l).cps[i]? = sE l[i]:=by
   show l.toArray[i]? = _
   simp [hi]
  refine qx D hz hTI hTO h1 h2 hl2 hx (y:=u2) (by simpa using hu2) λh' t' a1 a2 a3 a4 a5 a6 hk=>?_
  refine⟨_,rfl,wpAny_letOwnedTupleGo_zip (s:={ s with heap:=h',toks:=s.toks+1 }) a1 λh2' hz2 sb=>?_⟩
  have zlt:z<s.heap.objs.size:=ay hz
  have TIlt:TI<s.heap.objs.size:=ay hTI
  have TOlt:TO<s.heap.objs.size:=ay hTO
  have i1lt:i1<s.heap.objs.size:=by obtain⟨o,e,_⟩:=h1;exact ay e
  have i2lt:i2<s.heap.objs.size:=by obtain⟨o,e,_⟩:=h2;exact ay e
  have I1:Inv X sI σ H { s with heap:=h2',toks:=s.toks+1 }:=Inv.turns (fp:=[z,TI,TO,i1,i2]) I (λb o hb q=>by
   have hb':b≠z/\b≠TI/\b≠TO/\b≠i1/\b≠i2:=by simpa using hb
   exact (sb.2 b hb'.1).trans (hk b o hb'.1 hb'.2.2.1 hb'.2.2.2.1 hb'.2.2.2.2 q)) hf
  have hp:H s.heap.objs.size=sF:=I.hok.fresh (aq _)
  have hT2:h2'.get? s.heap.objs.size=sE { cls:=.type "tuple",data:=.seq #[.str ⟨#[l[i]]⟩ t',u2] }:=(sb.2 _ (bZ zlt)).trans a5
  have ru1:RelV (.str (tx [l[i]])) (.str ⟨#[l[i]]⟩ t'):=⟨t',rfl⟩
  have I2:Inv X sI σ (upd H s.heap.objs.size (.tup [.str (tx [l[i]]),y])) { s with heap:=h2',toks:=s.toks+1 } :=
   Inv.track I1 (I.fpOk (aq _) hp) ⟨by show 2<=oN;decide,[.str ⟨#[l[i]]⟩ t',u2],.cons ru1 (.cons ru2 .nil),⟨_,hT2,rfl,_,rfl⟩⟩
  refine⟨.ref s.heap.objs.size,_,I2,rfl,⟨s.heap.objs.size,l[i],y,hp,by simp [hi],λzs hz'=>by rw[I.tuple_inj hz' hqy];exact hy,rfl,rfl⟩,⟨hz2,(sb.2 _ D.TIz).trans (hk _ _ D.TIz D.TITO D.TIi1 D.TIi2 hTI),⟨_,_,(sb.2 _ D.TOz).trans a2⟩,w8 a3 λo e=>(sb.2 _ D.i1z).trans e,vC a4 λo e=>(sb.2 _ D.i2z).trans e⟩,λb hb=>?_⟩
  rw[zo]
  ·exact (hf b hb).1
  ·simp only[dw,ef,or_false] at hb
   rcases hb with rfl | rfl | rfl | rfl | rfl <;> exact aF (by assumption)
 done:=by
  intro X hP hw hK hc i sI s σ H E I hf st hg
  subst hP hw hK
  have hi:i=l.length:=hg
  obtain⟨hz,hTI,⟨a,b,hTO⟩,h1,h2⟩:=st
  refine je (I.ok.hd hc) D hz hTI hTO h1 ?_ λh' hk=>⟨rfl,?_⟩
  ·show l.toArray[i]? = sF
   simp [hi]
  ·exact Inv.turns (fp:=[z,TI,TO,i1,i2]) (t':=s.toks) I (λb o hb q=>by
    have hb':b≠z/\b≠TI/\b≠TO/\b≠i1/\b≠i2:=by simpa using hb
    exact hk b o hb'.1 hb'.2.2.1 hb'.2.2.2.1 hb'.2.2.2.2 q) hf
 self:=λA i s Q E st h=>sq st.1 h
section
variable{X:Cx}
def iZs(K:oO)(ta:TA):TI:=λσ H R=>ta σ H λvs H1=>∃l b,vs=[.str (tx l),.ref b]/\(∃ys,SqT K H1 b ys)/\R (Izs K l b) H1
theorem zaJ{a b:oZ}{ta:TA}{p pos tpos:pR}{elts:List oZ}{x1:Nat}(hg:Gl X "zip")(hm:X.mg "zip" = sF)(ha:PA X [a,b] ta)(hs:oM [a,b] X.env=(sH,eval a X.env)::oM [b] X.env:=by rfl)
  (hpl:(pj pos (oM [b] X.env)).any (·.1)=sH:=by rfl):PI X (.Tuple elts x1 tpos) (.Call (.Name "zip" p) [a,b] [] pos) (iZs X.K ta):=by
 intro sI s σ H R I h
 refine Call_ (vd I hg hm PyProof.Rows.boot_zip (bB (thn (ha pos sI s σ H _ I h) λus s1 ⟨vs,H1,I1,r1,q1⟩=>?_) hs hpl))
 obtain⟨l,l2,e,⟨ys,hqy⟩,q⟩:=q1
 subst e
 obtain⟨u1,u2,rfl,ru1,ru2⟩:=Wz r1
 obtain⟨t,rfl⟩:=ru1
 cases ru2
 obtain⟨its2,rv2,p2,_⟩:=I1.tuple hqy
 have hl2:s1.heap.IsTuple l2 its2.toArray:=p2
 have l2lt:l2<s1.heap.objs.size:=by obtain⟨o,e,_⟩:=hl2;exact ay e
 have ne:∀a b:Nat,a≠b->s1.heap.objs.size+a≠s1.heap.objs.size+b:=λa b h e=>h (Nat.add_left_cancel e)
 have nl:∀a:Nat,l2≠s1.heap.objs.size+a:=λa=>aF (aB l2lt (cu _ _))
 refine Qd hl2 λh' hz hTI hTO h1 h2 hsz kk=>?_
 have I2:Inv X sI σ H1 { s1 with heap:=h' }:=I1.kept (t':=s1.toks) kk
 refine sq (s:={ s1 with heap:=h' }) hz ?_
 refine⟨s1.heap.objs.size+4,[s1.heap.objs.size+4,s1.heap.objs.size+2,s1.heap.objs.size+3,s1.heap.objs.size,s1.heap.objs.size+1],_,_,H1,rfl,I2,U5 (s1.heap.objs.size+4) (s1.heap.objs.size+2) (s1.heap.objs.size+3) s1.heap.objs.size (s1.heap.objs.size+1) l2 l t ⟨⟨ne 2 4 (by decide),ne 3 4 (by decide),ne 0 4 (by decide),ne 1 4 (by decide),ne 2 3 (by decide),ne 2 0 (by decide),ne 2 1 (by decide),ne 3 0 (by decide),ne 3 1 (by decide),ne 0 1 (by decide)⟩,nl 4,nl 3,nl 0,nl 1⟩,⟨hz,hTI,⟨_,_,hTO⟩,h1,h2⟩,λb hb=>?_,q⟩
 have hb':s1.heap.objs.size<=b:=by
  simp only[dw,ef,or_false] at hb
  rcases hb with e | e | e | e | e
  ·rw[e];exact cu _ _
  ·rw[e];exact cu _ _
  ·rw[e];exact cu _ _
  ·rw[e];exact aq _
  ·rw[e];exact cu _ _
 exact I1.fpOk hb' (I1.hok.fresh hb')
end
def CompZ(K:oO)(l:List Nat)(b:oP)(g:TG)(tt:TT)(te:TE)(own:Nat)(ix:List Nat)(σ:L2.St)(H1:Hp)(Q:VK)(D:oP):Prop:=Yr (Izs K l b) g tt te own ix σ H1 Q D
theorem zJ{K:oO}{ta:TA}{g:TG}{tt:TT}{te:TE}{own:Nat}{ix:List Nat}{σ:L2.St}{H:Hp}{Q:VK}:jf (iZs K ta) g tt te own ix σ H Q=ta σ H λvs H1=>∃l b,vs=[.str (tx l),.ref b]/\(∃ys,SqT K H1 b ys)/\∀D,H1 D=sF->CompZ K l b g tt te own ix σ H1 Q D:=rfl
section
variable{g:TG}{tt:TT}{te:TE}{own:Nat}{ix:List Nat}{σ:L2.St}{H1:Hp}{Q:VK}{D:oP}
theorem CompZ.by{K:oO}{l:List Nat}{b:oP}{ys:List V}(Pv:Nat->List V->Hp->Prop)(hlen:l.length=ys.length)(h0:Pv 0 [] (upd H1 D (.lst [])))(hl:∀i sK H',i<=l.length->Pv i sK H'->SqT K H' b ys)
  (hs:∀i c y sK H' p,l[i]? = sE c->ys[i]? = sE y->Pv i sK H'->H' p=sF->g (.ref p) (wZ σ own ix) (upd H' p (.tup [.str (tx [c]),y])) λσ3 H3=>xa (wZ σ own ix) σ3/\tt σ3 H3 λb H4=>if b=sG then
   te σ3 H4 λv H5=>H5 D=sE (.lst sK)/\sK.length<oN/\CNx l.length i Pv (sK ++ [v]) (upd H5 D (.lst (sK ++ [v]))) else CNx l.length i Pv sK H4)
  (hd:∀sK H',Pv l.length sK H'->Q (.ref D) H'):CompZ K l b g tt te own ix σ H1 Q D:=by
 refine⟨λi m sK H=>m=l.length - i/\i<=l.length/\Pv i sK H,⟨l.length,by simp,aJ _,h0⟩,?_⟩
 rintro i m sK H' ⟨rfl,hi,p⟩
 have q:=hl i sK H' hi p
 by_cases hlt:i<l.length
 ·refine .inr ⟨⟨ys,ys[i],q,hlt,by simp [<- hlen,hlt]⟩,λx H2 y=>?_⟩
  obtain⟨p',c,y,hp,hc,hy,ev,eH⟩:=y
  subst ev eH
  exact hs i c y sK H' p' hc (hy ys q) p hp
 ·have e:i=l.length:=by lia
  subst e
  exact .inl ⟨rfl,hd sK H' p⟩
end
end L3
namespace L3
section
variable{X:Cx}{k1 k2 k3 j:Nat}{C1 C2 C3:oP}{m:oW}{ps:List oW}{s1 s2 s3:Sp}{o e:oZ}{es:List oZ}{ta:TE}{t:TA}{apos pos p:pR}{E:XK}
def yy(t1 t2:TE):TE:=λσ H Q=>t1 σ H Q\/t2 σ H Q
theorem Jd{t1 t2:TE}(h1:PE X e t1)(h2:PE X e t2):PE X e (yy t1 t2):=by
 intro sI s σ H Q I h
 rcases h with h | h
 ·exact h1 sI s σ H Q I h
 ·exact h2 sI s σ H Q I h
theorem zaC(D1:DM X.prog X.w X.K X.mg X.base CX0 k1 C1 m ps s1)(D2:DM X.prog X.w X.K X.mg X.base CX0 k2 C2 m ps s2)(D3:DM X.prog X.w X.K X.mg X.base CX0 k3 C3 m ps s3)(c1:Cls X.K C1)(c2:Cls X.K C2)(c3:Cls X.K C3)(hr:Room j X.A)(he:PE X o ta)(ha:PA X (e::es) t){pl:sw Bool}
    (hst:oM (e::es) X.env=(sH,eval e X.env)::oM es X.env:=by rfl) (hpl:(pj pos (oM es X.env)).any (·.1)=sH:=by rfl)
    (ht:eval (.Call (.Attribute o m apos) (e::es) [] pos) X.env=(do
      let ov <- eval o X.env
      standAt apos.atName
      let (f,first) <- holding [ov] (getMethod ov m pl)
      callWith pos f first (pj pos (oM (e::es) X.env)) (pF pos (ph [] X.env))):=by rfl) (h1:k1<=j:=by decide) (h2:k2<=j:=by decide) (h3:k3<=j:=by decide) :
    PE X (.Call (.Attribute o m apos) (e::es) [] pos) (yy (ZU C1 m s1 [] E0 ta t) (yy (ZU C2 m s2 [] E0 ta t) (ZU C3 m s3 [] E0 ta t))) :=
  Jd (me1 (pl:=pl) D1 c1 hr he ha hst hpl ht h1) (Jd (me1 (pl:=pl) D2 c2 hr he ha hst hpl ht h2) (me1 (pl:=pl) D3 c3 hr he ha hst hpl ht h3))
end
end L3
namespace L3
section
variable{X:Cx}
end
end L3
namespace L3
section
variable{X:Cx}
end
end L3
namespace L3
open PySem PySem.Spec PyProof.Rows L2 PySem.W PySem.Calls
def uu(n:Int):Prop:=Builtin.Int.intBits n<=1048576
theorem QN:∀(ns:List Int),WData.weightAll (ns.map WData.int)<=1048576->∀n ∈ ns,uu n
 | [],_,n,h=>nomatch h
 | m::ns,hw,n,h=>by
  rw[az,WData.weightAll] at hw
  rcases List.mem_cons.mp h with rfl | h
  ·have e:WData.weight (.int n)=Builtin.Int.intBits n:=by
    rw[WData.weight]
    rfl
   unfold uu
   lia
  ·exact QN ns (by lia) n h
section
variable{X:Cx}
theorem UZ{i j:Int}(hi:uu i)(hj:uu j):IntMulOk i j:=by
 unfold IntMulOk Builtin.Int.intTooBig
 unfold uu at hi hj
 have:(bitsLine:Nat)=134217728:=rfl
 simp
 intro _ _
 lia
theorem UB:OpR X (binaryOp .Mult) (rI (λi j=>uu i/\uu j) λi j=>.int (i * j)):=opI λ_ _ _ _ _ _ _ hc q=>mul_int q (UZ hc.1 hc.2)
end
theorem Zn{l:OpenLaw}{n:Nat}{q:oV}{loose:List oW}{XP:(oW->Option oQ)->pb->Prop}{YP:oX->pb->Prop}{d:DefRec}
  (hn:l.most=sE n) (hdf:d.params.defaults=[])
  (call:∀(w:oX) (s₀ s₁:oR) (mg mb:oW->Option oQ) (fa:oP) (o:pC) (pm cd doc:oQ) (a:oP) (vs:List oQ) (ns:List Int),
   Ground q loose [] XP w s₀ mg mb s₁.heap->YP w s₁.heap ->
   s₁.heap.get? fa=sE o->o.data=.func (docDef d.name d.params d.body d.scope pm cd doc)->s₁.heap.CodeRec cd d.name->mg d.name=sE (.ref fa) ->
   s₁.heap.get? a=sE { cls:=.type "list",data:=.seq vs.toArray }->sk vs ns->ns.length<=n->(∀z ∈ ns,uu z)->s₁.gens=#[] ->
   pN (model l.prog w) callerA (.call (.ref fa) ⟨[.ref a],[]⟩) (λr s'=>r=.ok (.ret (.bool sG))/\OldK s₁.heap s'.heap/\s'.os=s₁.os/\rn s'.gens) s₁) :
  WalkO q loose XP YP l.row.toRowW d [] (λf vs=>fF f vs):=by
 intro w s₀ s₁ mg mb G Y fa o pm cd doc dV kV ho hd hcd hD hmg hg args vals as hpre hlay hrd hwl hlo
 obtain rfl:dV=.none:=Dflts.none hD hdf
 obtain rfl:kV=.none:=Dflts.noKw hD
 obtain⟨a,vs,ns,rfl,rfl,hobj,hints,hlen⟩:=Att.script_of hn hpre hwl
 have hb:∀z ∈ ns,uu z:=by
  refine QN ns ?_
  have h1:WData.layable (WData.list (ns.map WData.int))=sG:=by
   have:=hlay
   unfold WData.layableAll at this
   simpa using this
  unfold WData.layable at h1
  simp only[cE,decide_eq_true_eq] at h1
  have h2:=h1.2
  rw[WData.weight] at h2
  exact h2
 refine enter_call (pW (call w s₀ s₁ mg mb fa o pm cd doc a vs ns G Y ho (fd_plain hd) hcd hmg hobj hints hlen hb hg) λr s' hq=>?_)
 obtain⟨rfl,h2,h3,h4⟩:=hq
 exact⟨.inl ⟨.bool sG,.bool sG,[],rfl,λ_=>rfl,.bool sG,Att.post_true l _,λ_=>⟨List.Pairwise.nil,λ_ hm=>(nomatch hm)⟩⟩,h2,h3,h4⟩
end L3
namespace L3
section
variable{X:Cx}{k j:Nat}{C:oP}{x f':oW}{ps:List oW}{sp:Sp}{e:oZ}{es:List oZ}{t:TA}{te:TX}{pos p:pR}
end
section
variable{X:Cx}{k j:Nat}{C:oP}{m x:oW}{ps:List oW}{sp:Sp}{e:oZ}{es:List oZ}{t:TA}{apos pos p:pR}{E:XK}
end
end L3
namespace L3
section
variable{prog:oV}{w:oX}{A:oY}{E:oQ->oR->Prop}{s:oR}{env:rK}
end
end L3
namespace L3
theorem XEg.xe{X:Cx}{E:XK}(h:XEg X E):XE X E:=λe s ⟨sI,σ,H,x,C,t,dx,tb,q⟩=>h e s ⟨.none,sH,sI,σ,H,x,C,t,dx,tb,q⟩
section
variable{X:Cx}{k:Nat}{ps:List oW}{sp:Sp}{ds:List oQ}{dvs:List V}{E:XK}{x:oW}{p pos:pR}{e:oZ}{es:List oZ}{t:TA}
end
section
variable{X:Cx}{o e:oZ}{to:TE}{te:TX}{name:oW}{apos cpos:pR}{T id:String}{r:V->List V->Hp->VK->Prop}
end
section
variable{X:Cx}
end
section
variable{X:Cx}{k j:Nat}{C:oP}{ps:List oW}{sp:Sp}{e:oZ}{es:List oZ}{t:TA}{pos p:pR}{x:oW}
end
end L3
namespace L3
theorem Yk(x y:oW)(i j:Int)(t u v v':rB):Gives (Builtin.«str.find» ⟨[.str x t,.str y u,.int i v,.int j v'],[]⟩) (.int (match Builtin.Str.occurrences x y (fromIndex x.length i) (min (fromIndex x.length j) x.length) 1 with | k::_=>(k:Int) | []=>-1)):=by
 show Gives (match Builtin.Str.occurrences x y (fromIndex x.length i) (min (fromIndex x.length j) x.length) 1 with | k::_=>retInt k | []=>(do rule "str.find.not-found";retInt (-1))) _
 cases Builtin.Str.occurrences x y (fromIndex x.length i) (min (fromIndex x.length j) x.length) 1 with
 | nil=>exact .rule (.of_eq rfl)
 | cons k _=>exact .of_eq rfl
theorem Yp(x y:oW)(lo hi:Nat) :
  (Builtin.Str.occurrences x y lo hi 1=[]/\∀i,lo<=i->¬ StrLaws.At x y hi i) \/
  ∃i r,Builtin.Str.occurrences x y lo hi 1=i::r/\lo<=i/\StrLaws.At x y hi i/\∀k,lo<=k->k<i->¬ StrLaws.At x y hi k:=by
 rw[StrLaws.occ_eq]
 rcases StrLaws.occ_first x y hi 1 (aq 1) (List.range' lo (hi+1 - lo)) lo (λi hm=>(List.mem_range'_1.mp hm).1) with ⟨e,no⟩ | ⟨pre,a,post,e,e0,at_a,no⟩
 ·exact .inl ⟨by rw[e],λi h1 h2=>no i (by have:=h2.1;rw[List.mem_range'_1];lia) h2⟩
 ·have sp:=StrLaws.range'_split_from e
  generalize (forIn (List.range' lo (hi+1 - lo)) ((#[]:Array Nat),lo) (StrLaws.occBody x y hi 1)).run.fst=z at e0 ⊢
  obtain⟨zs⟩:=z
  cases zs with
  | nil=>simp at e0
  | cons b r =>
   have:b=a:=by simpa using e0
   subst this
   exact .inr ⟨b,r,rfl,sp.1,at_a,λk h1 h2=>no k (sp.2 k h1 h2)⟩
theorem JD(l p:List Nat)(hi i:Nat):StrLaws.At (tx l) (tx p) hi i ↔ i+p.length<=hi/\(l.drop i).take p.length=p:=by
 unfold StrLaws.At Builtin.Str.subAt
 rw[zR,beq_iff_eq]
 have e1:((tx l).cps.extract i (i+p.length)).toList=(l.drop i).take p.length:=by
  show (l.toArray.extract i (i+p.length)).toList=_
  simp [d5]
 have e2:((tx l).cps.extract i (i+p.length)=(tx p).cps) ↔ (l.drop i).take p.length=p:=by
  constructor
  ·intro h
   rw[<- e1,h]
  ·intro h
   apply Array.toList_inj.mp
   rw[e1,h]
 rw[e2]
def QL:V->List V->Hp->VK->Prop:=λx xs H Q=>∃(l p:List Nat) (lo hi:Int),x=.str (tx l)/\xs=[.str (tx p),.int lo,.int hi]/\0<=lo/\0<=hi/\∀r:Int,((r=-1/\∀q:Nat,lo<=q->(q:Int)+p.length<=hi->q+p.length<=l.length->(l.drop q).take p.length≠p)\/∃k:Nat,r=k/\lo<=k/\(k:Int)+p.length<=hi/\k+p.length<=l.length/\(l.drop k).take p.length=p/\∀q:Nat,lo<=q->q<k->(l.drop q).take p.length≠p)->Q (.int r) H
theorem KW{X:Cx}:MtR X "str.find" QL:=by
 intro sI s σ H x xs v us Q I rx rv h
 obtain⟨l,p,lo,hi,rfl,rfl,h0,h1,q⟩:=h
 obtain⟨t,rfl⟩:=rx
 cases rv with
 | cons r1 r2 =>
  cases r2 with
  | cons r2 r3 =>
   obtain⟨w3,rfl,t3,rfl⟩:=wP r3
   obtain⟨t1,rfl⟩:=r1
   obtain⟨t2,rfl⟩:=r2
   have f0:fromIndex (tx l).length lo=lo.toNat:=by unfold fromIndex;rw[if_neg (by lia)];lia
   have f1:fromIndex (tx l).length hi=hi.toNat:=by unfold fromIndex;rw[if_neg (by lia)];lia
   refine call_gives F.slot_str_find (typeIs_str _ _ _) F.entry_str_find (F.args_str_find_4 _ _ _ _) (Yk _ _ lo hi t t1 t2 t3) ?_
   refine⟨.int _,H,I.tok _,⟨_,rfl⟩,q _ ?_⟩
   rw[f0,f1]
   have hm:∀k:Nat,k+p.length<=min hi.toNat (tx l).length ↔ (k:Int)+p.length<=hi/\k+p.length<=l.length:=λk=>by rw[zR];lia
   rcases Yp (tx l) (tx p) lo.toNat (min hi.toNat (tx l).length) with ⟨e,no⟩ | ⟨i,r,e,hl,ha,no⟩
   ·rw[e]
    exact .inl ⟨rfl,λk k1 k2 k3 k4=>no k (by lia) ((JD l p _ k).mpr ⟨(hm k).mpr ⟨k2,k3⟩,k4⟩)⟩
   ·rw[e]
    obtain⟨a1,a2⟩:=(JD l p _ i).mp ha
    obtain⟨b1,b2⟩:=(hm i).mp a1
    exact .inr ⟨i,rfl,by lia,b1,b2,a2,λk k1 k2 k4=>no k (by lia) k2 ((JD l p _ k).mpr ⟨(hm k).mpr ⟨by lia,by lia⟩,k4⟩)⟩
end L3
set_option linter.unusedVariables false
namespace L3
def zb5(l p:List Nat)(r:Int):Prop:=(r=-1/\∀q:Nat,¬ (q+p.length<=l.length/\(l.drop q).take p.length=p))\/∃q:Nat,r=(q:Int)/\q+p.length<=l.length/\(l.drop q).take p.length=p
def zcO:V->List V->Hp->VK->Prop:=λx xs H Q=>∃l p:List Nat,x=.str (tx l)/\xs=[.str (tx p)]/\∀r:Int,zb5 l p r->Q (.int r) H
section
variable{X:Cx}
theorem JL:MtR X "str.find" zcO:=by
 intro sI s σ H x xs v us Q I rx rv h
 obtain⟨l,p,rfl,rfl,q⟩:=h
 refine WO sI s σ H _ _ v us Q I rx rv ⟨_,_,rfl,rfl,q _ ?_⟩
 rcases find_whole (tx l) (tx p) with ⟨h1,h2⟩ | ⟨e,h1,h2,_⟩
 ·exact .inl ⟨h1,λq hq=>h2 q ((JD l p _ q).mpr (by rw[zR];exact hq))⟩
 ·refine .inr ⟨e,h1,?_⟩
  have:=(JD l p _ e).mp h2
  rw[zR] at this
  exact this
theorem UC:MtR X "str.rfind" zcO:=by
 intro sI s σ H x xs v us Q I rx rv h
 obtain⟨l,p,rfl,rfl,q⟩:=h
 obtain⟨t,rfl⟩:=rx
 obtain⟨u,rfl,t',rfl⟩:=wP rv
 refine PySem.SC.rfind ⟨.int _,H,I.tok _,⟨_,rfl⟩,q _ ?_⟩
 rcases rfind_whole (tx l) (tx p) with ⟨h1,h2⟩ | ⟨e,h1,h2,_⟩
 ·exact .inl ⟨h1,λq hq=>h2 q ((JD l p _ q).mpr (by rw[zR];exact hq))⟩
 ·refine .inr ⟨e,h1,?_⟩
  have:=(JD l p _ e).mp h2
  rw[zR] at this
  exact this
end
end L3
namespace L3
section
variable{prog:oV}{w:oX}{A:oY}{R:rQ->oR->Prop}{I l S:oP}
theorem Vj(hh:A.handled=sF)(hlI:l≠I)(hSI:S≠I)(hSl:S≠l)(xs:Array oQ)(val:Nat->Int)(hv:∀i v,xs[i]? = sE v->∃t,v=Value.int (val i) t)(d:oQ) :
  ∀(k j:Nat) (z:Int) (t:rB) (s:oR) (c:Nat),xs.size - j=k->j<=xs.size->(∀i,i<j->val i<=z)->s.heap.IsListIter I l j->s.heap.IsList l xs->s.heap.get? S=sE (pw "list" #[.int z t,.int z t] c) ->
   (∀z' t' h' tk,(∀i,i<xs.size->val i<=z')->(∀b o,b≠I->b≠S->s.heap.get? b=sE o->h'.get? b=sE o)->R (.ok (.ret (.int z' t'))) { s with heap:=h',toks:=tk }) ->
   pN (model prog w) A (.builtin "max.loop" ⟨[.ref I,.none,.ref S],[(bF "default",d)]⟩) R s:=by
 have nm:(toString "max" ++ toString ".loop" : String)="max.loop":=by decide
 have W:=Walks.list (prog:=prog) (w:=w) (A:=A.in1) hh I l hlI xs
 intro k
 induction k with
 | zero =>
  intro j z t s c hk hj hz hit hl hS hR
  have e:j=xs.size:=by lia
  refine pZ (b:=Builtin.«max.loop») du ?_
  rw[Around.under_plainId (id:="max.loop") bH _]
  show oS _ A.in1 (seqItems? (Value.ref S) >>= _) _ _ s
  refine oH (pG (items:=#[.int z t,.int z t]) hS rfl ?_)
  show oS _ A.in1 (tryCatch (pyNext (Value.ref I)) _ >>= _) _ _ s
  refine oH (rb (W.done s _ _ ⟨e ▸ hit,hl⟩ λh' tk kp=>?_))
  have hS':=kp S _ (by simpa using hSI) hS
  show oS _ A.in1 (updateSeq S (λ_=>(#[]:Array oQ)) >>= _) _ _ _
  refine oH (rJ hS' rfl (oH (ra (oJ ?_))))
  exact hR z t _ tk (λi hi=>hz i (by lia)) λb o hb hb' q=>(aL _ _ (Ne.symm hb')).trans (kp b o (by simpa using hb) q)
 | succ k ih =>
  intro j z t s c hk hj hz hit hl hS hR
  refine pZ (b:=Builtin.«max.loop») du ?_
  rw[Around.under_plainId (id:="max.loop") bH _]
  show oS _ A.in1 (seqItems? (Value.ref S) >>= _) _ _ s
  refine oH (pG (items:=#[.int z t,.int z t]) hS rfl ?_)
  show oS _ A.in1 (tryCatch (pyNext (Value.ref I)) _ >>= _) _ _ s
  refine oH (rb (W.item j s _ _ (by lia) ⟨hit,hl⟩ λv h' tk hP st kp=>?_))
  obtain⟨t2,rfl⟩:=hv j v hP
  have hS':=kp S _ (by simpa using hSI) hS
  show oS _ A.in1 (tryCatch (holding [Value.int (val j) t2,Value.int (val j) t2] (richCompare .Gt (.int (val j) t2) (.int z t) >>= _)) _ >>= _) _ _ _
  refine oH (rb (pD (oH (CmpOf.ints_gt (prog:=prog) (w:=w) (A:=A.in1) (P:=λi v=>∃t,v=Value.int (if i=0 then val j else z) t) (λi=>if i=0 then val j else z) (λi v h=>h) 0 1 _ _ _ _ _ ⟨t2,rfl⟩ ⟨t,rfl⟩ ?_))))
  refine oH (pD (pA (oH (ra (oJ ?_)))))
  by_cases g:val j > z
  ·simp only[if_true,Nat.one_ne_zero,if_false,g,decide_true]
   refine oH (rJ hS' rfl (oH (ra ?_)))
   rw[nm]
   refine oJ ⟨plainId_quiet bH _,ih (j+1) (val j) t2 _ _ (by lia) (by lia) (λi hi=>?_) (W.frame _ _ _ st λb hb o q=>?_).1 (W.frame _ _ _ st λb hb o q=>?_).2 (get?_update_seq hS' _) λz' t' h'' tk'' a1 a2=>hR z' t' h'' tk'' a1 λb o hb hb' q=>a2 b o hb hb' ((aL _ _ (Ne.symm hb')).trans (kp b o (by simpa using hb) q))⟩
   ·by_cases e:i=j
    ·rw[e]
     exact dv _
    ·have:=hz i (by lia)
     lia
   all_goals
    refine (aL _ _ (λe:S=b=>?_)).trans q
    subst e
    rcases List.mem_cons.mp hb with e | e
    ·exact hSI e
    ·exact hSl (List.mem_singleton.mp e)
  ·simp only[if_true,Nat.one_ne_zero,if_false,g,decide_false,bM]
   refine oH (ra ?_)
   rw[nm]
   refine oJ ⟨plainId_quiet bH _,ih (j+1) z t _ _ (by lia) (by lia) (λi hi=>?_) st.1 st.2 hS' λz' t' h'' tk'' a1 a2=>hR z' t' h'' tk'' a1 λb o hb hb' q=>a2 b o hb hb' (kp b o (by simpa using hb) q)⟩
   by_cases e:i=j
   ·rw[e]
    lia
   ·exact hz i (by lia)
theorem VX(a v:oQ):argsOk "max" ⟨[a],[(bF "default",v)]⟩:=by unfold argsOk;kernel_rfl
theorem VE{E:oQ->oR->Prop}{s:oR}{Q:oQ->oR->Prop}(hh:A.handled=sF)(xs:Array oQ)(val:Nat->Int)(hv:∀i v,xs[i]? = sE v->∃t,v=Value.int (val i) t)(hl:s.heap.IsList l xs)(d:oQ)
  (h:∀v h' tk,(xs.size=0->v=d)->(0<xs.size->∃z t,v=Value.int z t/\∀i,i<xs.size->val i<=z)->(∀b o,s.heap.get? b=sE o->h'.get? b=sE o)->Q v { s with heap:=h',toks:=tk }) :
  oS (model prog w) A (call (.builtin "max") [.ref l] [(bF "default",d)]) Q E s:=by
 have nm:(toString "max" ++ toString ".loop" : String)="max.loop":=by decide
 have hlt:l<s.heap.objs.size:=by obtain⟨_,e,_⟩:=hl;exact ay e
 refine kmb_tree PySem.F.kind_max PySem.F.plain_max PySem.F.entry_max (VX _ _) ?_
 show oS _ A.in1 (Builtin.Builtins.bindParams "max" ["key","default"] 0 ⟨[],[(bF "default",d)]⟩ >>= _) _ _ s
 refine oH (wpAny_of_eq (show Builtin.Builtins.bindParams "max" ["key","default"] 0 ⟨[],[(bF "default",d)]⟩=pure [sF,sE d] from rfl) (oH (oJ ?_)))
 refine oH (rz hl (oH (rT ?_ (aJ _))))
 rw[nm]
 refine oJ ⟨plainId_quiet bH _,?_⟩
 have gI:(s.heap.push { cls:=.type "list_iterator",data:=.fields #[.ref l,.int 0 0] }).IsListIter s.heap.objs.size l 0:=⟨_,aI _ rfl,rfl,rfl⟩
 have gl:=hl.push { cls:=.type "list_iterator",data:=.fields #[.ref l,.int 0 0] }
 have kp0:∀b o,s.heap.get? b=sE o->(s.heap.push { cls:=.type "list_iterator",data:=.fields #[.ref l,.int 0 0] }).get? b=sE o:=λb o q=>aa _ q
 have hsz:(s.heap.push { cls:=.type "list_iterator",data:=.fields #[.ref l,.int 0 0] }).objs.size=s.heap.objs.size+1:=bG _ _
 have hold:∀b o,s.heap.get? b=sE o->b<s.heap.objs.size:=λb o q=>ay q
 have hlI:l≠s.heap.objs.size:=aF hlt
 generalize s.heap.push { cls:=.type "list_iterator",data:=.fields #[.ref l,.int 0 0] }=h1 at *
 generalize hIe:s.heap.objs.size=I at *
 have W:=Walks.list (prog:=prog) (w:=w) (A:=A.in1) hh I l hlI xs
 have gS:(h1.push { cls:=.type "list",data:=.seq ([]:List oQ).toArray }).get? h1.objs.size=sE (pw "list" #[] 0):=aI _ rfl
 have st0:=W.frame 0 _ (h1.push { cls:=.type "list",data:=.seq ([]:List oQ).toArray }) ⟨gI,gl⟩ λb _ o q=>aa _ q
 have kp1:∀b o,s.heap.get? b=sE o->(h1.push { cls:=.type "list",data:=.seq ([]:List oQ).toArray }).get? b=sE o:=λb o q=>aa _ (kp0 b o q)
 have hSI:h1.objs.size≠I:=by rw[hsz];exact Nat.succ_ne_self I
 have hSl:h1.objs.size≠l:=by rw[hsz];exact bZ (cp hlt)
 have hSb:∀b o,s.heap.get? b=sE o->b≠I/\b≠h1.objs.size:=λb o q=>⟨aF (hold b o q),by rw[hsz];exact aF (cp (hold b o q))⟩
 generalize h1.push { cls:=.type "list",data:=.seq ([]:List oQ).toArray }=h2 at *
 generalize h1.objs.size=S at *
 refine pZ (b:=Builtin.«max.loop») du ?_
 rw[Around.under_plainId (id:="max.loop") bH _]
 show oS _ A.in1 (seqItems? (Value.ref S) >>= _) _ _ _
 refine oH (pG (items:=#[]) gS rfl ?_)
 show oS _ A.in1 (tryCatch (pyNext (Value.ref I)) _ >>= _) _ _ _
 by_cases hz:xs.size=0
 ·refine oH (rb (W.done _ _ _ (by rw[hz];exact st0) λh' tk kp=>?_))
  show oS _ A.in1 (rule _ >>= λ_=>_) _ _ _
  refine oH (rF (oJ ?_))
  exact h d h' tk (λ_=>rfl) (λq=>absurd q (by lia)) λb o q=>kp b o (by simpa using (hSb b o q).1) (kp1 b o q)
 ·refine oH (rb (W.item 0 _ _ _ (by lia) st0 λv h' tk hP st kp=>?_))
  obtain⟨t,rfl⟩:=hv 0 v hP
  have hS':=kp S _ (by simpa using hSI) gS
  show oS _ A.in1 (updateSeq S (λ_=>#[Value.int (val 0) t,Value.int (val 0) t]) >>= _) _ _ _
  refine oH (rJ hS' rfl ?_)
  rw[nm]
  have st':=W.frame _ _ (h'.update S (Obj.mapSeq λ_=>#[Value.int (val 0) t,Value.int (val 0) t])) st λb hb o q=>by
   refine (aL _ _ (λe:S=b=>?_)).trans q
   subst e
   rcases List.mem_cons.mp hb with e | e
   ·exact hSI e
   ·exact hSl (List.mem_singleton.mp e)
  refine oJ ⟨plainId_quiet bH _,Vj hh hlI hSI hSl xs val hv d _ 1 (val 0) t _ _ rfl (by lia) (λi hi=>?_) st'.1 st'.2 (get?_update_seq hS' _) λz' t' h'' tk'' a1 a2=>?_⟩
  ·have:i=0:=by lia
   rw[this]
   exact dv _
  ·exact h _ h'' tk'' (λq=>absurd q hz) (λ_=>⟨z',t',rfl,a1⟩) λb o q=>a2 b o (hSb b o q).1 (hSb b o q).2 ((aL _ _ (Ne.symm (hSb b o q).2)).trans (kp b o (by simpa using (hSb b o q).1) (kp1 b o q)))
end
section
variable{X:Cx}{id:String}{x:oW}{e:oZ}{es:List oZ}{kws:List sx}{ks:List oW}{p pos:pR}{t tk:TA}
def Ji(X:Cx)(id:String)(ks:List oW)(r:List V->List V->Hp->VK->Prop):Prop :=
 ∀(sI:List (oP × pC)) (s:oR) (σ:L2.St) (H:Hp) (vs zs:List V) (us ws:List oQ) (Q:VK),Inv X sI σ H s->Vals vs us->Vals zs ws->r vs zs H Q->oS (model X.prog X.w) X.A (call (.builtin id) us (ks.zip ws)) (EP X sI σ Q) X.xe s
def zcU(r:List V->List V->Hp->VK->Prop)(t tk:TA):TE:=λσ H Q=>t σ H λvs H1=>tk σ H1 λzs H2=>r vs zs H2 Q
theorem WE{r:List V->List V->Hp->VK->Prop}(hc:Ji X id ks r)(hg:Gl X x)(hm:X.mg x=sF)(hv:pE x=sE (.builtin id))(ha:PA X (e::es) t)(hk:PK X kws tk)(hks:(pF pos (ph kws X.env)).filterMap (·.1)=ks:=by rfl)(hn:x≠"__name__":=by decide)(hdb:(x == ("__debug__" : oW))=sH:=by decide)
  (he:pj pos (oM (e::es) X.env)=(sH,eval e X.env)::pj pos (oM es X.env):=by rfl) (hpl:(pj pos (oM (e::es) X.env)).any (·.1)=sH:=by rfl)
  (hall:(pF pos (ph kws X.env)).all (·.1.isSome)=sG:=by rfl) (hkw:(pF pos (ph kws X.env)).any (·.1.isNone)=sH:=by rfl):PE X (.Call (.Name x p) (e::es) kws pos) (zcU r t tk):=by
 intro sI s σ H Q I h
 refine px (vd I hg hm hv ?_ hn hdb)
 refine callWith_kw (thn (ha pos sI s σ H _ I h) λus s1 ⟨vs,H1,I1,r1,q1⟩=>thn (hk pos sI s1 σ H1 _ I1 q1) λws s2 ⟨zs,H2,I2,r2,q2⟩=>?_) he hpl hall hkw
 rw[hks]
 exact hc sI s2 σ H2 vs zs us ws Q I2 r1 r2 q2
def zbA(K:oO):List V->List V->Hp->VK->Prop:=λvs zs H Q=>∃(a:oP) (ns:List Int) (d:Int),vs=[.ref a]/\zs=[.int d]/\SqL K H a (ns.map V.int)/\∀z:Int,(ns=[]->z=d)->(∀n ∈ ns,n<=z)->Q (.int z) H
theorem za9(hc:X.calm=sG):Ji X "max" [bF "default"] (zbA X.K):=by
 intro sI s σ H vs zs us ws Q I r1 r2 h
 obtain⟨a,ns,d,rfl,rfl,hS,q⟩:=h
 obtain⟨u,rfl,ru⟩:=wP r1
 cases ru
 obtain⟨w',rfl,td,rfl⟩:=wP r2
 obtain⟨its,rv,pl,hz⟩:=I.list hS
 have hlen:=rv.length
 rw[af] at hlen
 have hat:∀(i:Nat) (v:oQ),its.toArray[i]? = sE v->∃t,v=Value.int (ns.getD i 0) t:=λi v hi=>by
  have hi':its[i]? = sE v:=by simpa using hi
  have hil:=(List.getElem?_eq_some_iff.mp hi').1
  obtain⟨u,hu,t,rfl⟩:=xR rv (j:=i) (x:=.int (ns.getD i 0)) (by rw[aH,ac,ak (by lia)];rfl)
  rw[hi'] at hu
  cases hu
  exact⟨t,rfl⟩
 refine VE (I.ok.hd hc) its.toArray (λi=>ns.getD i 0) hat pl.isList (.int d td) λv h' tk h0 h1 kp=>?_
 by_cases hn:ns=[]
 ·have:=h0 (by rw[au,<- hlen,hn];rfl)
  subst this
  exact⟨.int d,H,I.kept kp,⟨_,rfl⟩,q d (λ_=>rfl) (λn hm=>by rw[hn] at hm;cases hm)⟩
 ·obtain⟨z,t,rfl,hzz⟩:=h1 (by rw[au,<- hlen];exact List.length_pos_iff.mpr hn)
  refine⟨.int z,H,I.kept kp,⟨_,rfl⟩,q z (λe=>absurd e hn) λn hm=>?_⟩
  obtain⟨i,hi,rfl⟩:=List.getElem_of_mem hm
  have:=hzz i (by rw[au,<- hlen];exact hi)
  rw[ac,ak hi] at this
  exact this
end
end L3
namespace L3
section
variable{prog:oV}{w:oX}{A:oY}{R:rQ->oR->Prop}{I l S:oP}
end
section
variable{X:Cx}
end
end L3
namespace L3
end L3
namespace L3
section
variable{X:Cx}
theorem jC{cn:oW}{np hpos:pR}{b0:pf}{suite:List pf}{hs:List rW}{D:oP}{th:TS}(hg:Gl X cn)(hm:X.mg cn=sE (.ref D))(hdb:(cn == ("__debug__" : oW))=sH)(xc:ZY X.K D=sG)(hsu:∀e,PSs (Cx.suite X e) (b0::suite) th)
  {sI:List (oP × pC)} {s:oR} {σ:St} {H:Hp} {Dd:vh} {x C T:oP} {dx:Option oP} (I:Inv X sI σ H s) (hob:∃t cx kx,s.heap.get? x=sE (xog C dx t (.ref T) cx kx)) (hoT:∃oT ts,s.heap.get? T=sE oT/\oT.data=.fields ts/\3<ts.size) (fT:xO X sI H T)
  (hb:cI X.K (.ref C) (.ref D)=sE sG) (q:th Dd σ H):oS (model X.prog X.w) X.A (handleBy (.ref x) X.env (.ExceptHandler (sE (.Name cn np)) sF (b0::suite) hpos::hs)) (SP X sI Dd) X.xe s:=by
 obtain⟨t,cx,kx,ob⟩:=hob
 obtain⟨oT,ts,eT,dT,zT⟩:=hoT
 have I':=Inv.suite I (.ref x)
 refine wpAny_handleBy_cons (codeAny_handlers_test (vm (X:=Cx.suite X (.ref x)) I' hg hm (zaq I.kIn xc ob hb ?_) hdb)) (by intro q;cases q)
 refine codeAny_handlers_suite ?_
 unfold setFlight
 refine oH (pi ob rfl (x:=.ref T) rfl ?_)
 rw[if_pos (show (Value.ref T != Value.none)=sG from by simp)]
 refine pO eT dT zT ?_
 obtain⟨f0,f1,f2,f3,f4,f5⟩:=fT
 have I2:Inv X sI σ H { s with heap:=s.heap.update T (Obj.mapFields (·.setIfInBounds 3 ((sF:Option oP).elim Value.none λf=>rawInt f))) } :=
  I.turned (t':=s.toks) (λb o hb e=>(aL _ _ (Ne.symm hb)).trans e) f0 f1 f3 f4 f5
 refine pB (thn (hsu _ sI _ σ H _ (Inv.suite I2 (.ref x)) q) λfl s4 q4=>?_)
 cases fl with
 | next =>
  obtain⟨σ4,H4,I4,n4⟩:=q4
  exact⟨_,_,Inv.unsuite I I4,n4⟩
 | brk =>
  obtain⟨σ4,H4,I4,n4⟩:=q4
  exact⟨_,_,Inv.unsuite I I4,n4⟩
 | cont =>
  obtain⟨σ4,H4,I4,n4⟩:=q4
  exact⟨_,_,Inv.unsuite I I4,n4⟩
 | ret v =>
  obtain⟨y,σ4,H4,I4,r4,n4⟩:=q4
  exact⟨y,_,_,Inv.unsuite I I4,r4,n4⟩
end
end L3
namespace L3
section
variable{X:Cx}
def Je(K:oO)(i:Nat)(D:oP)(te:TX)(th:TS):TS:=λDd σ H=>te σ H (λv H1=>Dd.nx (σ.set i (sE v)) H1) λcls dx H1=>∃C,cls=.ref C/\cI K (.ref C) (.ref D)=sE sG/\∀x,H1 x=sF->th Dd σ (upd H1 x (XT x C dx))
theorem Qx{i:Nat}{y:oW}{yp apos pos np hpos:pR}{e:oZ}{te:TX}{cn:oW}{b0:pf}{suite:List pf}{hs:List rW}{D:oP}{th:TS}
  (hN:X.N.Nodup) (hy:X.N[i]? = sE y) (hly:Loc X.env.scope y) (hf:X.fn y=sG\/X.env.scope.names.lookup y=sE .local) (hst:X.stack=X.env::X.outer/\X.env.frame=sE X.env.locals) (he:PEX X e te) (hg:Gl X cn) (hm:X.mg cn=sE (.ref D)) (xc:ZY X.K D=sG) (hsu:∀e,PSs (Cx.suite X e) (b0::suite) th) (hdb:(cn == ("__debug__" : oW))=sH:=by decide) (hsw:swapsWith e (sE (.Name y yp)) apos.line X.env=pure sH:=by rfl) :
  PS X (.Try [.Assign [.Name y yp] e apos] (.ExceptHandler (sE (.Name cn np)) sF (b0::suite) hpos::hs) [] [] pos) (Je X.K i D te th):=by
 intro sI s σ H D I hq
 refine su (pV (si (pS (he sI s σ H _ _ I hq) (λv s1 ⟨z,H1,I1,r1,q1⟩=>?_) λe s1 fl=>?_) hsw))
 ·exact ka I1 hN hy hly r1 (λs2 I2=>pQ (pQ ⟨_,H1,I2,q1⟩)) hf
 ·obtain⟨cx,kx,H1,x,C,t,dx,tb,rfl,I1,ob,tr,fx,fT,C',ec,hsb,q1⟩:=fl
  cases ec
  have fr:X.A.frames=sE (X.env::X.outer):=by rw[<- hst.1];exact I1.ok.frames
  have ff:s1.heap.FunFrames X.base (X.env::X.outer):=by rw[<- hst.1];exact I1.stack
  refine j6 fr ff hst.2 hst.2 ob tr λh' T oT ts e1 nT oldT e2 d2 z2 k1 k2=>?_
  have fT':xO X sI H1 T:=by
   rcases oldT with z | z
   ·exact fT T z
   ·exact I1.fpOk z (I1.hok.fresh z)
  have tbs:∀b,tb=.ref b->H1 b=sF:=λb hb=>(fT b hb).1
  have nch:∀b o,s1.heap.get? b=sE o->b ∉ (x::T::tbL tb)->b≠x/\tb≠.ref b:=λb o _ hb=>by
   refine⟨λz=>hb (by simp [z]),λz=>hb ?_⟩
   rw[z]
   simp [tbL]
  have un:Un (frs X.stack) (x::T::tbL tb) H1 H1 s1.heap h':=by
   rw[hst.1]
   refine⟨λb o e n hb hc=>?_,λb o e n hb hc=>?_,λb o e n _=>n,λb o e hc=>?_,λb xs e=>e,λb o u e=>e,λb ps e=>⟨#[],by rw[e];simp⟩⟩
   ·obtain⟨a1,a2⟩:=nch b o e hc
    exact k1 b o a1 a2 hb e
   ·obtain⟨a1,a2⟩:=nch b o e hc
    exact k2 b o a1 a2 e
   ·obtain⟨a1,a2⟩:=nch b o e hc
    obtain⟨sl,q⟩:=k2 b o a1 a2 e
    exact⟨_,q⟩
  have hok:HOk X.prog X.w H1 h':=λb u e=>by
   refine (I1.hok b u e).stay (λc v hc q=>k1 c v ?_ ?_ ?_ q) (λ_ q=>q) λ_ _ q=>q
   ·rintro rfl
    rcases hc with rfl | hc
    ·rw[fx.1] at e;cases e
    ·rw[fx.1] at hc;cases hc
   ·intro z
    have:=tbs c z
    rcases hc with rfl | hc
    ·rw[this] at e;cases e
    ·rw[this] at hc;cases hc
   ·intro z
    rw[<- hst.1] at z
    have:=I1.stkFree c z
    rcases hc with rfl | hc
    ·rw[this] at e;cases e
    ·rw[this] at hc;cases hc
  have I2:Inv X sI σ H1 { s1 with heap:=h' }:=I1.call' (s':={ s1 with heap:=h' }) rfl un hok I1.bare λb hb=>by
   have fb:xO X sI H1 b:=by
    rcases List.mem_cons.mp hb with z | z
    ·rw[z];exact fx
    ·rcases List.mem_cons.mp z with z | z
     ·rw[z];exact fT'
     ·cases tb with
      | ref b' =>
       have:b=b':=by simpa [tbL] using z
       rw[this];exact fT b' rfl
      | _=>simp [tbL] at z
   obtain⟨_,a1,_,a3,a4,a5⟩:=fb
   exact⟨a3,a1,a4,a5⟩
  have I3:Inv X sI σ (upd H1 x (XT x C dx)) { s1 with heap:=h' }:=Inv.track I2 fx (zaE e1)
  exact jC hg hm hdb xc hsu I3 ⟨t,_,_,e1⟩ ⟨oT,ts,e2,d2,z2⟩ ⟨by rw[zo nT];exact fT'.1,fT'.2⟩ hsb (q1 x fx.1)
end
end L3
namespace L3
section
variable{X:Cx}
def Q8(K:oO)(D:oP)(te:TX)(th:TS):TS:=λDd σ H=>te σ H (λz H1=>Dd.rt z H1) λcls dx H1=>∃C,cls=.ref C/\cI K (.ref C) (.ref D)=sE sG/\∀x,H1 x=sF->th Dd σ (upd H1 x (XT x C dx))
theorem UM{apos pos np hpos:pR}{e:oZ}{te:TX}{cn:oW}{b0:pf}{suite:List pf}{hs:List rW}{D:oP}{th:TS}
  (hst:X.stack=X.env::X.outer/\X.env.frame=sE X.env.locals) (he:PEX X e te) (hg:Gl X cn) (hm:X.mg cn=sE (.ref D)) (xc:ZY X.K D=sG) (hsu:∀e,PSs (Cx.suite X e) (b0::suite) th) (hdb:(cn == ("__debug__" : oW))=sH:=by decide) :
  PS X (.Try [.Return (sE e) apos] (.ExceptHandler (sE (.Name cn np)) sF (b0::suite) hpos::hs) [] [] pos) (Q8 X.K D te th):=by
 intro sI s σ H D I hq
 refine su (pV (sf (pS (he sI s σ H _ _ I hq) (λv s1 ⟨z,H1,I1,r1,q1⟩=>?_) λe s1 fl=>?_)))
 ·exact⟨z,σ,H1,I1,r1,q1⟩
 ·obtain⟨cx,kx,H1,x,C,t,dx,tb,rfl,I1,ob,tr,fx,fT,C',ec,hsb,q1⟩:=fl
  cases ec
  have fr:X.A.frames=sE (X.env::X.outer):=by rw[<- hst.1];exact I1.ok.frames
  have ff:s1.heap.FunFrames X.base (X.env::X.outer):=by rw[<- hst.1];exact I1.stack
  refine j6 fr ff hst.2 hst.2 ob tr λh' T oT ts e1 nT oldT e2 d2 z2 k1 k2=>?_
  have fT':xO X sI H1 T:=by
   rcases oldT with z | z
   ·exact fT T z
   ·exact I1.fpOk z (I1.hok.fresh z)
  have tbs:∀b,tb=.ref b->H1 b=sF:=λb hb=>(fT b hb).1
  have nch:∀b o,s1.heap.get? b=sE o->b ∉ (x::T::tbL tb)->b≠x/\tb≠.ref b:=λb o _ hb=>by
   refine⟨λz=>hb (by simp [z]),λz=>hb ?_⟩
   rw[z]
   simp [tbL]
  have un:Un (frs X.stack) (x::T::tbL tb) H1 H1 s1.heap h':=by
   rw[hst.1]
   refine⟨λb o e n hb hc=>?_,λb o e n hb hc=>?_,λb o e n _=>n,λb o e hc=>?_,λb xs e=>e,λb o u e=>e,λb ps e=>⟨#[],by rw[e];simp⟩⟩
   ·obtain⟨a1,a2⟩:=nch b o e hc
    exact k1 b o a1 a2 hb e
   ·obtain⟨a1,a2⟩:=nch b o e hc
    exact k2 b o a1 a2 e
   ·obtain⟨a1,a2⟩:=nch b o e hc
    obtain⟨sl,q⟩:=k2 b o a1 a2 e
    exact⟨_,q⟩
  have hok:HOk X.prog X.w H1 h':=λb u e=>by
   refine (I1.hok b u e).stay (λc v hc q=>k1 c v ?_ ?_ ?_ q) (λ_ q=>q) λ_ _ q=>q
   ·rintro rfl
    rcases hc with rfl | hc
    ·rw[fx.1] at e;cases e
    ·rw[fx.1] at hc;cases hc
   ·intro z
    have:=tbs c z
    rcases hc with rfl | hc
    ·rw[this] at e;cases e
    ·rw[this] at hc;cases hc
   ·intro z
    rw[<- hst.1] at z
    have:=I1.stkFree c z
    rcases hc with rfl | hc
    ·rw[this] at e;cases e
    ·rw[this] at hc;cases hc
  have I2:Inv X sI σ H1 { s1 with heap:=h' }:=I1.call' (s':={ s1 with heap:=h' }) rfl un hok I1.bare λb hb=>by
   have fb:xO X sI H1 b:=by
    rcases List.mem_cons.mp hb with z | z
    ·rw[z];exact fx
    ·rcases List.mem_cons.mp z with z | z
     ·rw[z];exact fT'
     ·cases tb with
      | ref b' =>
       have:b=b':=by simpa [tbL] using z
       rw[this];exact fT b' rfl
      | _=>simp [tbL] at z
   obtain⟨_,a1,_,a3,a4,a5⟩:=fb
   exact⟨a3,a1,a4,a5⟩
  have I3:Inv X sI σ (upd H1 x (XT x C dx)) { s1 with heap:=h' }:=Inv.track I2 fx (zaE e1)
  exact jC hg hm hdb xc hsu I3 ⟨t,_,_,e1⟩ ⟨oT,ts,e2,d2,z2⟩ ⟨by rw[zo nT];exact fT'.1,fT'.2⟩ hsb (q1 x fx.1)
end
end L3
namespace L3
section
variable{X:Cx}
theorem Wr(bs:List Bool):(aX bs.length).any (λi=>bs.getD i sH)=bs.any id:=by
 induction bs with
 | nil=>rfl
 | cons b bs ih =>
  rw[aM,eO,List.any_cons,List.any_map,List.any_cons,<- ih]
  rfl
def zdr(K:oO):List V->Hp->VK->Prop:=λxs H Q=>∃(p:oP) (bs:List Bool),xs=[.ref p]/\SqL K H p (bs.map V.bl)/\Q (.bl (bs.any id)) H
theorem zbl(hc:X.calm=sG):vR X (.builtin "any") (zdr X.K):=by
 intro sI s σ H xs us Q I r h
 obtain⟨p,bs,rfl,hS,q⟩:=h
 obtain⟨u,rfl,ru⟩:=wP r
 cases ru
 obtain⟨its,rv,pl,hz⟩:=I.list hS
 have hlen:its.length=bs.length:=by
  have:=rv.length
  rw[af] at this
  exact this.symm
 have hh:X.A.in1.handled=sF:=I.ok.hd hc
 have hne:p≠s.heap.objs.size:=by
  obtain⟨o,n,e,_⟩:=pl
  exact aF (ay e)
 obtain⟨f0,f1,f2,f3,f4,f5⟩:=I.fpOk (H':=H) (aq _) (I.hok.fresh (aq _))
 have I1:=I.kept (t':=s.toks) (h':=s.heap.push { cls:=.type "list_iterator",data:=.fields #[.ref p,.int 0 0] }) λb o e=>aa _ e
 refine call_any_walk (rz pl.isList ?_)
 refine⟨s.heap.objs.size,_,_,_,_,_,λi=>bs.getD i sH,rfl,Walks.list hh s.heap.objs.size p hne its.toArray,⟨⟨_,aI _ rfl,rfl,rfl⟩,?_⟩,?_,?_⟩
 ·obtain⟨o,n,e,c,d,dt⟩:=pl
  exact⟨o,aa _ e,c,n,dt⟩
 ·intro i v s' Q' E' hv hq
  have:=YY rv (i:=i) (v:=v) (by simpa using hv)
  rw[this]
  exact pA hq
 ·intro h' tk hk
  have e:(aX its.toArray.size).any (λi=>bs.getD i sH)=bs.any id:=by
   rw[au,hlen,Wr]
  rw[e]
  refine⟨.bl _,H,?_,rfl,q⟩
  exact I1.turned (t':=tk) (it:=s.heap.objs.size) (λb o hb q=>hk b o (by simpa using hb) q) f0 f1 f3 f4 f5
end
end L3
namespace L3
def CompEL(K:oO)(a:oP)(g:TG)(tt:TT)(te:TE)(own:Nat)(ix:List Nat)(σ:L2.St)(H1:Hp)(Q:VK)(D:oP):Prop:=Yr (Iel K a) g tt te own ix σ H1 Q D
theorem zaY{K:oO}{ta:TA}{g:TG}{tt:TT}{te:TE}{own:Nat}{ix:List Nat}{σ:L2.St}{H:Hp}{Q:VK}:jf (WC K ta) g tt te own ix σ H Q=ta σ H λvs H1=>∃a,vs=[.ref a]/\(∃xs,SqL K H1 a xs)/\∀D,H1 D=sF->CompEL K a g tt te own ix σ H1 Q D:=rfl
section
variable{g:TG}{tt:TT}{te:TE}{own:Nat}{ix:List Nat}{σ:L2.St}{H1:Hp}{Q:VK}{D:oP}
theorem CompEL.by{K:oO}{a:oP}{xs:List V}(Pv:Nat->List V->Hp->Prop)(h0:Pv 0 [] (upd H1 D (.lst [])))(hl:∀i sK H',i<=xs.length->Pv i sK H'->SqL K H' a xs)
  (hs:∀i x sK H' p,xs[i]? = sE x->Pv i sK H'->H' p=sF->g (.ref p) (wZ σ own ix) (upd H' p (.tup [.int (i:Nat),x])) λσ3 H3=>xa (wZ σ own ix) σ3/\tt σ3 H3 λb H4=>if b=sG then
   te σ3 H4 λv H5=>H5 D=sE (.lst sK)/\sK.length<oN/\CNx xs.length i Pv (sK ++ [v]) (upd H5 D (.lst (sK ++ [v]))) else CNx xs.length i Pv sK H4)
  (hd:∀sK H',Pv xs.length sK H'->Q (.ref D) H'):CompEL K a g tt te own ix σ H1 Q D:=by
 refine⟨λi m sK H=>m=xs.length - i/\i<=xs.length/\Pv i sK H,⟨xs.length,by simp,aJ _,h0⟩,?_⟩
 rintro i m sK H' ⟨rfl,hi,p⟩
 have q:=hl i sK H' hi p
 by_cases hlt:i<xs.length
 ·refine .inr ⟨⟨xs,xs[i],q,by simp [hlt]⟩,λv H2 y=>?_⟩
  obtain⟨p',x,hp,hx,ev,eH⟩:=y
  subst ev eH
  exact hs i x sK H' p' (hx xs q) p hp
 ·have e:i=xs.length:=by lia
  subst e
  exact .inl ⟨⟨xs,q,rfl⟩,hd sK H' p⟩
end
end L3
namespace L3
section
variable{X:Cx}
end
end L3
namespace L3
open PySem PySem.W PyProof.Rows
noncomputable def zbW(lt:Nat->Nat->Bool){α:Type}:KasT α->α
 | .ret a=>a
 | .ask i j k=>zbW lt (k (lt i j))
def Kok(lt:Nat->Nat->Bool)(n:Nat){α:Type}:KasT α->(α->Prop)->Prop
 | .ret a,Q=>Q a
 | .ask i j k,Q=>i<n/\j<n/\Kok lt n (k (lt i j)) Q
section
variable{lt:Nat->Nat->Bool}{n:Nat}{α β:Type}
theorem Kok.mono{Q Q':α->Prop}(hq:∀a,Q a->Q' a):∀(t:KasT α),Kok lt n t Q->Kok lt n t Q'
 | .ret a,h=>hq a h
 | .ask _ _ k,h=>⟨h.1,h.2.1,Kok.mono hq (k _) h.2.2⟩
theorem Kok.bind{f:α->KasT β}{Q:β->Prop}:∀(t:KasT α),Kok lt n t (λa=>Kok lt n (f a) Q)->Kok lt n (t.bind f) Q
 | .ret _,h=>h
 | .ask _ _ k,h=>⟨h.1,h.2.1,Kok.bind (k _) h.2.2⟩
theorem Kok.run{Q:α->Prop}:∀(t:KasT α),Kok lt n t Q->Q (zbW lt t)
 | .ret _,h=>h
 | .ask _ _ k,h=>Kok.run (k _) h.2.2
theorem Kok.wp{cmp:Nat->Nat->(Bool->oR->Prop)->oR->Prop}{I:oR->Prop}(hc:∀i j C s,i<n->j<n->I s->(∀s',I s'->C (lt i j) s')->cmp i j C s){Q:α->Prop}{R:α->oR->Prop}
  (hR:∀a s,Q a->I s->R a s):∀(t:KasT α) (s:oR),I s->Kok lt n t Q->t.kasWp cmp R s
 | .ret a,s,hI,h=>hR a s h hI
 | .ask i j k,s,hI,h=>hc i j _ s h.1 h.2.1 hI λs' hI'=>Kok.wp hc hR (k _) s' hI' h.2.2
end
structure Wk(lt:Nat->Nat->Bool):Prop where
 asym:∀a b,lt a b=sG->lt b a=sH
 ntr:∀a b c,lt b a=sH->lt c b=sH->lt c a=sH
section
variable{lt:Nat->Nat->Bool}{n:Nat}
abbrev Lq(lt:Nat->Nat->Bool)(a b:Nat):Prop:=lt b a=sH
theorem Wk.refl(W:Wk lt)(a:Nat):Lq lt a a:=by
 cases h:lt a a with
 | false=>exact h
 | true=>exact absurd h (by rw[W.asym a a h];decide)
noncomputable abbrev pg(p:Array Nat)(i:Nat):Nat:=p.getD i 0
theorem X4(p:Array Nat)(i:Nat):pg p i=(p[i]?).getD 0:=by simp [pg,Array.getD_eq_getD_getElem?]
def Up(lt:Nat->Nat->Bool)(p:Array Nat)(m:Nat):Prop:=∀i j,i<j->j<m->Lq lt (pg p i) (pg p j)
def Dn(lt:Nat->Nat->Bool)(p:Array Nat)(m:Nat):Prop:=∀i j,i<j->j<m->Lq lt (pg p j) (pg p i)
def Rg(n:Nat)(p:Array Nat):Prop:=p.toList.Perm (aX n)
theorem Rg.size{p:Array Nat}(h:Rg n p):p.size=n:=by have:=h.length_eq;simpa using this
theorem Rg.bd{p:Array Nat}(h:Rg n p){i:Nat}(hi:i<n):pg p i<n:=by
 have hs:=h.size
 have hi':i<p.size:=by lia
 have e:pg p i=p[i]:=by simp [pg,e7,hi']
 rw[e]
 have hm:p[i] ∈ p.toList:=Array.mem_toList_iff.mpr (Array.getElem_mem hi')
 exact List.mem_range.mp (h.mem_iff.mp hm)
theorem vf{p:Array Nat}{i j:Nat}(hj:j<=p.size)(k:Nat):pg (kas_rev p i j) k=if i<=k/\k<j then pg p (i+j - 1 - k) else pg p k:=by
 rw[X4,kas_rev,getElem?_mirror_all hj]
 split <;> rw[X4]
theorem Rg.rev{p:Array Nat}(h:Rg n p)(i j:Nat):Rg n (kas_rev p i j):=(Array.perm_iff_toList_perm.mp (mirror_perm p i j _)).trans h
theorem Rg.bub{p:Array Nat}(h:Rg n p)(i j:Nat):Rg n (bubble p i j):=(Array.perm_iff_toList_perm.mp (bubble_perm p i j)).trans h
theorem Ww(W:Wk lt){p:Array Nat}(hp:Rg n p):∀(f k:Nat),1<=k->k+f<=n->Up lt p k->Kok lt n (kas_asc p f k) (λm=>k<=m/\m<=k+f/\Up lt p m/\(m=k+f\/lt (pg p m) (pg p (m - 1))=sG))
 | 0,k,h1,h2,hu=>⟨by lia,by lia,hu,Or.inl (by lia)⟩
 | f+1,k,h1,h2,hu=>by
  refine⟨hp.bd (by lia),hp.bd (by lia),?_⟩
  rcases ce (lt (pg p k) (pg p (k - 1))) with hc | hc
  ·show Kok lt n (if lt (pg p k) (pg p (k - 1))=sG then .ret k else _) _
   rw[if_pos hc]
   exact⟨by lia,by lia,hu,Or.inr hc⟩
  ·show Kok lt n (if lt (pg p k) (pg p (k - 1))=sG then .ret k else _) _
   rw[if_neg (by rw[hc];decide)]
   refine (Ww W hp f (k+1) (by lia) (by lia) λi j hij hj=>?_).mono (λm hm=>⟨by lia,by lia,hm.2.2.1,?_⟩) _
   ·by_cases e:j=k
    ·subst e
     by_cases e2:i=j - 1
     ·subst e2;exact hc
     ·exact W.ntr _ _ _ (hu i (j - 1) (by lia) (by lia)) hc
    ·exact hu i j hij (by lia)
   ·rcases hm.2.2.2 with h | h
    ·exact Or.inl (by lia)
    ·exact Or.inr h
def Ev(lt:Nat->Nat->Bool)(p:Array Nat)(a b:Nat):Prop:=∀i j,a<=i->i<b->a<=j->j<b->Lq lt (pg p i) (pg p j)
theorem Q5{p:Array Nat}{m q:Nat}(hm:m<=p.size)(hq:q+1<=m)(hd:Dn lt p m)(he:Ev lt p (m - (q+1)) m):Dn lt (kas_rev p (m - (q+1)) m) m:=by
 intro i j hij hj
 rw[vf hm,vf hm]
 by_cases h1:m - (q+1)<=i
 ·rw[if_pos (show m - (q+1)<=i/\i<m by lia),if_pos (show m - (q+1)<=j/\j<m by lia)]
  exact he _ _ (by lia) (by lia) (by lia) (by lia)
 ·rw[if_neg (show ¬ (m - (q+1)<=i/\i<m) by lia)]
  split
  ·exact hd _ _ (by lia) (by lia)
  ·exact hd _ _ (by lia) (by lia)
theorem jZ(W:Wk lt):∀(f:Nat) (p:Array Nat) (k q:Nat),Rg n p->1<=k->k+f<=n->q+1<=k->Dn lt p k->Ev lt p (k - (q+1)) k ->
  Kok lt n (kas_desc f p k q) (λr=>Rg n r.1/\k<=r.2.1/\r.2.1<=k+f/\r.2.2+1<=r.2.1/\Dn lt r.1 r.2.1/\Ev lt r.1 (r.2.1 - (r.2.2+1)) r.2.1)
 | 0,p,k,q,hp,h1,h2,hq,hd,he=>⟨hp,aq _,cu _ _,hq,hd,he⟩
 | f+1,p,k,q,hp,h1,h2,hq,hd,he=>by
  have hps:=hp.size
  refine⟨hp.bd (by lia),hp.bd (by lia),?_⟩
  have one:∀(p:Array Nat),Ev lt p (k+1 - (0+1)) (k+1):=λp i j a b c d=>by
   have:i=j:=by lia
   subst this
   exact W.refl _
  rcases ce (lt (pg p k) (pg p (k - 1))) with hc | hc
  ·show Kok lt n (if lt (pg p k) (pg p (k - 1))=sG then _ else _) _
   rw[if_pos hc]
   have hle:Lq lt (pg p k) (pg p (k - 1)):=W.asym _ _ hc
   split
   ·rename_i hq0
    refine (jZ W f _ (k+1) 0 (hp.rev _ _) (by lia) (by lia) (by lia) (λi j hij hj=>?_) (one _)).mono (λr hr=>⟨hr.1,by lia,by lia,hr.2.2.2⟩) _
    by_cases e:j=k
    ·subst e
     rw[vf (by lia),vf (by lia),if_neg (by lia)]
     split
     ·exact W.ntr _ _ _ hle (he _ _ (by lia) (by lia) (by lia) (by lia))
     ·exact W.ntr _ _ _ hle (hd _ _ (by lia) (by lia))
    ·exact Q5 (by lia) hq hd he i j hij (by lia)
   ·refine (jZ W f _ (k+1) 0 hp (by lia) (by lia) (by lia) (λi j hij hj=>?_) (one _)).mono (λr hr=>⟨hr.1,by lia,by lia,hr.2.2.2⟩) _
    by_cases e:j=k
    ·subst e
     by_cases e2:i=j - 1
     ·subst e2;exact hle
     ·exact W.ntr _ _ _ hle (hd i (j - 1) (by lia) (by lia))
    ·exact hd i j hij (by lia)
  ·show Kok lt n (if lt (pg p k) (pg p (k - 1))=sG then _ else _) _
   rw[if_neg (by rw[hc];decide)]
   refine⟨hp.bd (by lia),hp.bd (by lia),?_⟩
   rcases ce (lt (pg p (k - 1)) (pg p k)) with hd2 | hd2
   ·show Kok lt n (if lt (pg p (k - 1)) (pg p k)=sG then _ else _) _
    rw[if_pos hd2]
    exact⟨hp,aq _,cu _ _,hq,hd,he⟩
   ·show Kok lt n (if lt (pg p (k - 1)) (pg p k)=sG then _ else _) _
    rw[if_neg (by rw[hd2];decide)]
    refine (jZ W f _ (k+1) (q+1) hp (by lia) (by lia) (by lia) (λi j hij hj=>?_) (λi j a b c d=>?_)).mono (λr hr=>⟨hr.1,by lia,by lia,hr.2.2.2⟩) _
    ·by_cases e:j=k
     ·subst e
      by_cases e2:i=j - 1
      ·subst e2;exact hd2
      ·exact W.ntr _ _ _ hd2 (hd i (j - 1) (by lia) (by lia))
     ·exact hd i j hij (by lia)
    ·have b1:∀i,k+1 - (q+1+1)<=i->i<k->Lq lt (pg p i) (pg p (k - 1))/\Lq lt (pg p (k - 1)) (pg p i):=λi a b=>⟨he _ _ (by lia) (by lia) (by lia) (by lia),he _ _ (by lia) (by lia) (by lia) (by lia)⟩
     by_cases e:j=k
     ·subst e
      by_cases e3:i=j
      ·subst e3;exact W.refl _
      ·exact W.ntr _ _ _ (b1 i (by lia) (by lia)).1 hc
     ·by_cases e3:i=k
      ·subst e3
       exact W.ntr _ _ _ hd2 (b1 j (by lia) (by lia)).2
      ·exact he _ _ (by lia) (by lia) (by lia) (by lia)
theorem Y9(W:Wk lt){p:Array Nat}{m:Nat}(hp:Rg n p)(h1:1<=m)(hm:m<=n)(hd:Dn lt p m):Kok lt n (kas_tail3 m n p) (λr=>Rg n r.2/\1<=r.1/\r.1<=n/\Up lt r.2 r.1):=by
 have hps:=hp.size
 unfold kas_tail3
 refine Kok.bind _ ((Ww W (hp.rev 0 m) (n - m) m h1 (by lia) λi j hij hj=>?_).mono (λk hk=>⟨hp.rev 0 m,by show 1<=k;lia,by show k<=n;lia,hk.2.2.1⟩) _)
 rw[vf (by lia),vf (by lia),if_pos (by lia),if_pos (by lia)]
 exact hd _ _ (by lia) (by lia)
theorem qC(W:Wk lt){p:Array Nat}{m:Nat}(hp:Rg n p)(h1:1<=m)(hm:m+1<=n)(hd:Dn lt p (m+1)):Kok lt n (kas_descPart m n p) (λr=>Rg n r.2/\1<=r.1/\r.1<=n/\Up lt r.2 r.1):=by
 unfold kas_descPart
 refine Kok.bind _ ((jZ W (n - (m+1)) p (m+1) 0 hp (by lia) (by lia) (by lia) hd λi j a b c d=>?_).mono (λr hr=>?_) _)
 ·have:i=j:=by lia
  subst this
  exact W.refl _
 ·obtain⟨r1,r2,r3,r4,r5,r6⟩:=hr
  have hs:=r1.size
  (try dsimp only)
  split
  ·exact Y9 W (r1.rev _ _) (by lia) (by lia) (Q5 (by lia) r4 r5 r6)
  ·exact Y9 W r1 (by lia) (by lia) r5
theorem Qc(W:Wk lt){p:Array Nat}(hp:Rg n p)(hn:1<=n):Kok lt n (kas_count n p) (λr=>Rg n r.2/\1<=r.1/\r.1<=n/\Up lt r.2 r.1):=by
 have hps:=hp.size
 unfold kas_count
 refine Kok.bind _ ((Ww W hp (n - 1) 1 (aq _) (by lia) λi j hij hj=>by lia).mono (λm hm=>?_) _)
 obtain⟨m1,m2,mu,ms⟩:=hm
 by_cases e:(m == n)=sG
 ·rw[if_pos e]
  exact⟨hp,by show 1<=m;lia,by show m<=n;lia,mu⟩
 ·rw[if_neg e]
  have hne:m≠n:=λh=>e (by rw[h];exact beq_self_eq_true _)
  have hlt:lt (pg p m) (pg p (m - 1))=sG:=by
   rcases ms with h | h
   ·lia
   ·exact h
  have hle:Lq lt (pg p m) (pg p (m - 1)):=W.asym _ _ hlt
  by_cases h1:m > 1
  ·rw[if_pos h1]
   refine⟨hp.bd (by lia),hp.bd (by lia),?_⟩
   rcases ce (lt (pg p 0) (pg p (m - 1))) with hc | hc
   ·show Kok lt n (if lt (pg p 0) (pg p (m - 1))=sG then _ else _) _
    rw[if_pos hc]
    exact⟨hp,by show 1<=m;lia,by show m<=n;lia,mu⟩
   ·show Kok lt n (if lt (pg p 0) (pg p (m - 1))=sG then _ else _) _
    rw[if_neg (by rw[hc];decide)]
    have u0:∀i,i<m->Lq lt (pg p 0) (pg p i):=λi hi=>by
     by_cases h:i=0
     ·subst h;exact W.refl _
     ·exact mu 0 i (by lia) hi
    have ul:∀i,i<m->Lq lt (pg p i) (pg p (m - 1)):=λi hi=>by
     by_cases h:i=m - 1
     ·subst h;exact W.refl _
     ·exact mu i (m - 1) (by lia) (by lia)
    have ev:∀i j,i<m->j<m->Lq lt (pg p i) (pg p j):=λi j hi hj=>W.ntr _ _ _ (ul i hi) (W.ntr _ _ _ hc (u0 j hj))
    refine qC W (hp.rev 0 m) (by lia) (by lia) λi j hij hj=>?_
    by_cases h:j=m
    ·subst h
     rw[vf (by lia),vf (by lia),if_neg (by lia),if_pos (by lia)]
     exact W.ntr _ _ _ hle (ev _ _ (by lia) (by lia))
    ·rw[vf (by lia),vf (by lia),if_pos (by lia),if_pos (by lia)]
     exact ev _ _ (by lia) (by lia)
  ·rw[if_neg h1]
   refine qC W hp (by lia) (by lia) λi j hij hj=>?_
   have h0:i=m - 1:=by lia
   have h1:j=m:=by lia
   subst h0 h1
   exact hle
theorem ko(W:Wk lt){p:Array Nat}(hp:Rg n p){k:Nat}(hk:k<n)(hu:Up lt p k):∀(f l r:Nat),l<=r->r<=k->r - l<=f->(∀i,i<l->Lq lt (pg p i) (pg p k))->(∀i,r<=i->i<k->Lq lt (pg p k) (pg p i)) ->
  Kok lt n (kas_place p k f l r) (λm=>m<=k/\(∀i,i<m->Lq lt (pg p i) (pg p k))/\(∀i,m<=i->i<k->Lq lt (pg p k) (pg p i)))
 | 0,l,r,hl,hr,hf,h1,h2=>by
  have:l=r:=by lia
  subst this
  exact⟨hr,h1,h2⟩
 | f+1,l,r,hl,hr,hf,h1,h2=>by
  unfold kas_place
  by_cases e:l ≥ r
  ·rw[if_pos e]
   have:l=r:=by lia
   subst this
   exact⟨hr,h1,h2⟩
  ·rw[if_neg e]
   refine⟨hp.bd hk,hp.bd (by lia),?_⟩
   rcases ce (lt (pg p k) (pg p ((l+r) / 2))) with hc | hc
   ·show Kok lt n (if lt (pg p k) (pg p ((l+r) / 2))=sG then _ else _) _
    rw[if_pos hc]
    refine ko W hp hk hu f l ((l+r) / 2) (by lia) (by lia) (by lia) h1 λi hi hik=>?_
    by_cases e2:i=(l+r) / 2
    ·subst e2;exact W.asym _ _ hc
    ·exact W.ntr _ _ _ (W.asym _ _ hc) (hu _ _ (by lia) hik)
   ·show Kok lt n (if lt (pg p k) (pg p ((l+r) / 2))=sG then _ else _) _
    rw[if_neg (by rw[hc];decide)]
    refine ko W hp hk hu f ((l+r) / 2+1) r (by lia) hr (by lia) (λi hi=>?_) h2
    by_cases e2:i=(l+r) / 2
    ·subst e2;exact hc
    ·exact W.ntr _ _ _ (hu i ((l+r) / 2) (by lia) (by lia)) hc
theorem QZ{p:Array Nat}{k l:Nat}(hk:k<p.size)(hl:l<=k)(i:Nat):pg (bubble p k (k - l)) i=if i=l then pg p k else if l<i/\i<=k then pg p (i - 1) else pg p i:=by
 have e:k - (k - l)=l:=by lia
 rw[X4,getElem?_bubble hk (k - l) (by lia),e]
 by_cases h:i=l
 ·rw[if_pos h,if_pos h];exact (X4 p k).symm
 ·rw[if_neg h,if_neg h]
  by_cases h':l<i/\i<=k
  ·rw[if_pos h',if_pos h'];exact (X4 p (i - 1)).symm
  ·rw[if_neg h',if_neg h'];exact (X4 p i).symm
theorem Jh(W:Wk lt):∀(f:Nat) (p:Array Nat) (k:Nat),Rg n p->k+f=n->Up lt p k->Kok lt n (kas_bin f p k) (λp'=>Rg n p'/\Up lt p' n)
 | 0,p,k,hp,hk,hu=>by
  have:k=n:=by lia
  subst this
  exact⟨hp,hu⟩
 | f+1,p,k,hp,hk,hu=>by
  have hps:=hp.size
  refine Kok.bind _ ((ko W hp (by lia) hu k 0 k (by lia) (by lia) (by lia) (λi hi=>by lia) (λi h1 h2=>by lia)).mono (λl hl=>?_) _)
  obtain⟨l1,l2,l3⟩:=hl
  refine Jh W f _ (k+1) (hp.bub _ _) (by lia) λi j hij hj=>?_
  rw[QZ (by lia) l1,QZ (by lia) l1]
  by_cases h1:i=l
  ·rw[if_pos h1,if_neg (by lia),if_pos (by lia)]
   exact l3 _ (by lia) (by lia)
  ·rw[if_neg h1]
   by_cases h2:j=l
   ·rw[if_pos h2,if_neg (by lia)]
    exact l2 _ (by lia)
   ·rw[if_neg h2]
    by_cases h3:l<i/\i<=k
    ·rw[if_pos h3,if_pos (by lia)]
     exact hu _ _ (by lia) (by lia)
    ·rw[if_neg h3]
     by_cases h4:l<j/\j<=k
     ·rw[if_pos h4]
      by_cases h5:i=j - 1
      ·lia
      ·exact hu _ _ (by lia) (by lia)
     ·rw[if_neg h4]
      exact hu _ _ (by lia) (by lia)
theorem Ki(W:Wk lt)(hn:1<=n):Kok lt n (kas_sort n) (λp=>Rg n p/\Up lt p n):=by
 unfold kas_sort
 refine Kok.bind _ ((Qc W (p:=be (aX n)) (by unfold Rg;exact List.Perm.refl _) hn).mono (λr hr=>?_) _)
 obtain⟨r1,r2,r3,r4⟩:=hr
 (try dsimp only)
 split
 ·have:max r.1 1=r.1:=by lia
  rw[this]
  exact Jh W _ _ _ r1 (by lia) r4
 ·have:r.1=n:=by lia
  rw[this] at r4
  exact⟨r1,r4⟩
end
noncomputable def srt{α:Type}(lt:α->α->Bool)(d:α)(xs:List α):List α :=
 if xs.length<2 then xs else (zbW (λi j=>lt (xs.getD i d) (xs.getD j d)) (kas_sort xs.length)).toList.map λi=>xs.getD i d
structure WkO{α:Type}(lt:α->α->Bool):Prop where
 asym:∀a b,lt a b=sG->lt b a=sH
 ntr:∀a b c,lt b a=sH->lt c b=sH->lt c a=sH
end L3
namespace L3
structure KeyFam(α:Type) where
 dec:α->List D
 lt:α->α->Bool
 fst:Bool
 d0:α
structure KeyFam.Ok{α:Type}(F:KeyFam α):Prop where
 w:WkO F.lt
 eq:∀a b,v0 (F.dec a) (F.dec b)=F.lt a b
 ok:∀a b,jk (F.dec a) (F.dec b)
 dp:∀a,uK (F.dec a)<40
 sh:∀a,∃d r,F.dec a=d::r/\((F.fst=sG/\∃n,d=.int n)\/(F.fst=sH/\∃l,d=.tup l))
section
variable{X:Cx}{sI:List (oP × pC)}{σ:L2.St}{H:Hp}{s:oR}
theorem Inv.repin{b:oP}{o o':pC}{h':pb}(I:Inv X (sI ++ [(b,o)]) σ H s)(hs:X.s₀.heap.objs.size<=b)(hn:∀p ∈ X.pn ++ sI,p.1≠b)(sb:Heap.SameBut b s.heap h')(ho:h'.get? b=sE o')(hd:∀v,o'.data≠.cell v) :
  Inv X (sI ++ [(b,o')]) σ H { s with heap:=h' }:=by
 have I1:Inv X sI σ H s:=I.unpinned
 obtain⟨p1,p2,p3,p4,p5⟩:=I.pin (b,o) (aC _ (aC _ (List.mem_singleton.mpr rfl)))
 have I2:Inv X sI σ H { s with heap:=h' }:=Inv.turns I1 (fp:=[b]) (t':=s.toks) (λb' u hb e=>(sb.2 b' (by simpa using hb)).trans e) λb' hb=>by
  have e:b'=b:=by simpa using hb
  subst e
  refine⟨p2,p3,p4,.inr hs,λx c e z=>?_,hn⟩
  obtain⟨v,o1,ho1,hd1⟩:=I.cell x c e
  subst z
  rw[p1] at ho1
  cases ho1
  exact p5 v hd1
 exact I2.pins_of λp hp=>by
  rcases List.mem_append.mp hp with z | z
  ·exact I2.pin p (aC _ z)
  ·have e:p=(b,o'):=by simpa using z
   subst e
   exact⟨ho,p2,p3,p4,hd⟩
theorem Inv.newpin{b:oP}{o:pC}(I:Inv X sI σ H s)(hf:xO X sI H b)(ho:s.heap.get? b=sE o)(hd:∀v,o.data≠.cell v):Inv X (sI ++ [(b,o)]) σ H s :=
 I.pins_of λp hp=>by
  rcases List.mem_append.mp hp with z | z
  ·exact I.pin p (aC _ z)
  ·have e:p=(b,o):=by simpa using z
   subst e
   exact⟨ho,hf.1,hf.2.1,hf.2.2.1,hd⟩
theorem za1(I:Inv X sI σ H s){A:oY}{b:Bool}{Q:Bool->oR->Prop}(hu:A.units+50<cLine):∀(l m:List D) (xs ys:List V) (its its':List oQ) (i:Nat),Iss X.K H l xs->Iss X.K H m ys->Vals xs its->Vals ys its'->jk l m->uK l<40 ->
  (b=sG->i=0->(∃n r,l=.int n::r)/\∃n r,m=.int n::r)->Q (v0 l m) s->PySem.W.KatLex X.prog X.w A b (decide (its.length<its'.length)) Q (its.zip its') i s
 | [],m,xs,ys,its,its',i,h1,h2,r1,r2,ok,hd,hb,q=>by
  simp only[Iss] at h1
  subst h1
  cases r1
  have e:v0 [] m=decide (([]:List oQ).length<its'.length):=by
   have e1:=h2.len
   have e2:=r2.length
   have e3:m.length=its'.length:=by lia
   rw[<- e3]
   cases m with
   | nil=>simp [v0]
   | cons _ _=>simp [v0]
  rw[e] at q
  rw[List.zip_nil_left]
  exact fG q
 | d::l,[],xs,ys,its,its',i,h1,h2,r1,r2,ok,hd,hb,q=>by
  simp only[Iss] at h2
  subst h2
  cases r2
  simp only[v0] at q
  rw[List.zip_nil_right]
  exact fG (by simpa using q)
 | d::l,e::m,xs,ys,its,its',i,h1,h2,r1,r2,ok,hd,hb,q=>by
  simp only[Iss] at h1 h2
  obtain⟨x,xr,rfl,hx,hxr⟩:=h1
  obtain⟨y,yr,rfl,hy,hyr⟩:=h2
  cases r1 with | cons rx rxr =>
  cases r2 with | cons ry ryr =>
  simp only[jk] at ok
  simp only[uK] at hd
  rename_i u us v vs
  rw[di]
  refine PySem.W.kat_cons (kY I 45 A d e x y u v (by lia) (by lia) hx hy rx ry X.prog X.w _ _ ?_)
  cases he:eqD d e with
  | true =>
   refine PySem.W.kat_yes ?_
   have:=za1 I (b:=b) hu l m xr yr us vs (i+1) hxr hyr rxr ryr ok.2 (by lia) (λ_ z=>absurd z (by lia)) (by simpa only[v0,he,if_true] using q)
   simpa using this
  | false =>
   refine PySem.W.kat_no ?_
   have q':Q (ltD d e) s:=by simpa only[v0,he,bM,if_false] using q
   by_cases hbi:(b && i == 0)=sG
   ·rw[hbi]
    simp only[cE,beq_iff_eq] at hbi
    obtain⟨⟨n,r,e1⟩,n',r',e2⟩:=hb hbi.1 hbi.2
    cases e1;cases e2
    simp only[Is] at hx hy
    subst hx hy
    obtain⟨t,rfl⟩:=rx
    obtain⟨t',rfl⟩:=ry
    simp only[ltD] at q'
    exact oneLt_int q'
   ·rw[show (b && i == 0)=sH by simpa using hbi]
    exact PySem.W.kat_one _ _ (QV I 45 A d e x y u v (by lia) (by lia) ok.1 hx hy rx ry X.prog X.w _ _ q')
theorem J8(I:Inv X sI σ H s){A:oY}{b:Bool}{Q:Bool->oR->Prop}{E:oQ->oR->Prop}(hu:A.units+50<cLine){l m:List D}{x y:V}{u v:oQ}(hx:Is X.K H (.tup l) x)(hy:Is X.K H (.tup m) y)(rx:RelV x u)(ry:RelV y v)
  (ok:jk l m) (hd:uK l<40) (hb:b=sG->(∃n r,l=.int n::r)/\∃n r,m=.int n::r) (q:Q (v0 l m) s):oS (model X.prog X.w) A (keyLt' (tuples' b) u v) Q E s:=by
 simp only[Is] at hx hy
 obtain⟨a,xs,rfl,h1,h2⟩:=hx
 obtain⟨c,ys,rfl,g1,g2⟩:=hy
 cases rx;cases ry
 obtain⟨its,r,⟨o,ho,hoc,n,hod⟩,_⟩:=I.tuple h1
 obtain⟨its',r',⟨o',ho',hoc',n',hod'⟩,_⟩:=I.tuple g1
 refine PySem.W.kat_lt ho hod ho' hod' ?_
 have:=za1 I (A:=A) (b:=b) (Q:=Q) hu l m xs ys its its' 0 h2 g2 r r' ok hd (λz _=>hb z) q
 simpa using this
theorem Q7{α:Type}{F:KeyFam α}(FO:F.Ok)(I:Inv X sI σ H s){M:sj}:∀(rs:List α) (sK:List V) (ks:List oQ),Iss X.K H (rs.map λa=>.tup (F.dec a)) sK->Vals sK ks ->
  ∃fs,PySem.W.KatTups s.heap ks fs/\fs.length=rs.length/\∀v ∈ fs,PySem.W.Looks M s.heap (typeOf v) (.type (if F.fst=sG then "int" else "tuple"))
 | [],sK,ks,h,r=>by
  simp only[aP,Iss] at h
  subst h
  cases r
  exact⟨[],PySem.W.KatTups.nil,rfl,λv hv=>by cases hv⟩
 | a::rs,sK,ks,h,r=>by
  simp only[az,Iss] at h
  obtain⟨x,xr,rfl,hx,hxr⟩:=h
  cases r with | cons rx rxr =>
  rename_i u us
  obtain⟨fs,t1,t2,t3⟩:=Q7 FO I (M:=M) rs xr us hxr rxr
  simp only[Is] at hx
  obtain⟨c,xs,rfl,h1,h2⟩:=hx
  cases rx
  obtain⟨its,ri,⟨o,ho,hoc,n,hod⟩,_⟩:=I.tuple h1
  obtain⟨d,dr,ed,hsh⟩:=FO.sh a
  rw[ed] at h2
  simp only[Iss] at h2
  obtain⟨y,yr,rfl,hy,_⟩:=h2
  cases ri with | cons ry rir =>
  rename_i v vs
  refine⟨v::fs,PySem.W.KatTups.cons ho hoc hod (by simp) t1,by simp [t2],λz hz=>?_⟩
  rcases List.mem_cons.mp hz with e | hz
  ·subst e
   rcases hsh with ⟨hf,n',rfl⟩ | ⟨hf,l,rfl⟩
   ·rw[if_pos hf]
    simp only[Is] at hy
    subst hy
    obtain⟨t,rfl⟩:=ry
    exact PySem.W.Looks.of_pure rfl
   ·rw[if_neg (by rw[hf];decide)]
    simp only[Is] at hy
    obtain⟨c',xs',rfl,g1,_⟩:=hy
    cases ry
    obtain⟨its',ri',⟨o',ho',hoc',n',hod'⟩,_⟩:=I.tuple g1
    rw[<- hoc']
    exact (PySem.W.Looks.ld ho').andThen .now
  ·exact t3 z hz
end
def Wf{α:Type}(K:oO)(F:KeyFam α)(xs:List V)(Q:VK):List V->Hp->Prop:=λsK H'=>∃rs:List α,Iss K H' (rs.map λa=>.tup (F.dec a)) sK /\
 ∀ys:List (α × V),ys.Perm (rs.zip xs)->ys.Pairwise (λp q=>F.lt q.1 p.1=sH)->∀D,H' D=sF->Q (.ref D) (upd H' D (.lst (ys.map (·.2))))
theorem W2{β:Type}{g:β->β->Bool}{d:β}{zs:List β}{p:Array Nat}(h1:Rg zs.length p)(h2:Up (λi j=>g (zs.getD i d) (zs.getD j d)) p zs.length) :
  (p.toList.map λi=>zs.getD i d).Perm zs/\(p.toList.map λi=>zs.getD i d).Pairwise λa b=>g b a=sH:=by
 have e:(aX zs.length).map (λi=>zs.getD i d)=zs:=by
  refine List.ext_getElem (by simp) λi a b=>?_
  have hb:i<zs.length:=by simpa using b
  simp [hb]
 refine⟨(h1.map (λi=>zs.getD i d)).trans (by rw[e]),?_⟩
 rw[List.pairwise_map,List.pairwise_iff_getElem]
 intro i j hi hj hij
 have hs:=h1.size
 have hi':i<p.size:=by simpa using hi
 have hj':j<p.size:=by simpa using hj
 have q:=h2 i j hij (by lia)
 have ei:pg p i=p.toList[i]:=by simp [pg,e7,hi']
 have ej:pg p j=p.toList[j]:=by simp [pg,e7,hj']
 rw[ei,ej] at q
 exact q
end L3
namespace L3
section
variable{X:Cx}{sI:List (oP × pC)}{σ:L2.St}{H:Hp}{s:oR}
theorem Inv.fp_of_pin{b:oP}{o:pC}(I:Inv X (sI ++ [(b,o)]) σ H s)(hs:X.s₀.heap.objs.size<=b)(hn:∀p ∈ X.pn ++ sI,p.1≠b):xO X sI H b:=by
 obtain⟨p1,p2,p3,p4,p5⟩:=I.pin (b,o) (aC _ (aC _ (List.mem_singleton.mpr rfl)))
 refine⟨p2,p3,p4,.inr hs,λx c e z=>?_,hn⟩
 obtain⟨v,o1,ho1,hd1⟩:=I.cell x c e
 subst z
 rw[p1] at ho1
 cases ho1
 exact p5 v hd1
theorem Inv.at_pin{b:oP}{o:pC}(I:Inv X (sI ++ [(b,o)]) σ H s):s.heap.get? b=sE o:=(I.pin (b,o) (aC _ (aC _ (List.mem_singleton.mpr rfl)))).1
theorem xW{c:String}{xs:Array oQ}{n:Nat}:∀v,(pw c xs n).data≠.cell v:=λv z=>by cases z
theorem QI{D kS:oP}{e e1:Nat}{st:SortSt}{ks out:List oQ}{A:oY}{E:oQ->oR->Prop}{P:PySem.Fin->oR->Prop}(I:Inv X ((sI ++ [(D,pw "list" #[] e1)]) ++ [(kS,pw "list" (be ks) e)]) σ H s)
  (hD:X.s₀.heap.objs.size<=D) (hK:X.s₀.heap.objs.size<=kS) (nD:∀p ∈ X.pn ++ sI,p.1≠D) (nK:∀p ∈ X.pn ++ (sI ++ [(D,pw "list" #[] e1)]),p.1≠kS) (hkz:ks.length<64)
  (hout:(arrOf st).map (·.2)=be out) (hoz:out.length<64) (hf:failedOf st=sF) (h:∀s' c,Inv X (sI ++ [(D,pw "list" (be out) c)]) σ H s'->P (.done (.ret .none)) s') :
  oS (model X.prog X.w) A (ksk_tail D sH e1 (.ref kS) st) P E s:=by
 have pk:=Inv.at_pin I
 have s1:=Heap.SameBut.update s.heap kS (Obj.mapSeq λ_=>(#[]:Array oQ))
 obtain⟨ck,hck⟩:∃ck,(s.heap.update kS (Obj.mapSeq λ_=>(#[]:Array oQ))).get? kS=sE (pw "list" #[] ck):=⟨_,get?_update_seq pk λ_=>#[]⟩
 have I2:=(Inv.repin I hK nK s1 hck xW).unpinned
 have pd:=Inv.at_pin I2
 have s2:=Heap.SameBut.update (s.heap.update kS (Obj.mapSeq λ_=>(#[]:Array oQ))) D (Obj.mapSeq λ_=>be out)
 obtain⟨c2,hc2⟩:∃c2,((s.heap.update kS (Obj.mapSeq λ_=>(#[]:Array oQ))).update D (Obj.mapSeq λ_=>be out)).get? D=sE (pw "list" (be out) c2):=⟨_,get?_update_seq pd λ_=>be out⟩
 have I3:=Inv.repin I2 hD nD s2 hc2 xW
 unfold ksk_tail
 (try dsimp only)
 rw[hout]
 refine oH (listUpdate_at pk rfl ?_ (by rw[au,pz];lia) (aJ _))
 refine oH (ra ?_)
 refine oH (seqEpoch_at pd rfl ?_)
 refine oH (listUpdate_at pd rfl ?_ (aJ _) (by simp only[bM,if_false];rw[au,pz];lia))
 rw[hf]
 simp only[bne_self_eq_false,bM,if_false]
 exact oJ (h _ c2 I3)
theorem zbU{α:Type}{F:KeyFam α}(FO:F.Ok){D kS:oP}{e e1:Nat}{ks its:List oQ}{sK xs:List V}{rs:List α}{A:oY}{E:oQ->oR->Prop}{P:PySem.Fin->oR->Prop}(hu:A.units+50<cLine)
  (I:Inv X ((sI ++ [(D,pw "list" #[] e1)]) ++ [(kS,pw "list" (be ks) e)]) σ H s)
  (hD:X.s₀.heap.objs.size<=D) (hK:X.s₀.heap.objs.size<=kS) (nD:∀p ∈ X.pn ++ sI,p.1≠D) (nK:∀p ∈ X.pn ++ (sI ++ [(D,pw "list" #[] e1)]),p.1≠kS)
  (rk:Vals sK ks) (rv:Vals xs its) (hl:ks.length=its.length) (hz:its.length<64) (hR:Iss X.K H (rs.map λa=>.tup (F.dec a)) sK)
  (h:∀s' (ys:List (α × V)) (out:List oQ) c,ys.Perm (rs.zip xs)->ys.Pairwise (λp q=>F.lt q.1 p.1=sH)->Vals (ys.map (·.2)) out->out.length<64->Inv X (sI ++ [(D,pw "list" (be out) c)]) σ H s'->P (.done (.ret .none)) s') :
  oS (model X.prog X.w) A (ksk_end D sH its.toArray e1 (.ref kS) (be ks)) P E s:=by
 have L1:=hR.len
 have L2:=rk.length
 have L3:=rv.length
 rw[af] at L1
 have lz:(rs.zip xs).length=its.length:=by rw[List.length_zip];lia
 unfold ksk_end
 simp only[bM,if_false]
 by_cases h2:its.toArray.size<2
 ·rw[if_pos h2,if_pos h2]
  refine oH (oJ ?_)
  rw[StateT.run_pure]
  refine oH (oJ ?_)
  (try dsimp only)
  refine QI (out:=its) I hD hK nD nK (by lia) ?_ hz rfl λs' c I'=>h s' (rs.zip xs) its c (List.Perm.refl _) ?_ ?_ hz I'
  ·show ((be ks).zip its.toArray).map (·.2)=_
   apply Array.toList_inj.mp
   rw[Array.toList_map,ksk_zip]
   exact List.map_snd_zip (by simp;lia)
  ·rw[au] at h2
   match rs.zip xs,lz with
   | [],_=>exact List.Pairwise.nil
   | [a],_=>exact eE _ _
   | _::_::_,lz=>exact absurd lz (by simp only[aM];lia)
  ·rw[List.map_snd_zip (by lia)]
   exact rv
 ·rw[if_neg h2,if_neg h2]
  rw[au] at h2
  obtain⟨fs,t1,t2,t3⟩:=Q7 FO I (M:=model X.prog X.w) rs sK ks hR rk
  refine oH (PySem.W.kat_kind t1 (by lia) t3 (by simp) ?_)
  have hfst:((Value.type (if F.fst=sG then "int" else "tuple"):oQ) != Value.type "tuple")=F.fst:=by
   cases hF:F.fst with
   | true=>rfl
   | false=>rfl
  rw[hfst]
  have W:Wk (λi j=>F.lt (rs.getD i F.d0) (rs.getD j F.d0)):=⟨λa b=>FO.w.asym _ _,λa b c=>FO.w.ntr _ _ _⟩
  have ok:=Ki (n:=its.length) W (by lia)
  have lt_eq:(λi j=>F.lt (rs.getD i F.d0) (rs.getD j F.d0))=(λi j=>(λ(p q:α × V)=>F.lt p.1 q.1) ((rs.zip xs).getD i (F.d0,.non)) ((rs.zip xs).getD j (F.d0,.non))):=by
   have one:∀i,((rs.zip xs).getD i (F.d0,V.non)).1=rs.getD i F.d0:=λi=>by
    by_cases hi:i<its.length
    ·have a1:i<rs.length:=by lia
     have a2:i<xs.length:=by lia
     rw[ac,ac,ak (by lia),ak a1]
     simp
    ·rw[ac,ac,bz (by lia),bz (by lia)]
     rfl
   funext i j
   simp only[one]
  have wp:=Kok.wp (n:=its.length) (cmp:=fH X.prog X.w A (tuples' F.fst) ks) (I:=λs'=>Inv X ((sI ++ [(D,pw "list" #[] e1)]) ++ [(kS,pw "list" (be ks) e)]) σ H s')
   (R:=λp s'=>(Rg its.length p/\Up (λi j=>F.lt (rs.getD i F.d0) (rs.getD j F.d0)) p its.length)/\Inv X ((sI ++ [(D,pw "list" #[] e1)]) ++ [(kS,pw "list" (be ks) e)]) σ H s')
   (λi j C s' hi hj I' hC=>?_) (λp s' hp I'=>⟨hp,I'⟩) _ s I ok
  ·have run:=PySem.W.kat_run (E:=E) (vs:=its) (ks:=ks) (Q:=λst' s'=>∃p:Array Nat,p.size=its.length/\arrOf st'=p.map (PySem.W.kas_item (ks.toArray.zip its.toArray))/\failedOf st'=sF/\_) hl (by lia) hz (λp' st' s' a1 a2 a3 a4=>⟨p',a1,a2,a3,a4⟩) wp
   refine oH (pS run ?_ λ_ _ e=>e)
   rintro⟨⟨⟩,st'⟩ s' ⟨p,hp,har,hf,⟨hR1,hU⟩,I'⟩
   (try dsimp only)
   have hout:=PySem.W.kat_snds (ks:=ks) (vs:=its) hl har
   have hR2:Rg (rs.zip xs).length p:=by rw[lz];exact hR1
   rw[lt_eq,<- lz] at hU
   obtain⟨g1,g2⟩:=W2 (g:=λ(p q:α × V)=>F.lt p.1 q.1) hR2 hU
   have olen:(p.toList.map λi=>its.getD i Value.none).length=its.length:=by rw[af,dJ,hp]
   refine QI (out:=p.toList.map λi=>its.getD i Value.none) I' hD hK nD nK (by lia) hout (by lia) hf λs2 c I2=>h s2 _ _ c g1 g2 ?_ (by lia) I2
   rw[dD]
   have all:∀(js:List Nat),(∀j ∈ js,j<its.length)->Vals (js.map ((λx:α × V=>x.2) ∘ λi=>(rs.zip xs).getD i (F.d0,.non))) (js.map λi=>its.getD i Value.none):=by
    intro js
    induction js with
    | nil=>intro _;exact .nil
    | cons j js ih =>
     intro hj
     refine .cons ?_ (ih λi hi=>hj i (aw _ hi))
     have hjl:=hj j aD
     have a1:j<xs.length:=by lia
     obtain⟨u,hu1,ru⟩:=xR rv (j:=j) (x:=xs[j]) (ak a1)
     have e1:((rs.zip xs).getD j (F.d0,V.non)).2=xs[j]:=by
      rw[ac,ak (by lia)]
      simp
     have e2:its.getD j Value.none=u:=by rw[ac,hu1];rfl
     show RelV ((rs.zip xs).getD j (F.d0,V.non)).2 (its.getD j Value.none)
     rw[e1,e2]
     exact ru
   exact all p.toList λj hj=>List.mem_range.mp (hR1.mem_iff.mp hj)
  ·have a1:i<rs.length:=by lia
   have a2:j<rs.length:=by lia
   have gi:(rs.map λa=>_root_.L3.D.tup (F.dec a))[i]? = sE (.tup (F.dec rs[i])):=by rw[aH,ak a1];rfl
   have gj:(rs.map λa=>_root_.L3.D.tup (F.dec a))[j]? = sE (.tup (F.dec rs[j])):=by rw[aH,ak a2];rfl
   obtain⟨x,hx,ix⟩:=hR.at gi
   obtain⟨y,hy,iy⟩:=hR.at gj
   obtain⟨u,hu1,ru⟩:=xR rk hx
   obtain⟨v,hv1,rv1⟩:=xR rk hy
   have e1:ks.getD i Value.none=u:=by rw[ac,hu1];rfl
   have e2:ks.getD j Value.none=v:=by rw[ac,hv1];rfl
   have e3:rs.getD i F.d0=rs[i]:=by rw[ac,ak a1];rfl
   have e4:rs.getD j F.d0=rs[j]:=by rw[ac,ak a2];rfl
   unfold fH
   rw[e1,e2]
   refine J8 I' hu ix iy ru rv1 (FO.ok _ _) (FO.dp _) (λhb=>?_) ?_
   ·obtain⟨d,r,ed,hd⟩:=FO.sh rs[i]
    obtain⟨d',r',ed',hd'⟩:=FO.sh rs[j]
    rcases hd with ⟨_,n,rfl⟩ | ⟨z,_⟩
    ·rcases hd' with ⟨_,n',rfl⟩ | ⟨z,_⟩
     ·exact⟨⟨n,r,ed⟩,n',r',ed'⟩
     ·rw[hb] at z;cases z
    ·rw[hb] at z;cases z
   ·rw[FO.eq,<- e3,<- e4]
    exact hC s' I'
end
end L3
namespace L3
def uD(kc:V->Hp->VK->Prop):List V->List V->Hp->(List V->Hp->Prop)->Prop
 | [],sK,H,Q=>Q sK H
 | x::xs,sK,H,Q=>kc x H (λk H'=>uD kc xs (sK ++ [k]) H' Q)
section
variable{X:Cx}{sI:List (oP × pC)}{σ:L2.St}{H:Hp}{s:oR}
theorem JI{α:Type}{F:KeyFam α}(FO:F.Ok){k:Nat}{q:oP}{kc:V->Hp->VK->Prop}(hr:Room (k+2) X.A)
  (hkc:∀(pins':List (oP × pC)) (s:oR) (H:Hp) (x:V) (u:oQ) (Q:VK),Inv X pins' σ H s->RelV x u->kc x H Q->oS (model X.prog X.w) X.A.in1.in1 (call (.ref q) [u]) (EP X pins' σ Q) (λ_ _=>False) s)
  {D kS:oP} {e1:Nat} {its:List oQ} {xs:List V} {E:oQ->oR->Prop} {P:PySem.Fin->oR->Prop} {Q:VK}
  (I:Inv X ((sI ++ [(D,pw "list" #[] e1)]) ++ [(kS,pw "list" #[] 0)]) σ H s)
  (hD:X.s₀.heap.objs.size<=D) (hK:X.s₀.heap.objs.size<=kS) (nD:∀p ∈ X.pn ++ sI,p.1≠D) (nK:∀p ∈ X.pn ++ (sI ++ [(D,pw "list" #[] e1)]),p.1≠kS)
  (rv:Vals xs its) (hz:its.length<64)
  (ht:uD kc xs [] H (Wf X.K F xs Q))
  (hP:∀s',EP X sI σ Q (.ref D) s'->P (.done (.ret .none)) s') :
  oS (model X.prog X.w) X.A.in1.in1 (ksk_rest D (.ref q) sH its.toArray e1 (.ref kS)) P E s:=by
 unfold ksk_rest
 refine oH (rF ?_)
 rw[List.forIn_toArray]
 refine oH (ksk_fold (λj s'=>∃sK ks e H',Inv X ((sI ++ [(D,pw "list" #[] e1)]) ++ [(kS,pw "list" (be ks) e)]) σ H' s'/\Vals sK ks/\ks.length=j/\uD kc (xs.drop j) sK H' (Wf X.K F xs Q))
  its 0 s ⟨[],[],0,H,I,.nil,rfl,ht⟩ (λj x s1 hx hJ=>?_) λs1 hJ=>?_)
 ·obtain⟨sK,ks,e,H1,I1,rk,hkl,tk⟩:=hJ
  rw[eg] at hkl tk
  have hjl:j<its.length:=(List.getElem?_eq_some_iff.mp hx).1
  have L3:=rv.length
  obtain⟨u,hu,ru⟩:=xR rv (j:=j) (x:=xs[j]) (ak (by lia))
  rw[hx] at hu
  cases hu
  rw[aU (by lia)] at tk
  refine oH (rf (pS (hkc _ _ _ _ _ _ I1 ru tk) (λkv s2 hk=>?_) λ_ _ z=>z.elim))
  obtain⟨v,H2,I2,rv2,tk2⟩:=hk
  have pk:=Inv.at_pin I2
  have sb:=Heap.SameBut.update s2.heap kS (Obj.mapSeq (·.push kv))
  have ea:(be ks).push kv=be (ks ++ [kv]):=by simp
  obtain⟨c2,hc2⟩:∃c2,(s2.heap.update kS (Obj.mapSeq (·.push kv))).get? kS=sE (pw "list" (be (ks ++ [kv])) c2):=⟨_,by rw[<- ea];exact get?_update_seq pk (·.push kv)⟩
  have I3:=Inv.repin I2 hK nK sb hc2 xW
  (try dsimp only)
  refine oH (listUpdate_at pk rfl ?_ (by rw[au,pz];lia) (by rw[Array.size_push,au,pz];lia))
  refine oJ ⟨rfl,sK ++ [v],ks ++ [kv],c2,H2,I3,rk.append (.cons rv2 .nil),by rw[am,cP,hkl];lia,?_⟩
  rw[eg]
  exact tk2
 ·obtain⟨sK,ks,e,H1,I1,rk,hkl,tk⟩:=hJ
  rw[eg] at hkl tk
  have L3:=rv.length
  rw[<- L3,d9] at tk
  obtain⟨rs,hR,hq⟩:=tk
  (try dsimp only)
  refine oH (listItems_at (Inv.at_pin I1) rfl ?_)
  refine zbU FO (by have:=hr.in1.in1.un;lia) I1 hD hK nD nK rk rv hkl hz hR λs' ys out c p1 p2 p3 p4 I'=>hP s' ?_
  have fp:=Inv.fp_of_pin I' hD nD
  refine⟨.ref D,_,Inv.track I'.unpinned (a:=D) (o:=.lst (ys.map (·.2))) fp ⟨?_,out,c,p3,Inv.at_pin I'⟩,rfl,hq ys p1 p2 D fp.1⟩
  rw[p3.length,pz]
  lia
theorem WS{α:Type}{F:KeyFam α}(FO:F.Ok){k:Nat}{q l:oP}{xs:List V}{kc:V->Hp->VK->Prop}{Q:VK}(hr:Room (k+2) X.A)
  (hkc:∀(pins':List (oP × pC)) (s:oR) (H:Hp) (x:V) (u:oQ) (Q:VK),Inv X pins' σ H s->RelV x u->kc x H Q->oS (model X.prog X.w) X.A.in1.in1 (call (.ref q) [u]) (EP X pins' σ Q) (λ_ _=>False) s)
  (I:Inv X sI σ H s) (hS:SqL X.K H l xs) (hz:xs.length<64) (ht:uD kc xs [] H (Wf X.K F xs Q)) :
  oS (model X.prog X.w) X.A (call (.builtin "sorted") [.ref l] [(bF "key",.ref q)]) (EP X sI σ Q) X.xe s:=by
 obtain⟨its,rv,pl,_⟩:=I.list hS
 have hlen:=rv.length
 refine call_function_entry_kw kind_sorted plain_sorted entry_sorted (ksk_s1 _ _) ?_
 unfold Builtin.«sorted»
 refine oH (m:=checkCount "sorted" 1 1 _) (oJ ?_)
 refine oH (collect_list pl.isList ?_ (by rw[pz];lia))
 refine oH (rT ?_ (by rw[pz];lia))
 generalize hh1:((s.heap.push (pw "list" #[] 0)).update s.heap.objs.size (Obj.mapSeq (· ++ its.toArray)))=h1
 have sz1:h1.objs.size=s.heap.objs.size+1:=by rw[<- hh1,dz,size_push']
 have kp1:∀b o,s.heap.get? b=sE o->h1.get? b=sE o:=λb o e=>by
  have hlt:b<s.heap.objs.size:=ay e
  rw[<- hh1,Heap.get?_update_ne _ _ _ _ (aF hlt),Heap.get?_push_ne _ _ _ (aF hlt)]
  exact e
 have hoL:(h1.push (pw "list" its.toArray 0)).get? h1.objs.size=sE (pw "list" its.toArray 0):=aI _ rfl
 show oS _ _ _ _ _ { s with heap:=h1.push (pw "list" its.toArray 0) }
 refine oH (pD (wpAny_call_entry_kw slot_list_sort ⟨_,hoL,rfl⟩ entry_list_sort ?body (ksk_l1 _ _)))
 show oS _ _ (Builtin.«list.sort» ⟨[.ref h1.objs.size],[(bF "key",.ref q)]⟩) _ _ _
 rw[ksk_t1]
 generalize hh2:h1.push (pw "list" its.toArray 0)=h2 at hoL
 have sz2:h2.objs.size=h1.objs.size+1:=by rw[<- hh2,size_push']
 have kp2:∀b o,s.heap.get? b=sE o->h2.get? b=sE o:=λb o e=>by rw[<- hh2];exact aa _ (kp1 b o e)
 generalize hDD:h1.objs.size=D at hoL
 obtain⟨e1,ho1⟩:∃e1,(h2.update D (Obj.mapSeq λ_=>(#[]:Array oQ))).get? D=sE (pw "list" #[] e1):=⟨_,get?_update_seq hoL λ_=>#[]⟩
 have hDs:s.heap.objs.size<=D:=by rw[<- hDD,sz1];exact cN _
 have sb:=Heap.SameBut.update h2 D (Obj.mapSeq λ_=>(#[]:Array oQ))
 unfold ksk_tree
 refine oH (listItems_at hoL rfl ?_)
 refine oH (listUpdate_at hoL rfl ?_ (by rw[au,pz];lia) (aJ _))
 refine oH (seqEpoch_at ho1 rfl ?_)
 refine oH (wpAny_newTuple ?_ (by show its.length<=_;rw[pz];lia))
 refine oH (rT ?_ (aJ _))
 refine pD ?_
 generalize hh3:(h2.update D (Obj.mapSeq λ_=>(#[]:Array oQ))).push (pw "tuple" its.toArray 0)=h3
 have sz3:h3.objs.size=s.heap.objs.size+3:=by rw[<- hh3,size_push',dz,sz2,sz1]
 have hoK:(h3.push (pw "list" #[] 0)).get? h3.objs.size=sE (pw "list" #[] 0):=aI _ rfl
 have hoD:(h3.push (pw "list" #[] 0)).get? D=sE (pw "list" #[] e1):=aa _ (by rw[<- hh3];exact aa _ ho1)
 have kp3:∀b o,s.heap.get? b=sE o->(h3.push (pw "list" #[] 0)).get? b=sE o:=λb o e=>by
  have hlt:b<s.heap.objs.size:=ay e
  refine aa _ ?_
  rw[<- hh3]
  exact aa _ ((sb.2 b (aF (aB hlt hDs))).trans (kp2 b o e))
 have I1:Inv X sI σ H { s with heap:=h3.push (pw "list" #[] 0) }:=I.kept (t':=s.toks) kp3
 have fD:xO X sI H D:=I.fpOk (by lia) (I.hok.fresh (by lia))
 have fK:xO X sI H h3.objs.size:=I.fpOk (by lia) (I.hok.fresh (by lia))
 have I2:=Inv.newpin I1 fD hoD xW
 have nK:∀p ∈ X.pn ++ (sI ++ [(D,pw "list" #[] e1)]),p.1≠h3.objs.size:=λp hp=>by
  rcases List.mem_append.mp hp with z | z
  ·exact fK.2.2.2.2.2 p (bn _ z)
  ·rcases List.mem_append.mp z with z | z
   ·exact fK.2.2.2.2.2 p (aC _ z)
   ·have e:p=(D,pw "list" #[] e1):=by simpa using z
    subst e
    show D≠_
    lia
 have I3:=Inv.newpin I2 (b:=h3.objs.size) ⟨fK.1,fK.2.1,fK.2.2.1,fK.2.2.2.1,fK.2.2.2.2.1,nK⟩ hoK xW
 have hsz:=I.sz
 have hK0:X.s₀.heap.objs.size<=h3.objs.size:=by lia
 exact JI FO hr hkc I3 (by lia) hK0 fD.2.2.2.2.2 nK rv (by lia) ht λs' hE=>⟨_,rfl,oJ ⟨_,rfl,hE⟩⟩
end
end L3
namespace L3
noncomputable def WZ(X:Cx)(N:List oW)(s:oR)(H:Hp)(qual:oW)(scope:pJ)(f:oP)(cd:oQ)(cl:List (oW × oP)):Cx where
 prog:=X.prog
 w:=X.w
 K:=X.K
 mg:=X.mg
 base:=X.base
 A:=X.A.in1.in1.deeper (eh qual scope s.heap.objs.size f cd cl)
 N:=N
 s₀:=s
 H₀:=H
 env:=eh qual scope s.heap.objs.size f cd cl
 outer:=X.stack
 stack:=eh qual scope s.heap.objs.size f cd cl::X.stack
 ex:=[]
 calm:=sG
 fn:=λ_=>sH
 pn:=[]
 xe:=λ_ _=>False
structure JZ(p y:oW)(scope:pJ):Prop where
 kind:scope.kind=.function
 co:scope.isCoroutine=sH
 gen:scope.isGenerator=sH
 nocell:∀z ∈ scope.names,z.2≠.cell
 par:scope.names.lookup p=sE .local
 fre:scope.names.lookup y=sE .free
 one:∀q ∈ scope.names,q.2=.free->q.1=y
 ne:p≠y
section
variable{X:Cx}{sI:List (oP × pC)}{σ:L2.St}{H:Hp}{s:oR}{p y name qual:oW}{scope:pJ}{params:rp}{body:oZ}{f c' c:oP}{pm ctv cv:oQ}{k iy:Nat}{vy x:V}{u:oQ}{Q:VK}{t:TE}
theorem KU(S:JZ p y scope)(hd:X.A.in1.in1.handled=sF)(I:Inv X sI σ H s)(hy:X.N[iy]? = sE y)(hσ:σ[iy]? = sE (sE vy))(hvis:X.env.scope.names.lookup y=sE .cell)(hc:X.env.cells.lookup y=sE c)(rx:RelV x u){h₁:pb}{tk:Nat}
  (hns:h₁.Ns s.heap.objs.size (λz=>[(p,u)].reverse.lookup z)) (hk₁:∀b o,s.heap.get? b=sE o->h₁.get? b=sE o) :
  Inv (WZ X [p,y] s H qual scope f cv [(y,c)]) [] [sE x,sE vy] H { s with heap:=h₁,toks:=tk }:=by
 obtain⟨m,hn,hl⟩:=I.loc
 obtain⟨uy,ry,lk⟩:=hl iy y vy hy hσ (.inr (.inl hvis))
 have hcell:s.heap.IsCell c (sE uy):=by
  rcases lk with ⟨z,_⟩ | ⟨_,c2,e2,z⟩
  ·have z':X.env.scope.names.lookup y=sE .local:=z
   rw[hvis] at z'
   cases z'
  ·rw[hc] at e2
   cases e2
   exact z
 have hcell':h₁.IsCell c (sE uy):=by
  obtain⟨o,e,d⟩:=hcell
  exact⟨o,hk₁ _ _ e,d⟩
 have e0:=I.env0
 have noA:∀b:oP,b ∉ (WZ X [p,y] s H qual scope f cv [(y,c)]).ex:=λb z=>absurd (show b ∈ ([]:List oP) from z) (by simp)
 have lkc:∀z d,bi z [(y,c)]=sE d->z=y/\d=c:=λz d h=>by
  rw[aW] at h
  by_cases hz:(z == y)=sG
  ·rw[hz] at h
   cases h
   exact⟨by simpa using hz,rfl⟩
  ·rw[show (z == y)=sH by simpa using hz] at h
   cases h
 have lky:bi y [(y,c)]=sE c:=by rw[aW];simp
 refine⟨⟨e0.mod,S.kind,rfl,rfl,aq _,λz z' d h1 h2=>?_,λz hz=>?_,λz d h _=>?_,λ_=>hd,Around.frames_deeper e0.frames,.inr ⟨rfl,rfl⟩,λb z=>absurd z (noA b),e0.bs,e0.bsz,λb _ _=>noA b,λb z=>absurd z (noA b),e0.funs,e0.frf⟩,
  rfl,e0.bare,Un.kept hk₁,⟨_,hns,λi z v h1 h2 h3=>?_⟩,λz d h=>?_,e0.hok.fresh (aq _),λz d h=>?_,λq hq=>absurd (show q ∈ ([]:List (oP × pC)) from hq) (by simp),e0.hok.kept hk₁,rfl⟩
 ·rw[(lkc _ _ h1).1,(lkc _ _ h2).1]
 ·have hz':scope.names.lookup z=sE .cell\/scope.names.lookup z=sE .free:=hz
  rcases hz' with hz' | hz'
  ·exact absurd rfl (S.nocell _ (bQ hz'))
  ·rw[show z=y from S.one _ (bQ hz') rfl]
   exact⟨c,lky⟩
 ·exact absurd (show (sH:Bool)=sG from h) (by decide)
 ·match i,h1,h2 with
  | 0,h1,h2 =>
   cases h1
   cases h2
   refine⟨u,rx,.inl ⟨S.par,?_⟩⟩
   show bi p [(p,u)].reverse=sE u
   simp [bi]
  | 1,h1,h2 =>
   cases h1
   cases h2
   exact⟨uy,ry,.inr ⟨.inr S.fre,c,lky,hcell'⟩⟩
  | i+2,h1,h2=>simp at h2
 ·obtain⟨_,rfl⟩:=lkc z d h
  exact⟨_,hcell'⟩
 ·obtain⟨_,rfl⟩:=lkc z d h
  exact I.freeC y _ hc
theorem UV(S:JZ p y scope)(hr:Room (k+3) X.A)(hbind:bindArgs (bW name qual params body scope [(y,c)] pm cv ctv) ⟨[u],[]⟩=pure [(p,u)])(I:Inv X sI σ H s)
  (ho:s.heap.get? f=sE { cls:=.type "function",data:=.func (bW name qual params body scope [(y,c)] pm cv ctv) }) (hcd:s.heap.CodeRec cv qual) (hy:X.N[iy]? = sE y) (hσ:σ[iy]? = sE (sE vy)) (hvis:X.env.scope.names.lookup y=sE .cell) (hc:X.env.cells.lookup y=sE c)
  (rx:RelV x u) (hb:PE (WZ X [p,y] s H qual scope f cv [(y,c)]) body t) (h:t [sE x,sE vy] H Q) :
  oS (model X.prog X.w) X.A.in1.in1 (call (.ref f) [u]) (EP X sI σ Q) (λ_ _=>False) s:=by
 have hr2:Room (k+1) X.A.in1.in1:=hr.in1.in1
 refine pT (PySem.W.kla_callFunE hr2.depth ho rfl S.co S.gen rfl hcd ?_)
 rw[hbind]
 refine oJ (rg S.nocell (λz hz=>?_) (λh₁ hns hsb=>?_) S.kind)
 ·have e:z=(p,u):=by simpa using hz
  subst e
  exact S.par
 have hk₁:∀b o,s.heap.get? b=sE o->h₁.get? b=sE o:=λb o e=>hsb.extBut b o (aF (ay e)) (aa _ e)
 refine⟨I.nolimit.keeps hk₁,?_⟩
 have I1:=KU (qual:=qual) (f:=f) (cv:=cv) (tk:=s.toks+1) S hr2.hd I hy hσ hvis hc rx hns hk₁
 show pN _ _ (.expr body (eh qual scope s.heap.objs.size f cv [(y,c)])) _ _
 refine PySem.W.kla_codeExpr (pS (hb [] _ _ H Q I1 h) (λv s' hv=>?_) λ_ _ z=>False.elim z)
 obtain⟨w',H',J,rw',q⟩:=hv
 exact I.after ⟨w',H',J.os,J.bare,J.base,J.hok,rw',q⟩
end
end L3
namespace L3
noncomputable def cdE(c':oP)(q:oW):HO:=.ext λh=>h.CodeRec (.ref c') q
noncomputable def fnE(f:oP)(o:pC):HO:=.ext λh=>h.get? f=sE o
def TabOk(H:Hp)(P:oP)(pos:pR)(q:oW):Prop :=
 ∃ps:Array oQ,H P=sE (.tbl ps)/\sB ps.toList/\(codeAmong pos ps.toList=sF\/∃c',codeAmong pos ps.toList=sE (.ref c')/\H c'=sE (cdE c' q))
def SamT(P:oP)(H H':Hp):Prop:=∀b o,b≠P->H b=sE o->H' b=sE o
def LamAt(H:Hp)(f:oP)(name qual:oW)(params:rp)(body:oZ)(scope:pJ)(cl:List (oW × oP)):Prop :=
 ∃(c':oP) (pm ctv:oQ),H c'=sE (cdE c' qual)/\H f=sE (fnE f { cls:=.type "function",data:=.func (bW name qual params body scope cl pm (.ref c') ctv) })
theorem zae{P:oV}{w:oX}{H:Hp}{h:pb}{c':oP}{q:oW}(x:h.CodeRec (.ref c') q):ObjOk P w H h c' (cdE c' q):=by
 refine⟨x,?_,λh1 h2 a k=>?_⟩
 ·obtain⟨c,o,vs,t,e,g,_⟩:=x
  cases e
  exact⟨o,g⟩
 ·obtain⟨c,o,vs,t,e,g,r⟩:=a
  cases e
  exact⟨_,o,vs,t,rfl,k o g,r⟩
theorem QO{P:oV}{w:oX}{H:Hp}{h:pb}{f:oP}{o:pC}(x:h.get? f=sE o):ObjOk P w H h f (fnE f o) :=
 ⟨x,⟨o,x⟩,λh1 h2 a k=>k o a⟩
section
variable{X:Cx}{sI:List (oP × pC)}{σ:L2.St}{H:Hp}{s:oR}
theorem Inv.grow{P c' f:oP}{ps more:Array oQ}{o:pC}{q:oW}{h':pb}{tk:Nat}(I:Inv X sI σ H s)(hP:H P=sE (.tbl ps))(hk:∀b u,b≠P->s.heap.get? b=sE u->h'.get? b=sE u)(hP':h'.get? P=sE { cls:=.none,data:=.fields (ps ++ more) })
  (hc:s.heap.objs.size<=c') (hf:s.heap.objs.size<=f) (hcf:c'≠f) (hcr:h'.CodeRec (.ref c') q) (hfo:h'.get? f=sE o) :
  Inv X sI σ (upd (upd (upd H P (.tbl (ps ++ more))) c' (cdE c' q)) f (fnE f o)) { s with heap:=h',toks:=tk }:=by
 have Pl:P<s.heap.objs.size:=I.hok.lt hP
 have hPc:P≠c':=aF (aB Pl hc)
 have hPf:P≠f:=aF (aB Pl hf)
 have old:∀b,b<s.heap.objs.size->b≠P->(upd (upd (upd H P (.tbl (ps ++ more))) c' (cdE c' q)) f (fnE f o)) b=H b:=λb hb hbP=>by
  rw[zo (aF (aB hb hf)),zo (aF (aB hb hc)),zo hbP]
 have atP:(upd (upd (upd H P (.tbl (ps ++ more))) c' (cdE c' q)) f (fnE f o)) P=sE (.tbl (ps ++ more)):=by
  rw[zo hPf,zo hPc,ze]
 have neP:∀b,H b=sF->b≠P:=λb e z=>by rw[z,hP] at e;cases e
 refine I.un ⟨λb u e n _ _=>hk b u (neP b n) e,λb u e n _ _=>⟨u.slots,hk b u (neP b n) e⟩,λb u e n _=>?_,λb u e _=>?_,λb xs e=>?_,λb ob u e=>?_,λb qs e=>?_⟩ λb u e=>?_
 ·rw[old b (ay e) (neP b n)]
  exact n
 ·by_cases hb:b=P
  ·subst hb;exact⟨_,hP'⟩
  ·exact⟨u,hk b u hb e⟩
 ·rw[old b (I.hok.lt e) (λz=>by rw[z,hP] at e;cases e)]
  exact e
 ·rw[old b (I.hok.lt e) (λz=>by rw[z,hP] at e;cases e)]
  exact e
 ·by_cases hb:b=P
  ·subst hb
   rw[hP] at e
   cases e
   exact⟨more,atP⟩
  ·rw[old b (I.hok.lt e) hb]
   exact⟨#[],by rw[e];simp⟩
 ·by_cases hbf:b=f
  ·subst hbf
   rw[ze] at e
   cases e
   exact QO hfo
  ·rw[zo hbf] at e
   by_cases hbc:b=c'
   ·subst hbc
    rw[ze] at e
    cases e
    exact zae hcr
   ·rw[zo hbc] at e
    by_cases hbP:b=P
    ·subst hbP
     rw[ze] at e
     cases e
     exact hP'
    ·rw[zo hbP] at e
     refine (I.hok b u e).stay (λd v hd g=>hk d v ?_ g) (λd g=>?_) λd xs g=>?_
     ·rcases hd with z | z
      ·rw[z];exact hbP
      ·intro z';rw[z',hP] at z;cases z
     ·rw[old d (I.hok.lt g) (λz=>by rw[z,hP] at g;cases g)]
      exact g
     ·rw[old d (I.hok.lt g) (λz=>by rw[z,hP] at g;cases g)]
      exact g
end
end L3
namespace L3
theorem ut{a b:Int}{v:oQ}:∀(l:List oQ),sB l->sB (l ++ [rawInt a,rawInt b,v])
 | [],_=>trivial
 | .int _ _::.int _ _::_::rest,h=>ut rest h
theorem Zy{h h':pb}{mg:oW->Option oQ}{T:oP}(x:h.BuiltinsAt mg T)(k:∀b o,h.get? b=sE o->h'.get? b=sE o):h'.BuiltinsAt mg T:=by
 obtain⟨bm,o,b1,b2,b3,b4,b5,b6⟩:=x
 exact⟨bm,o,b1,b2,b3,b4,k _ _ b5,b6⟩
section
variable{X:Cx}{sI:List (oP × pC)}{σ:L2.St}{H:Hp}{s:oR}{cc P c:oP}{y:oW}{params:rp}{body:oZ}{scope:pJ}{pos:pR}{Q:VK}
theorem Qw(hcode:X.env.code=.ref cc)(hC:PySem.W.CodeHd X.base cc P)(hB:X.base.BuiltinsAt X.mg P)(hgP:oK≠P)(hcl:closureFor scope X.env=pure [(y,c)])(hdef:defaultsOf params X.env=([],[]))(I:Inv X sI σ H s)
  (hT:TabOk H P pos (X.env.qual ++ "<lambda>"))
  (h:∀f H',H f=sF->LamAt H' f "<lambda>" (X.env.qual ++ "<lambda>") params body scope [(y,c)]->TabOk H' P pos (X.env.qual ++ "<lambda>")->SamT P H H'->Q (.ref f) H') :
  oS (model X.prog X.w) X.A (eval (.Lambda params body scope pos) X.env) (EP X sI σ Q) X.xe s:=by
 refine PySem.W.kla_eval hdef ?_
 obtain⟨ps,hP,ht,hh⟩:=hT
 have hPo:s.heap.get? P=sE (PySem.W.tabObj ps):=I.hok _ _ hP
 have hg:=I.mod.glob.keeps I.bk
 have Pl:P<s.heap.objs.size:=I.hok.lt hP
 rcases hh with hn | ⟨c',hit,hc'⟩
 ·refine PySem.W.kla_makeFunction (mg:=X.mg) hcl I.ok.glob hg hcode (hC.keeps I.bk) hPo ht hn hgP (Zy hB I.bk) λc' ctv h' tk hx hge hlt hrec htb=>?_
  have hsz:s.heap.objs.size<=h'.objs.size:=dg (cK hge hlt)
  have I1:=Inv.grow (P:=P) (c':=c') (f:=h'.objs.size) (more:=#[rawInt pos.line,rawInt pos.col,.ref c']) (tk:=tk) (o:={ cls:=.type "function",data:=.func (bW "<lambda>" (X.env.qual ++ "<lambda>") params body scope [(y,c)] ((X.mg "__name__").getD .none) (.ref c') ctv) }) I hP
   (λb u hb e=>aa _ (hx b u hb e)) (aa _ htb) hge hsz (aF hlt) (hrec.push _) (aI _ rfl)
  have hPc:P≠c':=aF (aB Pl hge)
  have hPf:P≠h'.objs.size:=aF (aB Pl hsz)
  have atc:(upd (upd (upd H P (.tbl (ps ++ #[rawInt pos.line,rawInt pos.col,.ref c']))) c' (cdE c' (X.env.qual ++ "<lambda>"))) h'.objs.size (fnE h'.objs.size { cls:=.type "function",data:=.func (bW "<lambda>" (X.env.qual ++ "<lambda>") params body scope [(y,c)] ((X.mg "__name__").getD .none) (.ref c') ctv) })) c'=sE (cdE c' (X.env.qual ++ "<lambda>")):=by
   rw[zo (aF hlt),ze]
  refine⟨.ref h'.objs.size,_,I1,rfl,h _ _ (I.hok.fresh hsz) ⟨c',_,ctv,atc,ze⟩ ⟨ps ++ #[rawInt pos.line,rawInt pos.col,.ref c'],?_,?_,.inr ⟨c',?_,atc⟩⟩ λb o hb e=>?_⟩
  ·rw[zo hPf,zo hPc,ze]
  ·rw[fg]
   exact ut _ ht
  ·rw[fg]
   exact codeAmong_snoc _ ht hn
  ·have hl:=I.hok.lt e
   rw[zo (aF (aB hl hsz)),zo (aF (aB hl hge)),zo hb]
   exact e
 ·refine PySem.W.kla_makeFunctionHit (mg:=X.mg) hcl I.ok.glob hg hcode (hC.keeps I.bk) hPo ht hit (Zy hB I.bk) λctv h' tk hk hsz=>?_
  have hfr:H h'.objs.size=sF:=I.hok.fresh hsz
  have I1:=I.laid (a:=h'.objs.size) (t':=tk) (h':=h'.push { cls:=.type "function",data:=.func (bW "<lambda>" (X.env.qual ++ "<lambda>") params body scope [(y,c)] ((X.mg "__name__").getD .none) (.ref c') ctv) })
   (o:=fnE h'.objs.size { cls:=.type "function",data:=.func (bW "<lambda>" (X.env.qual ++ "<lambda>") params body scope [(y,c)] ((X.mg "__name__").getD .none) (.ref c') ctv) })
   (λb u e=>aa _ (hk b u e)) hsz (QO (aI _ rfl))
  have sm:=zf (o:=fnE h'.objs.size { cls:=.type "function",data:=.func (bW "<lambda>" (X.env.qual ++ "<lambda>") params body scope [(y,c)] ((X.mg "__name__").getD .none) (.ref c') ctv) }) hfr
  exact⟨.ref h'.objs.size,_,I1,rfl,h _ _ hfr ⟨c',_,ctv,sm _ _ hc',ze⟩ ⟨ps,sm _ _ hP,ht,.inr ⟨c',hit,sm _ _ hc'⟩⟩ λb o _ e=>sm _ _ e⟩
end
end L3
namespace L3
def zcd(R:V->Hp->Prop):List V->Hp->Prop
 | [v],H=>R v H
 | _,_=>False
theorem Uf{R:V->Hp->Prop}:∀{vs:List V} {H:Hp},zcd R vs H->∃v,vs=[v]/\R v H
 | [v],_,h=>⟨v,rfl,h⟩
def zcY(P:oP)(pos:pR)(q:oW)(LA:Hp->oP->Prop):TE:=λσ H Q=>TabOk H P pos q/\∀f H',H f=sF->LA H' f->TabOk H' P pos q->SamT P H H'->Q (.ref f) H'
def QK{α:Type}(K:oO)(F:KeyFam α)(P:oP)(pos:pR)(q:oW)(LA:Hp->oP->Prop)(iy:Nat)(te tb:TE):TE:=λσ H Q=>te σ H λv H1=>TabOk H1 P pos q /\
 ∀f H2,H1 f=sF->LA H2 f->TabOk H2 P pos q->SamT P H1 H2->∃l xs vy,v=.ref l/\SqL K H2 l xs/\xs.length<64/\σ[iy]? = sE (sE vy)/\uD (λx H Q=>LA H f/\tb [sE x,sE vy] H Q) xs [] H2 (Wf K F xs Q)
section
variable{X:Cx}{cc P c:oP}{x p y:oW}{params:rp}{body e:oZ}{scope:pJ}{lpos kpos pos pp:pR}{k iy:Nat}{te tb:TE}
theorem zad(hcode:X.env.code=.ref cc)(hC:PySem.W.CodeHd X.base cc P)(hB:X.base.BuiltinsAt X.mg P)(hgP:oK≠P)(hcl:closureFor scope X.env=pure [(y,c)])(hdef:defaultsOf params X.env=([],[])) :
  PE X (.Lambda params body scope lpos) (zcY P lpos (X.env.qual ++ "<lambda>") λH f=>LamAt H f "<lambda>" (X.env.qual ++ "<lambda>") params body scope [(y,c)]):=by
 intro sI s σ H Q I h
 exact Qw hcode hC hB hgP hcl hdef I h.1 h.2
theorem Qa{α:Type}{F:KeyFam α}(FO:F.Ok)(S:JZ p y scope)(hr:Room (k+3) X.A)(hg:Gl X x)(hm:X.mg x=sF)(hv:pE x=sE (.builtin "sorted"))(ha:PA X [e] (zN te ww))
  (hcode:X.env.code=.ref cc) (hC:PySem.W.CodeHd X.base cc P) (hB:X.base.BuiltinsAt X.mg P) (hgP:oK≠P) (hcl:closureFor scope X.env=pure [(y,c)]) (hdef:defaultsOf params X.env=([],[]))
  (hbind:∀(cv pm ctv u:oQ),bindArgs (bW "<lambda>" (X.env.qual ++ "<lambda>") params body scope [(y,c)] pm cv ctv) ⟨[u],[]⟩=pure [(p,u)]) (hy:X.N[iy]? = sE y) (hvis:X.env.scope.names.lookup y=sE .cell) (hc:X.env.cells.lookup y=sE c)
  (hb:∀(s:oR) (H:Hp) (f:oP) (cv:oQ),Room k (WZ X [p,y] s H (X.env.qual ++ "<lambda>") scope f cv [(y,c)]).A->PE (WZ X [p,y] s H (X.env.qual ++ "<lambda>") scope f cv [(y,c)]) body tb)
  (hn:x≠"__name__":=by decide) (hdb:(x == ("__debug__" : oW))=sH:=by decide)
  (hks:(pF pos (ph [⟨sE "key",.Lambda params body scope lpos,kpos⟩] X.env)).filterMap (·.1)=[bF "key"]:=by rfl)
  (hst:pj pos (oM [e] X.env)=(sH,eval e X.env)::pj pos (oM [] X.env):=by rfl) (hpl:(pj pos (oM [e] X.env)).any (·.1)=sH:=by rfl)
  (hall:(pF pos (ph [⟨sE "key",.Lambda params body scope lpos,kpos⟩] X.env)).all (·.1.isSome)=sG:=by rfl) (hkw:(pF pos (ph [⟨sE "key",.Lambda params body scope lpos,kpos⟩] X.env)).any (·.1.isNone)=sH:=by rfl) :
  PE X (.Call (.Name x pp) [e] [⟨sE "key",.Lambda params body scope lpos,kpos⟩] pos) (QK X.K F P lpos (X.env.qual ++ "<lambda>") (λH f=>LamAt H f "<lambda>" (X.env.qual ++ "<lambda>") params body scope [(y,c)]) iy te tb):=by
 intro sI s σ H Q I h
 have hlam:PE X (.Lambda params body scope lpos) (zcY P lpos (X.env.qual ++ "<lambda>") λH f=>LamAt H f "<lambda>" (X.env.qual ++ "<lambda>") params body scope [(y,c)]):=zad hcode hC hB hgP hcl hdef
 refine px (vd I hg hm hv ?_ hn hdb)
 have h':(zN te ww) σ H (zcd λv H1=>TabOk H1 P lpos (X.env.qual ++ "<lambda>")/\∀f H2,H1 f=sF->LamAt H2 f "<lambda>" (X.env.qual ++ "<lambda>") params body scope [(y,c)]->TabOk H2 P lpos (X.env.qual ++ "<lambda>")->SamT P H1 H2 ->
   ∃l xs vy,v=.ref l/\SqL X.K H2 l xs/\xs.length<64/\σ[iy]? = sE (sE vy)/\uD (λx H Q=>LamAt H f "<lambda>" (X.env.qual ++ "<lambda>") params body scope [(y,c)]/\tb [sE x,sE vy] H Q) xs [] H2 (Wf X.K F xs Q)):=h
 refine callWith_kw (thn (ha pos sI s σ H _ I h') λus s1 ⟨vs,H1,I1,r1,q1⟩=>?_) hst hpl hall hkw
 obtain⟨v,rfl,hT,q1⟩:=Uf q1
 obtain⟨u,rfl,ru⟩:=wP r1
 refine thn ((V1 hlam Q0:PK X [⟨sE "key",.Lambda params body scope lpos,kpos⟩] _) pos sI s1 σ H1 (zcd λkv H2=>∃f,kv=.ref f/\LamAt H2 f "<lambda>" (X.env.qual ++ "<lambda>") params body scope [(y,c)] /\
   ∃l xs vy,v=.ref l/\SqL X.K H2 l xs/\xs.length<64/\σ[iy]? = sE (sE vy)/\uD (λx H Q=>LamAt H f "<lambda>" (X.env.qual ++ "<lambda>") params body scope [(y,c)]/\tb [sE x,sE vy] H Q) xs [] H2 (Wf X.K F xs Q)) I1 ⟨hT,λf H2 a1 a2 a3 a4=>⟨f,rfl,a2,q1 f H2 a1 a2 a3 a4⟩⟩) λws s2 ⟨zs,H2,I2,r2,q2⟩=>?_
 obtain⟨kv,rfl,f,rfl,hLA,l,xs,vy,rfl,hS,hz,hσ,hk⟩:=Uf q2
 obtain⟨w',rfl,rw'⟩:=wP r2
 cases rw'
 cases ru
 rw[hks]
 show oS _ _ (call (.builtin "sorted") [.ref l] [(bF "key",.ref f)]) _ _ _
 refine WS FO (k:=k+1) hr (λpins' s3 H3 x3 u3 Q3 I3 r3 h3=>?_) I2 hS hz hk
 obtain⟨⟨c',pm,ctv,e1,e2⟩,h4⟩:=h3
 have hcd:s3.heap.CodeRec (.ref c') (X.env.qual ++ "<lambda>"):=(I3.hok _ _ e1).1
 have ho:=(I3.hok _ _ e2).1
 exact UV (k:=k) S hr (hbind _ _ _ _) I3 ho hcd hy hσ hvis hc r3 (hb s3 H3 f (.ref c') (hr.in1.in1.deeper _)) h4
end
end L3
namespace L3
section
variable{K:oO}
theorem SamT.of{T:oP}{H H':Hp}(s:Same H H'):SamT T H H':=λb o _ e=>s b o e
theorem SamT.trans{T:oP}{H H' H'':Hp}(s:SamT T H H')(s':SamT T H' H''):SamT T H H'':=λb o n e=>s' b o n (s b o n e)
theorem SamT.at{T b:oP}{H H':Hp}{ps:Array oQ}{o:HO}(s:SamT T H H')(hT:H T=sE (.tbl ps))(e:H b=sE o)(ho:∀qs,o≠.tbl qs):H' b=sE o:=s b o (λz=>by rw[z,hT] at e;cases e;exact ho _ rfl) e
theorem SamT.free{T b:oP}{H H':Hp}{o:HO}(s:SamT T H H')(hT:H' T=sE o)(h:H' b=sF):H b=sF:=by
 cases e:H b with
 | none=>rfl
 | some u =>
  by_cases hb:b=T
  ·rw[hb,hT] at h;cases h
  ·rw[s b u hb e] at h;cases h
theorem SamT.seqL{T a:oP}{H H':Hp}{ps:Array oQ}{xs:List V}(s:SamT T H H')(hT:H T=sE (.tbl ps))(h:SqL K H a xs):SqL K H' a xs:=by
 rcases h with (h | ⟨o,h⟩) | h
 ·exact .inl (.inl (s.at hT h λ_ z=>by cases z))
 ·exact .inl (.inr ⟨o,s.at hT h λ_ z=>by cases z⟩)
 ·exact .inr h
theorem SamT.seqT{T a:oP}{H H':Hp}{ps:Array oQ}{xs:List V}(s:SamT T H H')(hT:H T=sE (.tbl ps))(h:SqT K H a xs):SqT K H' a xs:=by
 rcases h with (h | ⟨o,h⟩) | h
 ·exact .inl (.inl (s.at hT h λ_ z=>by cases z))
 ·exact .inl (.inr ⟨o,s.at hT h λ_ z=>by cases z⟩)
 ·exact .inr h
mutual
theorem Is.samT{T:oP}{H H':Hp}{ps:Array oQ}(s:SamT T H H')(hT:H T=sE (.tbl ps)):∀(d:D) (v:V),Is K H d v->Is K H' d v
 | .non,v,h=>by simp only[Is] at h ⊢;exact h
 | .bl b,v,h=>by simp only[Is] at h ⊢;exact h
 | .int b,v,h=>by simp only[Is] at h ⊢;exact h
 | .str b,v,h=>by simp only[Is] at h ⊢;exact h
 | .lst l,v,h=>by
  simp only[Is] at h ⊢
  obtain⟨a,xs,e1,e2,e3⟩:=h
  exact⟨a,xs,e1,s.seqL hT e2,Iss.samT s hT l xs e3⟩
 | .tup l,v,h=>by
  simp only[Is] at h ⊢
  obtain⟨a,xs,e1,e2,e3⟩:=h
  exact⟨a,xs,e1,s.seqT hT e2,Iss.samT s hT l xs e3⟩
theorem Iss.samT{T:oP}{H H':Hp}{ps:Array oQ}(s:SamT T H H')(hT:H T=sE (.tbl ps)):∀(l:List D) (vs:List V),Iss K H l vs->Iss K H' l vs
 | [],vs,h=>by simp only[Iss] at h ⊢;exact h
 | d::l,vs,h=>by
  simp only[Iss] at h ⊢
  obtain⟨v,r,e1,e2,e3⟩:=h
  exact⟨v,r,e1,Is.samT s hT d v e2,Iss.samT s hT l r e3⟩
end
theorem LsA.samT{T a:oP}{H H':Hp}{ps:Array oQ}{ds:List D}(h:LsA K H a ds)(s:SamT T H H')(hT:H T=sE (.tbl ps)):LsA K H' a ds:=by
 obtain⟨xs,h1,h2⟩:=h
 exact⟨xs,s.at hT h1 (λ_ z=>by cases z),Iss.samT s hT _ _ h2⟩
theorem TabOk.same{H H':Hp}{T:oP}{pos:pR}{q:oW}(h:TabOk H T pos q)(s:Same H H'):TabOk H' T pos q:=by
 obtain⟨ps,h1,h2,h3⟩:=h
 refine⟨ps,s _ _ h1,h2,?_⟩
 rcases h3 with h3 | ⟨c',h4,h5⟩
 ·exact .inl h3
 ·exact .inr ⟨c',h4,s _ _ h5⟩
theorem LamAt.same{H H':Hp}{f:oP}{name qual:oW}{params:rp}{body:oZ}{scope:pJ}{cl:List (oW × oP)}(h:LamAt H f name qual params body scope cl)(s:Same H H'):LamAt H' f name qual params body scope cl:=by
 obtain⟨c',pm,ctv,h1,h2⟩:=h
 exact⟨c',pm,ctv,s _ _ h1,s _ _ h2⟩
end
end L3
namespace L3
section
variable{P:oV}{w:oX}{K:oO}{mg mb:oW->Option oQ}{CX:CXT}{k:Nat}{fa a T cc:oP}{fd:oU}{x:oW}{sp:Sp}{s₁:oR}{vs:List oQ}{ns:List Int}{ps:Array oQ}
theorem Zz(KX:K.In s₁.heap)(hKT:K.lookup T=sF)(hT:s₁.heap.get? T=sE { cls:=.none,data:=.fields ps })(hTc:sv s₁.heap T)(hns:s₁.heap.Ns oK mg)(hb:s₁.heap.Ns builtinsNs mb)(hbb:∀x:oW,x≠"__name__"->mb x=pE x)(hlim:s₁.heap.NoLimit)(hg:s₁.gens=#[])
  (ha:s₁.heap.get? a=sE { cls:=.type "list",data:=.seq vs.toArray }) (hr:Room k callerA)
  (hbm:s₁.heap.BuiltinsAt mg T) (hcd:PySem.W.CodeHd s₁.heap cc T) (F:∀base:pb,K.In base->base.Ns oK mg->base.BuiltinsAt mg T->PySem.W.CodeHd base cc T->yg P w K mg base CX k fa fd [x] sp) (hbind:∀(s:oR) (u:oQ),rR s fd ⟨[u],[]⟩ [(x,u)])
  (hCX:∀H e s',CX [] H s₁ (λ_ _ _=>False) e s'->False) (H:Hp) (h1:H T=sE (.tbl ps)) (h2:∀b u,H b=sE u->b=T\/(b=a/\K.lookup a=sF/\u=.frz { cls:=.type "list",data:=.seq vs.toArray } (.lst (ns.map V.int))))
  (hok:HOk P w H s₁.heap) (hsp:sp [.ref a] H (λv _=>v=.bl sG) λ_ _ _=>False) :
  pN (model P w) callerA (.call (.ref fa) ⟨[.ref a],[]⟩) (λr s'=>r=.ok (.ret (.bool sG))/\OldK s₁.heap s'.heap/\s'.os=s₁.os/\rn s'.gens) s₁:=by
 have stay:∀b o,s₁.heap.get? b=sE o->(b≠T)->(b≠a)->(VO s₁.heap H).get? b=sE o:=λb o e n1 n2=>Xr e (by
  cases q:H b with
  | none=>rfl
  | some u =>
   rcases h2 b u q with z | z
   ·exact absurd z n1
   ·exact absurd z.1 n2)
 have nsStay:∀(b:oP) (m:oW->Option oQ),s₁.heap.Ns b m->(VO s₁.heap H).Ns b m:=λb m hN=>by
  obtain⟨o,es,ep,e,d,rest⟩:=hN
  refine⟨o,es,ep,stay b o e (λz=>?_) (λz=>?_),d,rest⟩
  ·rw[z,hT] at e
   cases e
   cases d
  ·rw[z,ha] at e
   cases e
   cases d
 have kStay:K.In (VO s₁.heap H):=λb o e=>by
  have g:=KX b o e
  refine Xr g ?_
  cases q:H b with
  | none=>rfl
  | some u =>
   rcases h2 b u q with z | z
   ·rw[z,hKT] at e
    cases e
   ·rw[z.1,z.2.1] at e
    cases e
 have bStay:(VO s₁.heap H).BuiltinsAt mg T:=by
  obtain⟨bm,o,b1,b2,b3,b4,b5,b6,b7,b8⟩:=hbm
  refine⟨bm,o,b1,b2,b3,b4,stay bm o b5 b4 (λz=>?_),b6,b7,b8⟩
  rw[z,ha] at b5
  cases b5
  simp at b6
 have cStay:PySem.W.CodeHd (VO s₁.heap H) cc T:=by
  obtain⟨o,vs',file,tf,flags,tg,inF,text,tt,c1,c2,c3,c4,c5,c6,c7,c8,c9,c10⟩:=hcd
  refine⟨o,vs',file,tf,flags,tg,inF,text,tt,stay cc o c1 c10 (λz=>?_),c2,c3,c4,c5,c6,c7,c8,c9,c10⟩
  rw[z,ha] at c1
  cases c1
  simp at c2
 obtain⟨mc,l1,l2⟩:=hlim
 have M0:Mod K mg (VO s₁.heap H):={ kin:=kStay,glob:=nsStay _ _ hns,blt:=⟨mb,nsStay _ _ hb,hbb⟩,nolimit:=⟨mc,nsStay _ _ l1,l2⟩ }
 have E0:Env0 P w K mg (VO s₁.heap H) callerA [] s₁ H:={ frames:=rfl,mod:=M0,bs:=λb o e=>Jp e,bsz:=Nat.le_of_eq (Wj _ _),funs:=trivial,frf:=λb z=>(nomatch (show b ∈ ([]:List oP) from z)),hok:=hok,bare:=.of_eq hg }
 refine pW ((F _ kStay (nsStay _ _ hns) bStay cStay).run callerA [] s₁ H ⟨[.ref a],[]⟩ [.ref a] [.ref a] (λv _=>v=.bl sG) (λ_ _ _=>False) hr E0 (hbind s₁ (.ref a)) (.cons rfl .nil) hsp) λr s' hq=>?_
 rcases r with e | fl
 ·exact (hCX H e s' hq).elim
 rcases fl with _ | _ | _ | u
 all_goals first | exact False.elim hq | skip
 obtain⟨v,H',e1,e2,un,hok',rv,ev⟩:=hq
 have ev':v=V.bl sG:=ev
 subst ev'
 have eu:u=Value.bool sG:=rv
 subst eu
 obtain⟨more,hT2⟩:=un.tbls T ps h1
 have hT3:s'.heap.get? T=sE { cls:=.none,data:=.fields (ps ++ more) }:=hok' T _ hT2
 have each:∀b o,s₁.heap.get? b=sE o->b≠T->s'.heap.get? b=sE o:=λb o e n=>by
  cases q:H b with
  | none=>exact un.keep b o e q (λz=>(nomatch (show b ∈ ([]:List oP) from z))) (λz=>(nomatch z))
  | some ob =>
   rcases h2 b ob q with z | ⟨z,_,zz⟩
   ·exact absurd z n
   ·subst zz
    have g:=(hok' b _ (un.frzs b _ _ q)).1
    rw[z,ha] at e
    cases e
    exact g
 refine⟨rfl,⟨λb o e=>?_,λb o e=>?_⟩,e1,e2⟩
 ·by_cases hbT:b=T
  ·subst hbT
   rw[hT] at e
   cases e
   exact .inr (.inl ⟨hTc,rfl,ps,more,rfl,hT3⟩)
  ·exact .inl (each b o e hbT)
 ·by_cases hbT:b=T
  ·subst hbT
   exact⟨_,hT3⟩
  ·exact⟨o,each b o e hbT⟩
theorem VA(KX:K.In s₁.heap)(hKT:K.lookup T=sF)(hT:s₁.heap.get? T=sE { cls:=.none,data:=.fields ps })(hTc:sv s₁.heap T)(hns:s₁.heap.Ns oK mg)(hb:s₁.heap.Ns builtinsNs mb)(hbb:∀x:oW,x≠"__name__"->mb x=pE x)(hlim:s₁.heap.NoLimit)(hg:s₁.gens=#[])
  (ha:s₁.heap.get? a=sE { cls:=.type "list",data:=.seq vs.toArray }) (hi:sk vs ns) (hl:ns.length<=oN) (hr:Room k callerA)
  (hbm:s₁.heap.BuiltinsAt mg T) (hcd:PySem.W.CodeHd s₁.heap cc T) (F:∀base:pb,K.In base->base.Ns oK mg->base.BuiltinsAt mg T->PySem.W.CodeHd base cc T->yg P w K mg base CX k fa fd [x] sp) (hbind:∀(s:oR) (u:oQ),rR s fd ⟨[u],[]⟩ [(x,u)])
  (hCX:∀H e s',CX [] H s₁ (λ_ _ _=>False) e s'->False) (hsp:∀H:Hp,H T=sE (.tbl ps)->SqL K H a (ns.map V.int)->sp [.ref a] H (λv _=>v=.bl sG) λ_ _ _=>False) :
  pN (model P w) callerA (.call (.ref fa) ⟨[.ref a],[]⟩) (λr s'=>r=.ok (.ret (.bool sG))/\OldK s₁.heap s'.heap/\s'.os=s₁.os/\rn s'.gens) s₁:=by
 have rv:=Zc hi
 have hlv:=hi.length
 have hTa:a≠T:=λz=>by
  rw[z,hT] at ha
  cases ha
 rcases hk:K.lookup a with _ | o
 ·refine Zz (ns:=ns) KX hKT hT hTc hns hb hbb hlim hg ha hr hbm hcd F hbind hCX (upd (upd (λ_=>sF) T (.tbl ps)) a (.frz { cls:=.type "list",data:=.seq vs.toArray } (.lst (ns.map V.int)))) ?_ (λb u e=>?_) (λb u e=>?_) ?_
  ·rw[zo (Ne.symm hTa),ze]
  ·by_cases hba:b=a
   ·subst hba
    rw[ze] at e
    cases e
    exact .inr ⟨rfl,hk,rfl⟩
   ·rw[zo hba] at e
    by_cases hbT:b=T
    ·exact .inl hbT
    ·rw[zo hbT] at e
     cases e
  ·by_cases hba:b=a
   ·subst hba
    rw[ze] at e
    cases e
    exact⟨ha,by rw[af];exact hl,vs,_,rv,ha⟩
   ·rw[zo hba] at e
    by_cases hbT:b=T
    ·subst hbT
     rw[ze] at e
     cases e
     exact hT
    ·rw[zo hbT] at e
     cases e
  ·exact hsp _ (by rw[zo (Ne.symm hTa),ze]) (.inl (.inr ⟨_,ze⟩))
 ·have e:=KX a o hk
  rw[ha] at e
  cases e
  refine Zz (ns:=ns) KX hKT hT hTc hns hb hbb hlim hg ha hr hbm hcd F hbind hCX (upd (λ_=>sF) T (.tbl ps)) ze (λb u e=>?_) (λb u e=>?_) (hsp _ ze (.inr ⟨_,vs.toArray,_,hk,rfl,rfl,rfl,by rw[au,hlv];exact hl,by simpa using rv⟩))
  ·by_cases hbT:b=T
   ·exact .inl hbT
   ·rw[zo hbT] at e
    cases e
  ·by_cases hbT:b=T
   ·subst hbT
    rw[ze] at e
    cases e
    exact hT
   ·rw[zo hbT] at e
    cases e
end
noncomputable def JN(K:oO):Bool:=K.all λp=>match p.2 with
 | ⟨.none,_,.fields _,_⟩=>sH
 | _=>sG
theorem YN{T:oP}{o:pC}:∀{K:oO},K.lookup T=sE o->(T,o) ∈ K
 | [],h=>by cases h
 | p::K,h=>by
  rw[aW] at h
  by_cases hp:T=p.1
  ·rw[show (T == p.1)=sG by simpa using hp] at h
   cases h
   rw[hp]
   exact aD
  ·rw[show (T == p.1)=sH by simpa using hp] at h
   exact aw _ (YN h)
theorem QF{K:oO}{T:oP}{ps:Array oQ}{h:pb}(e:JN K=sG)(X:K.In h)(hT:h.get? T=sE { cls:=.none,data:=.fields ps }):K.lookup T=sF:=by
 cases q:K.lookup T with
 | none=>rfl
 | some o =>
  have g:=X _ _ q
  rw[hT] at g
  cases g
  have:=List.all_eq_true.mp e _ (YN q)
  simp at this
theorem walk_ofT{l:PySem.W.OpenLaw}{n k:Nat}{q:oV}{loose:List oW}{XP:(oW->Option oQ)->pb->Prop}{YP:oX->pb->Prop}{d din:DefRec}{K:Params->oO}{CX:oX->CXT}{sp:oX->oP->Sp}{x:oW}
  (hn:l.most=sE n) (hn2:n<=oN) (hdf:d.params.defaults=[]) (hr:Room k callerA) (hdin:din ∈ recsOf q)
  (hY:∀(w:oX) (h:pb),YP w h->(K w.params).In h) (hno:∀w:oX,JN (K w.params)=sG)
  (F:∀(w:oX) (mg:oW->Option oQ) (fa:oP) (h:pb) (cc T:oP),(K w.params).In h->h.Ns oK mg->mg d.name=sE (.ref fa)->(∃a o fd,mg din.name=sE (.ref a)/\h.get? a=sE o/\o.data=.func fd/\fd.code=.ref cc)->oK≠T ->
   ∃fd:oU,(∀(s:oR) (u:oQ),rR s fd ⟨[u],[]⟩ [(x,u)]) /\
    ∀base:pb,(K w.params).In base->base.Ns oK mg->base.BuiltinsAt mg T->PySem.W.CodeHd base cc T->yg l.prog w (K w.params) mg base (CX w) k fa fd [x] (sp w T))
  (hsp:∀(w:oX) (H:Hp) (a:oP) (ns:List Int) (T:oP),ns.length<=n->(∀z ∈ ns,uu z)->H T=sE (.tbl #[])->SqL (K w.params) H a (ns.map V.int)->sp w T [.ref a] H (λv _=>v=.bl sG) λ_ _ _=>False)
  (hCX:∀(w:oX) (H:Hp) (s:oR) (e:oQ) (s':oR),CX w [] H s (λ_ _ _=>False) e s'->False) :
  PySem.W.WalkO q loose XP YP l.row.toRowW d [] (λf vs=>fF f vs):=by
 refine Zn hn hdf λw s₀ s₁ mg mb fa o pm cd doc a vs ns G Y ho hd hcd hmg hobj hints hlen hb' hg=>?_
 have X0:=hY w _ Y
 obtain⟨ai,oi,fdi,cc,T,m1,m2,m3,m4,m5,m6⟩:=G.T.tab din hdin
 have hcd':PySem.W.CodeHd s₁.heap cc T:=PySem.W.CodeHd.of m5 m6
 have hTo:s₁.heap.get? T=sE { cls:=.none,data:=.fields #[] }:=m6.2
 have hTc:sv s₁.heap T:=m6.isCodeTable
 have hgT:oK≠T:=λz=>by
  obtain⟨o,es,ep,e,hd',_⟩:=G.T.g
  rw[z,hTo] at e
  cases e
  cases hd'
 have hbm:s₁.heap.BuiltinsAt mg T:=by
  obtain⟨bm,ob,b1,b2,b3,b4,b5,b6⟩:=G.T.bmain
  refine⟨bm,ob,b1,b2,λz=>?_,λz=>?_,b3,b4,b5,b6⟩
  ·obtain⟨o,es,ep,e,hd',_⟩:=G.T.g
   rw[z,e] at b3
   cases b3
   rw[hd'] at b6
   cases b6
  ·rw[z,hTo] at b3
   cases b3
   cases b4
 obtain⟨fd,hbd,hF⟩:=F w mg fa _ cc T X0 G.T.g hmg ⟨ai,oi,fdi,m1,m2,m3,m4⟩ hgT
 exact VA (T:=T) (ps:=#[]) X0 (QF (hno w) X0 hTo) hTo hTc G.T.g G.T.b G.T.builtins G.T.nolimit hg hobj hints (aR hlen hn2) hr hbm hcd' hF hbd (λH e s'=>hCX w H s₁ e s') λH h1 h2=>hsp w H a ns T hlen hb' h1 h2
theorem Jv{P:oV}{w:oX}{K:oO}{mg:oW->Option oQ}{base:pb}{x qual:oW}{st:pf}{f cc:oP}{fd:oU}{N ps:List oW}{k:Nat}{sp:Sp}(F:Fun K x qual st f fd)(hcc:fd.code=.ref cc)(S:zr N ps (zb st))(len:∀vs H Q E,sp vs H Q E->vs.length=ps.length)
  (hbody:∀(A:oY) (outer:List rK) (s:oR) (H:Hp) (vs:List V) (Q:VK) (E:XK),Room k (A.deeper (rm qual (zb st) s.heap.objs.size f (.ref cc)))->sp vs H Q E ->
   ∃t,PSs (uQ CX0 P w K mg base N qual (zb st) f (.ref cc) A outer s H E).nox (zl st) t/\t { nx:=λ_ H'=>Q .non H',rt:=Q } (start N vs) H):yg P w K mg base CX0 (k+1) f fd ps sp:=by
 obtain⟨oc,od,kV,doc,pm,an,cdv,ct,osl,rfl,lk,hcd⟩:=F.ex
 have e:cdv=.ref cc:=hcc
 subst e
 refine QC lk hcd S len λA outer s H vs Q E hr hsp=>?_
 obtain⟨t,h,q⟩:=hbody A outer s H vs Q E hr hsp
 exact⟨t,h.nox,q⟩
end L3
namespace PySem
namespace F
end F
section
variable{prog:oV}{w:oX}{A:oY}{E:oQ->oR->Prop}{s:oR}
def Heap.IsRevS(h:pb)(a:oP)(x:oW)(t:rB)(i:Int):Prop:=∃o,h.get? a=sE o/\o.cls=.type "reversed"/\o.data=.fields #[.str x t,rawInt i]
theorem Heap.IsRevS.typeIs{a:oP}{x:oW}{t:rB}{i:Int}(z:s.heap.IsRevS a x t i):s.TypeIs (.ref a) "reversed":=let ⟨o,ho,hc,_⟩:=z; ⟨o,ho,hc⟩
theorem Heap.IsRevS.at{h h':pb}{a:oP}{x:oW}{t:rB}{i:Int}(z:h.IsRevS a x t i)(e:∀o,h.get? a=sE o->h'.get? a=sE o):h'.IsRevS a x t i:=let ⟨o,ho,r⟩:=z; ⟨o,e _ ho,r⟩
end
section
variable{prog:oV}{w:oX}{A:oY}{E:oQ->oR->Prop}{s:oR}
end
end PySem
namespace L3
section
variable{X:Cx}{o a:oZ}{to:TE}{ta:TA}{apos cpos p pos2:pR}
end
end L3
namespace L2
section
variable{X:Cx}{tg:oZ}
end
end L2
namespace L3
open PySem L2
section
variable{g:TG}{tt:TT}{te:TE}{own:Nat}{ix:List Nat}{σ:L2.St}{H1:Hp}{Q:VK}{D:oP}
end
end L3
namespace L3
open PySem.AutoSeq1 (wpAny_loadPart')
open MeetsSeq MeetsSeq2 MeetsSeq3 SeqRoads2 SeqAt
section
variable{X:Cx}{sI:List (oP × pC)}{σ:St}{H:Hp}{s:oR}
end
end L3
namespace L3
section
variable{prog:oV}{w:oX}{A:oY}{R:rQ->oR->Prop}{I:oP}{fp wr:List oP}{G:Array so->Array so->Prop}{n:Nat}{P:Nat->oQ->Prop}{St:Nat->oR->Prop}
end
section
variable{prog:oV}{w:oX}{A:oY}{E:oQ->oR->Prop}{s:oR}
end
end L3
namespace L3
section
variable{X:Cx}
end
end L3
namespace L3
section
variable{g:TG}{tt:TT}{te:TE}{own:Nat}{ix:List Nat}{σ:L2.St}{H1:Hp}{Q:VK}{D:oP}
end
end L3
namespace L3
theorem YD{α:Type}[DecidableEq α](k:α)(v:oQ)(x:α):∀kvs:List (α × oQ),(kvs.map λkv=>if kv.1=k then (kv.1,v) else kv).find? (λkv=>kv.1=x)=(kvs.find? λkv=>kv.1=x).map λkv=>if kv.1=k then (kv.1,v) else kv
 | []=>rfl
 | p::kvs=>by
  have e:(if p.1=k then (p.1,v) else p).1=p.1:=by split <;> rfl
  rw[az,List.find?_cons,List.find?_cons,YD k v x kvs]
  simp only[e]
  by_cases h:p.1=x
  ·simp [h]
  ·simp [h]
theorem XZ{α:Type}[DecidableEq α](kvs:List (α × oQ))(k:α)(v:oQ)(x:α):valueAt (stored kvs k v) x=if x=k then sE v else valueAt kvs x:=by
 unfold stored valueAt
 split
 ·rename_i h
  rw[YD]
  by_cases e:x=k
  ·subst e
   rw[if_pos rfl]
   obtain⟨p,hp,hk⟩:=List.any_eq_true.mp h
   cases hf:kvs.find? λkv=>kv.1=x with
   | none =>
    have:=List.find?_eq_none.mp hf p hp
    exact absurd hk this
   | some q =>
    have hq:=dF hf
    have hq':q.1=x:=by simpa using hq
    simp [hq']
  ·rw[if_neg e]
   cases hf:kvs.find? λkv=>kv.1=x with
   | none=>rfl
   | some q =>
    have hq:=dF hf
    have hq':q.1=x:=by simpa using hq
    have:¬ q.1=k:=λz=>e (hq'.symm.trans z)
    simp [this]
 ·rename_i h
  rw[List.find?_append]
  by_cases e:x=k
  ·subst e
   rw[if_pos rfl]
   have:kvs.find? (λkv=>kv.1=x)=sF:=by
    rw[List.find?_eq_none]
    intro p hp hk
    exact h (List.any_eq_true.mpr ⟨p,hp,hk⟩)
   rw[this]
   simp
  ·have e':¬ k=x:=λz=>e z.symm
   rw[if_neg e]
   simp [e']
section
variable{X:Cx}{pos:pR}
end
end L3
namespace L3
noncomputable def jb(P:oV)(w:oX)(a:oP)(m:oW->Option V)(n:Nat):HO:=.ext λh=>(a == sysModules)=sH/\∃kvs:List (oW × oQ),h.DictOf (cX P w) a kvs/\kvs.length<=n/\∀k,RelO (m k) (valueAt kvs k)
theorem Vw{P:oV}{w:oX}{H:Hp}{h:pb}{a:oP}{m:oW->Option V}{n:Nat}{kvs:List (oW × oQ)}(hs:(a == sysModules)=sH)(d:h.DictOf (cX P w) a kvs)(hl:kvs.length<=n)(r:∀k,RelO (m k) (valueAt kvs k)):ObjOk P w H h a (jb P w a m n) :=
 ⟨⟨hs,kvs,d,hl,r⟩,(let ⟨o,es,ep,ho,_⟩:=d; ⟨o,ho⟩),λh1 h2 ⟨hs,kvs,⟨o,es,ep,ho,rest⟩,z⟩ k=>⟨hs,kvs,⟨o,es,ep,k _ ho,rest⟩,z⟩⟩
section
variable{X:Cx}{pos:pR}
theorem Inv.beyond{sI:List (oP × pC)}{σ:L2.St}{H:Hp}{s:oR}(I:Inv X sI σ H s):(s.heap.objs.size == sysModules)=sH:=by
 obtain⟨o,es,ep,e,_⟩:=I.ok.mod.glob
 have h1:=ay e
 have h2:=I.ok.bsz
 have h3:=I.sz
 have h4:1<=oK:=by decide
 have h5:1<s.heap.objs.size:=aB (cK h4 h1) (aR h2 h3)
 rw[beq_eq_false_iff_ne]
 intro z
 exact bZ h5 z
def za5(P:oV)(w:oX):TE:=λ_ H Q=>∀p,H p=sF->Q (.ref p) (upd H p (jb P w p (λ_=>sF) 0))
theorem Kh:PE X (.Dict [] [] pos) (za5 X.prog X.w):=λsI s σ H Q I h =>
 wpAny_Dict_empty ⟨.ref s.heap.objs.size,_,I.laid (a:=s.heap.objs.size) (t':=s.toks) (λ_ _ q=>aa _ q) (aq _) (Vw (m:=λ_=>sF) (Inv.beyond I) (Heap.DictOf.new s.heap) (aq _) λ_=>trivial),rfl,h _ (I.hok.fresh (aq _))⟩
theorem Inv.tdic{sI:List (oP × pC)}{σ:L2.St}{H:Hp}{s:oR}{a:oP}{m:oW->Option V}{n:Nat}(I:Inv X sI σ H s)(h:H a=sE (jb X.prog X.w a m n)):(a == sysModules)=sH/\∃kvs:List (oW × oQ),s.heap.DictOf (cX X.prog X.w) a kvs/\kvs.length<=n/\∀k,RelO (m k) (valueAt kvs k):=(I.hok _ _ h).1
def zbJ(P:oV)(w:oX):R2:=λx y H Q=>∃a m n k v,x=.ref a/\y=.str k/\H a=sE (jb P w a m n)/\m k=sE v/\Q v H
theorem Ku:IxR X (zbJ X.prog X.w):=by
 intro value slice sI s σ H x y v u Q I rx ry h hs
 obtain⟨a,m,n,k,z,rfl,rfl,ha,hk,q⟩:=h
 cases rx
 obtain⟨t,rfl⟩:=ry
 obtain⟨_,kvs,dd,hl,r⟩:=Inv.tdic I ha
 obtain⟨w',hw,rw'⟩:=RelO.some_of (v:=z) (o:=valueAt kvs k) (by rw[<- hk];exact r k)
 exact tail_any dd.typeIs slot_dict_getitem.lookup (wpAny_getItem_of (knd:=cX X.prog X.w) (strKind_is _ _ _ _) dd.mapOf hw ⟨z,H,I.tok _,rw',q⟩) hs
def zaU(P:oV)(w:oX):V->V->V->Hp->(Hp->Prop)->Prop:=λo i v H Q=>∃a m n k,o=.ref a/\i=.str k/\H a=sE (jb P w a m n)/\n<=100000/\Q (upd H a (jb P w a (λx=>if x=k then sE v else m x) (n+1)))
theorem Um:zcD X (zaU X.prog X.w):=by
 intro sI s σ H o i v ov iv u Q I ro ri rv h
 obtain⟨a,m,n,k,rfl,rfl,ha,hn,q⟩:=h
 cases ro
 obtain⟨t,rfl⟩:=ri
 obtain⟨hsm,kvs,dd,hl,r⟩:=Inv.tdic I ha
 have s16:=yk
 refine wpAny_setItem_pairs (knd:=cX X.prog X.w) (hsz:=by lia) (strKind_is _ _ _ _) dd λh' dd' hs=>⟨_,?_,q⟩
 have he:∃q,h'.get? a=sE q:=let ⟨q,_,_,hq,_⟩:=dd'; ⟨q,hq⟩
 refine I.write (x:=a) (e:=a) (by rw[ha];exact True.intro) (.inl rfl) (λb q hb z=>(hs.2 b hb).trans z) he (Vw hsm dd' (aR (stored_length_le _ _ _) (by lia)) λx=>?_)
 rw[XZ]
 by_cases e:x=k
 ·rw[if_pos e,if_pos e]
  exact rv
 ·rw[if_neg e,if_neg e]
  exact r x
def zau(P:oV)(w:oX):R2:=λx y H Q=>∃a m n k,x=.str k/\y=.ref a/\H a=sE (jb P w a m n)/\Q (.bl (m k).isNone) H
theorem UY:OpR X (pc .NotIn) (zau X.prog X.w):=by
 intro sI s σ H x y v u Q I rx ry h
 obtain⟨a,m,n,k,rfl,rfl,ha,q⟩:=h
 obtain⟨t,rfl⟩:=rx
 cases ry
 obtain⟨hsm,kvs,dd,hl,r⟩:=Inv.tdic I ha
 refine wpAny_notIn_of (knd:=cX X.prog X.w) (strKind_is _ _ _ _) hsm dd.mapOf ?_
 have e:(!(valueAt kvs k).isSome)=(m k).isNone:=by
  have:=r k
  cases hm:m k with
  | none =>
   cases hv:valueAt kvs k with
   | none=>rfl
   | some z=>rw[hm,hv] at this;exact this.elim
  | some z0 =>
   cases hv:valueAt kvs k with
   | none=>rw[hm,hv] at this;exact this.elim
   | some z=>rfl
 rw[e]
 exact⟨.bl _,H,I.tok _,rfl,q⟩
end
end L3
namespace L3
section
variable{X:Cx}{scope:pJ}{own caps:List oW}{ix:List Nat}{elt tg iter:oZ}{ifs:List oZ}{pos:pR}{wi:TI}{g:TG}{tt:TT}{te:TE}
theorem Zr{EX:XK}(hc:X.calm=sG)(S:qT X scope own caps ix)
  (hg:∀cl C sI s3 H3 fp,PG (ye X scope cl C (own ++ caps) sI s3 H3 fp λ_ _=>False) tg g)
  (ht:∀cl C sI s3 H3 fp xe,XE (ye X scope cl C (own ++ caps) sI s3 H3 fp xe) EX->PTs (ye X scope cl C (own ++ caps) sI s3 H3 fp xe) ifs tt)
  (hst:X.stack=X.env::X.outer/\X.env.frame=sE X.env.locals) (hxe:XE X EX) (he:∀cl C sI s3 H3 fp xe,XE (ye X scope cl C (own ++ caps) sI s3 H3 fp xe) EX->PE (ye X scope cl C (own ++ caps) sI s3 H3 fp xe) elt te)
  {cl:List (oW × oP)} (hc1:∀y c,cl.lookup y=sE c->X.env.cells.lookup y=sE c) (hc2:∀y,(y,NameKind.free) ∈ scope.names->∃c,cl.lookup y=sE c)
  {sI:List (oP × pC)} {σ:St} {H2:Hp} {s2:oR} {Q:VK} {it:oP} {fp:List oP} {tn:Nat->pb->Prop} {J:It} (I2:Inv X sI σ H2 s2) (T:Uh X.prog X.w X.K tg J fp it tn) (st2:tn 0 s2.heap) (f2:∀b ∈ fp,xO X sI H2 b)
  (q:∀D,H2 D=sF->∃W:Nat->Nat->List V->Hp->Prop,(∃m,W 0 m [] (upd H2 D (.lst []))) /\
   ∀i m sK H',W i m sK H'->(J.stop i H'/\Q (.ref D) H')\/(J.go i H'/\∀x H2,J.yld i H' x H2->g x (wZ σ own.length ix) H2 λσ3 H3=>xa (wZ σ own.length ix) σ3/\tt σ3 H3 λb H4=>if b=sG then
    te σ3 H4 λv H5=>H5 D=sE (.lst sK)/\sK.length<oN/\∃m',m'<m/\W (i+1) m' (sK ++ [v]) (upd H5 D (.lst (sK ++ [v])))
    else ∃m',m'<m/\W (i+1) m' sK H4))
  {RR:oQ->oP->rQ->oR->Prop} {E:oQ->oR->Prop}
  (hRR:∀D C m s' H',H2 D=sF->s'.heap.Ns C m->xO X sI H' C->Inv X sI σ H' s'->Q (.ref D) H'->RR (.ref D) C (.ok .next) s')
  (hRE:∀D C m s' x,s'.heap.Ns C m->(∀h',Heap.SameBut C s'.heap h'->∀cenv:rK,cenv.locals=C->oS (model X.prog X.w) X.A (fk "comprehension.variables-let-go" x cenv:sw oQ) (λ_ _=>False) X.xe { s' with heap:=h' })->RR (.ref D) C (.error x) s') :
  oS (model X.prog X.w) X.A (newList []) (λsK s3=>oS (model X.prog X.w) X.A (newFunctionEnv scope X.env.globals cl [] X.env.qual sF .none (sE X.env)) (λcenv s4 =>
   pN (model X.prog X.w) X.A (.compStart (.ListComp elt [⟨tg,iter,ifs,0⟩] scope pos) 0 (.ref it) sK { cenv with scope:=relabel scope X.env }) (RR sK cenv.locals) s4) E s3) E s2:=by
 have hD:H2 s2.heap.objs.size=sF:=I2.hok.fresh (aq _)
 obtain⟨W,⟨m0,w0⟩,turn⟩:=q _ hD
 refine rA (rg S.nocell (by intro y hy;simp at hy) (λh1 hns1 hsb1=>?_) S.kind)
 dsimp only at hns1 hsb1 ⊢
 have I3:Inv X sI σ (upd H2 s2.heap.objs.size (.lst [])) { s2 with heap:=s2.heap.push { cls:=.type "list",dict:=sF,data:=.seq ([]:List oQ).toArray } } :=
  I2.lnew (its:=[]) (t':=s2.toks) .nil (aJ _)
 generalize hs3:({ s2 with heap:=s2.heap.push { cls:=.type "list",dict:=sF,data:=.seq ([]:List oQ).toArray } }:oR)=s3 at I3
 have e3:s2.heap.push { cls:=.type "list",dict:=sF,data:=.seq ([]:List oQ).toArray }=s3.heap:=by rw[<- hs3]
 rw[e3] at hns1 hsb1 ⊢
 have k1:∀b o,s3.heap.get? b=sE o->h1.get? b=sE o:=λb o e=>(hsb1.2 b (aF (ay e))).trans (aa _ e)
 have k23:∀b o,s2.heap.get? b=sE o->s3.heap.get? b=sE o:=λb o e=>by rw[<- e3];exact aa _ e
 have hz:s3.heap.objs.size=s2.heap.objs.size+1:=by rw[<- e3,bG]
 have fpObj:∀b ∈ fp,∃o,s2.heap.get? b=sE o:=λb hb=>let ⟨o,e,_⟩:=T.obj 0 _ st2 b hb; ⟨o,e⟩
 have fplt:∀b ∈ fp,b<s2.heap.objs.size:=λb hb=>let ⟨o,e⟩:=fpObj b hb;ay e
 have f3:∀b ∈ fp,xO X sI (upd H2 s2.heap.objs.size (.lst [])) b:=λb hb=>⟨by rw[zo (aF (fplt b hb))];exact (f2 b hb).1,(f2 b hb).2⟩
 have I4:Inv (ye X scope cl s3.heap.objs.size (own ++ caps) sI s3 (upd H2 s2.heap.objs.size (.lst [])) fp λ_ _=>False) [] (wZ σ own.length ix) (upd H2 s2.heap.objs.size (.lst [])) { s3 with heap:=h1,toks:=s3.toks+([]:List (oW × oQ)).length } :=
  jw S hc1 hc2 I3 f3 (λb hb=>by rw[hz];exact cp (fplt b hb)) hns1 k1
 have st4:tn 0 h1:=T.keep 0 _ _ st2 λb hb o e=>k1 b o (k23 b o e)
 generalize hs4:({ s3 with heap:=h1,toks:=s3.toks+([]:List (oW × oQ)).length }:oR)=s4 at I4
 have es4:({ s2 with heap:=h1,toks:=s2.toks+([]:List (oW × oQ)).length }:oR)=s4:=by rw[<- hs4,<- hs3]
 have e4:h1=s4.heap:=by rw[<- hs4]
 have loop:pN (model X.prog X.w) X.A (.compLoop (.ListComp elt [⟨tg,iter,ifs,0⟩] scope pos) 0 (.ref it) (.ref s2.heap.objs.size) (compEnvC scope cl s3.heap.objs.size X.env)) (RR (.ref s2.heap.objs.size) s3.heap.objs.size) s4:=by
  let X':=ye X scope cl s3.heap.objs.size (own ++ caps) sI s3 (upd H2 s2.heap.objs.size (.lst [])) fp λ_ _=>False
  have fp':∀{H':Hp},(∀b ∈ fp,H' b=sF)->∀b ∈ fp,xO X' [] H' b:=λ{H'} hn b hb=>by
   obtain⟨_,a1,a2,a3,a4,a5⟩:=f3 b hb
   refine⟨hn b hb,aF (show b<s3.heap.objs.size from by rw[hz];exact cp (fplt b hb)),λz=>?_,.inl hb,λx c e=>a4 x c (hc1 x c e),λp hp=>?_⟩
   ·rcases List.mem_cons.mp (I3.stkSub b z) with e | e
    ·exact a1 e
    ·exact a2 e
   ·have:p ∈ (X.pn ++ sI) ++ []:=hp
    rw[aV] at this
    exact a5 p this
  refine ZS (λn s'=>∃i sK H',Inv X' [] (wZ σ own.length ix) H' s'/\tn i s'.heap/\(∀b ∈ fp,H' b=sF)/\W i n sK H') rfl ?_ m0 ⟨0,[],_,I4,by rw[<- e4];exact st4,λb hb=>(f3 b hb).1,w0⟩
  rintro n s5 ⟨i,sK,H5,I5,st5,fr5,w5⟩
  refine pB ?_
  rcases turn i n sK H5 w5 with ⟨stop,qn⟩ | ⟨go,step⟩
  ·refine thn (T.done X' rfl rfl rfl hc i [] s5 _ H5 _ I5 (fp' fr5) st5 stop) λr s6 ⟨hr,I6⟩=>?_
   subst hr
   obtain⟨m,hm,_⟩:=I6.loc
   refine hRR _ _ m s6 H5 hD hm (I3.fpOk (aq _) I6.free) (I3.call' (s':=s6) I6.os I6.base I6.hok I6.bare λb hb=>?_) qn
   obtain⟨_,a1,a2,a3,a4,a5⟩:=f3 b hb
   exact⟨a3,a1,a4,a5⟩
  ·refine thn (T.item X' rfl rfl rfl hc i [] s5 _ H5 (λ_ _=>False) I5 (fp' fr5) st5 go) λr s6 ⟨u,hr,h6⟩=>?_
   subst hr
   refine pB (thn h6 λ_ s7 ⟨x,H7,I7,r7,y7,st7,fr7⟩=>?_)
   have I7':=I7.pinned (fp' fr7) (T.obj _ _ st7)
   refine pB (thn (hg _ _ _ _ _ _ _ s7 _ H7 x u _ I7' r7 (step x H7 y7)) λ_ s8 ⟨σ8,H8,I8,ks,q8⟩=>?_)
   refine thn (ht cl _ sI s3 (upd H2 s2.heap.objs.size (.lst [])) fp _ (λe s hfl=>VC (RE:=λe s'=>RR (.ref s2.heap.objs.size) s3.heap.objs.size (.error e) s') hst hxe hc1 I3 f3 hfl λm s' x a b=>hRE _ _ m s' x a b) _ s8 σ8 H8 _ (I8.wish _) q8) λb s9 ⟨H9,I9',q9⟩=>?_
   have I9:=Inv.unwish (X:=X') I9'
   have back:∀{s':oR} {H':Hp} {acc':List V} {m':Nat},Inv X' ([] ++ jD fp s7.heap) σ8 H' s'->m'<n->W (i+1) m' acc' H'->∃m,m<n/\∃i sK H',Inv X' [] (wZ σ own.length ix) H' s'/\tn i s'.heap/\(∀b ∈ fp,H' b=sF)/\W i m sK H':=λ{s' H' acc' m'} J' hm w'=>by
    refine⟨m',hm,i+1,acc',H',(J'.unpinned).weak ks.1 ks.2,T.keep _ _ _ st7 λb hb o e=>(J'.pin (b,o) (aC _ (aC _ (xw hb e)))).1,λb hb=>?_,w'⟩
    obtain⟨o,e,d⟩:=T.obj _ _ st7 b hb
    exact (J'.pin (b,o) (aC _ (aC _ (xw hb e)))).2.1
   cases b with
   | false =>
    rw[if_neg aG] at q9 ⊢
    obtain⟨m',hm,w'⟩:=q9
    exact back I9 hm w'
   | true =>
    rw[if_pos rfl] at q9 ⊢
    refine thn (he cl _ sI s3 (upd H2 s2.heap.objs.size (.lst [])) fp _ (λe s hfl=>VC (RE:=λe s'=>RR (.ref s2.heap.objs.size) s3.heap.objs.size (.error e) s') hst hxe hc1 I3 f3 hfl λm s' x a b=>hRE _ _ m s' x a b) _ s9 σ8 H9 _ (I9.wish _) q9) λv s10 ⟨y,H10,I10',r10,hD10,hsz,m',hm,w'⟩=>?_
    have I10:=Inv.unwish (X:=X') I10'
    refine pB ?_
    have:=xH (X:=X') _ s10 σ8 H10 (.ref s2.heap.objs.size) [y] (.ref s2.heap.objs.size) [v] (λ_ H'=>H'=upd H10 s2.heap.objs.size (.lst (sK ++ [y]))) I10 rfl (.cons r10 .nil) ⟨_,sK,y,rfl,rfl,hD10,hsz,rfl⟩
    refine thn this λ_ s11 ⟨_,H11,I11,_,eH⟩=>?_
    subst eH
    exact back I11 hm w'
 have goal:pN (model X.prog X.w) X.A (.compStart (.ListComp elt [⟨tg,iter,ifs,0⟩] scope pos) 0 (.ref it) (.ref s2.heap.objs.size) (compEnvC scope cl s3.heap.objs.size X.env)) (RR (.ref s2.heap.objs.size) s3.heap.objs.size) s4 :=
  rH loop (T.self _ 0 s4 _ _ (by rw[<- e4];exact st4) loop)
 rw[<- es4] at goal
 exact goal
theorem VV{EX:XK}(hc:X.calm=sG)(S:qT X scope own caps ix)(hst:X.stack=X.env::X.outer/\X.env.frame=sE X.env.locals)(hxe:XE X EX)(hi:PI X tg iter wi)
  (hg:∀cl C sI s3 H3 fp,PG (ye X scope cl C (own ++ caps) sI s3 H3 fp λ_ _=>False) tg g)
  (ht:∀cl C sI s3 H3 fp xe,XE (ye X scope cl C (own ++ caps) sI s3 H3 fp xe) EX->PTs (ye X scope cl C (own ++ caps) sI s3 H3 fp xe) ifs tt)
  (he:∀cl C sI s3 H3 fp xe,XE (ye X scope cl C (own ++ caps) sI s3 H3 fp xe) EX->PE (ye X scope cl C (own ++ caps) sI s3 H3 fp xe) elt te)
  (hs:∀x,foldedSetIterable iter X.env x=pure x:=by intro _;rfl) :
  PE X (.ListComp elt [⟨tg,iter,ifs,0⟩] scope pos) (jf wi g tt te own.length ix):=by
 intro sI s σ H Q I h
 obtain⟨cl,hclos,hc1,hc2⟩:=wo (scope:=scope) (env:=X.env) λy hy=>I.ok.has y (.inl (S.free y hy))
 rw[eval_ListComp]
 refine pY (use:=sF) rfl hs hclos S.kind S.names (thn (hi sI s σ H _ I h) λv s1 h1=>thn h1 λitv s2 h2=>?_)
 obtain⟨it,fp,tn,J,H2,e,I2,T,st2,f2,q⟩:=h2
 subst e
 refine Zr (RR:=λsK C=>compPost (model X.prog X.w) X.A X.xe sF (EP X sI σ Q) sK C) hc S hg ht hst hxe he hc1 hc2 I2 T st2 f2 q ?_ ?_
 ·intro D C m s' H' _ hn fc I' qn
  obtain⟨a0,a1,a2,a3,a4,a5⟩:=fc
  exact⟨m,hn,λh' sb=>⟨.ref D,H',I'.turned (t':=s'.toks) (λb o hb e=>(sb.2 b hb).trans e) a0 a1 a3 a4 a5,rfl,qn⟩⟩
 ·intro D C m s' x hn hp
  exact⟨m,hn,hp⟩
end
end L3
namespace L3
section
variable{X:Cx}{scope:pJ}{own caps:List oW}{ix:List Nat}{cl:List (oW × oP)}{sI:List (oP × pC)}{σ:St}{H:Hp}{s:oR}{fp:List oP}{E:oQ->oR->Prop}
end
section
variable{X:Cx}{scope:pJ}{own caps:List oW}{ix:List Nat}{elt tg iter:oZ}{ifs:List oZ}{pos:pR}{wi:TI}{g:TG}{tt:TT}{te:TE}
end
end L3
namespace L3
section
variable{X:Cx}
end
end L3
namespace LL
open PySem L2 L3
noncomputable def top(i:Nat):pf:=PySem.Challenge.pw_letterlaw_k80_whole_least_of_class.main.body.getD i (.Pass ⟨0,0,0,0⟩)
noncomputable abbrev yR:pf:=xq (top 5) 0
noncomputable abbrev z9:pf:=xq (top 6) 0
noncomputable abbrev zX:pf:=top 10
noncomputable abbrev yO:pf:=top 11
noncomputable abbrev y8:pf:=top 12
noncomputable abbrev We:pf:=top 13
noncomputable abbrev yu:pf:=top 16
noncomputable abbrev yM:pf:=top 17
noncomputable abbrev ve:pf:=top 18
noncomputable abbrev yB:pf:=xq (top 19) 0
noncomputable abbrev zQ:pf:=xq (top 19) 1
noncomputable abbrev ub:pf:=top 21
noncomputable abbrev xy:pf:=top 22
noncomputable abbrev jn:pf:=top 23
noncomputable abbrev wa:pf:=top 24
noncomputable abbrev w9:pf:=top 25
noncomputable abbrev xP:pf:=top 26
noncomputable abbrev qk:pf:=top 28
noncomputable abbrev vn:pf:=top 29
noncomputable abbrev xx:pf:=top 35
noncomputable abbrev xf:pf:=top 36
noncomputable abbrev xb:pf:=top 37
noncomputable abbrev xX:pf:=top 38
noncomputable abbrev yP:pf:=top 39
noncomputable abbrev yv:pf:=top 40
noncomputable abbrev yf:pf:=top 41
noncomputable abbrev yN:pf:=top 42
noncomputable abbrev xV:pf:=top 43
noncomputable abbrev zY:pf:=top 49
noncomputable abbrev yJ:pf:=top 50
noncomputable abbrev z6:pf:=top 51
noncomputable abbrev yt:pf:=top 52
noncomputable abbrev xA:pf:=top 53
noncomputable abbrev yK:pf:=top 54
noncomputable abbrev yU:pf:=xq (top 57) 0
noncomputable abbrev yq:pf:=xq (top 57) 1
noncomputable abbrev yL:pf:=xq (top 57) 2
noncomputable abbrev yz:pf:=xq (top 57) 3
noncomputable abbrev yo:pf:=xq (top 57) 4
noncomputable abbrev z7:pf:=xq (top 58) 0
noncomputable abbrev z8:pf:=xq (top 59) 0
noncomputable abbrev zM:pf:=xq (top 59) 1
noncomputable abbrev jj:pf:=top 61
noncomputable abbrev vW:pf:=top 62
noncomputable abbrev xZ:pf:=top 63
noncomputable abbrev jA:pf:=top 64
noncomputable abbrev jl:pf:=top 65
noncomputable abbrev ud:pf:=top 66
noncomputable abbrev vZ:pf:=top 67
noncomputable abbrev jq:pf:=top 68
noncomputable abbrev jm:pf:=top 69
noncomputable abbrev vT:pf:=top 70
noncomputable abbrev vE:pf:=top 71
noncomputable abbrev xU:pf:=top 72
noncomputable abbrev jG:pf:=top 73
noncomputable abbrev jI:pf:=top 74
noncomputable abbrev uq:pf:=top 75
noncomputable abbrev ui:pf:=top 76
section
variable{P:oV}{w:oX}{K:oO}{mg:oW->Option oQ}{base:pb}
seal L2.PE L2.PS L2.PA L2.PT L2.PSs L2.PI L2.PG L2.PW L2.PGs
local macro_rules | `(tactic| rfl')=>do `(tactic| simp only[$(← ("zcP WJ zdh wZ Option.join_some Option.join_none rU jW zar zck zce zbj zbu zcG JC tOp tUn yS tC qi zN ww tCB zcv xu zaZ zbq zcC tOr zba zdb JG Wq tIf rI rI0 Qv JO zc8 zcV zbP rEq rNe rIx zcm qI zbL zcB zci zcs zcq tSl W0 zaX zbN zc4 zcJ zbf KC rGe zcf decide_false decide_true Prod.mk.injEq KR zb7 zb2 Vn Uo Vd tyV tBM zdj if_true if_false bM decide_eq_true_eq decide_eq_false_iff_not dZ Bool.not_true Bool.not_false lt1 UN zbw K5 kN K2 zal zbH zbE WA V7 zdi tHs K1 zbT zbS zcy zct zcx Value.ref.injEq L2.start zbR zbD zc3 zdq zdc zby zdn zbY zca zc6 zc5 Ky zbX zag zcE ZU Us kX x0 X2 zR zdm za6 zcr cxK cxP cxW az aP aM cb cY List.replicate_zero Nat.reduceAdd Nat.reduceSub and_assoc zb4 exists_eq exists_eq' exists_eq_left' exists_eq_left exists_eq_right exists_eq_right' exists_and_left exists_and_right V.int.injEq V.ref.injEq V.str.injEq V.bl.injEq V.ty.injEq reduceCtorEq false_and and_false true_and and_true or_false false_or exists_false exists_const eF List.getElem?_cons_succ Option.some.injEq bf bg List.cons.injEq aV bA bE".splitOn " ").toArray.mapM fun s=>`(Lean.Parser.Tactic.simpLemma| $(Lean.mkIdent s.toName):ident)),*])
local macro_rules | `(tactic| ac_rfl)=>do `(tactic| repeat (first | rfl' | simp only[$(← ("yy zA zJ yD yC zy".splitOn " ").toArray.mapM fun s=>`(Lean.Parser.Tactic.simpLemma| $(Lean.mkIdent s.toName):ident)),*]))
theorem xe0{X:Cx}:XE X E0:=λe s h=>by
 obtain⟨_,_,_,_,_,_,_,_,_,_,_,_,_,_,h⟩:=h
 exact h.elim
def Yv(l:List Nat):Prop:=∀c ∈ l,97<=c/\c<=122
instance (l:List Nat):Decidable (Yv l):=by unfold Yv;infer_instance
noncomputable def j4(l:List Nat):Bool:=decide (1<=l.length/\l.length<=6/\Yv l/\l.Nodup)
def uR:Sp:=λvs H Q _=>∃c:Nat,vs=[.str (tx [c])]/\Q (.bl (decide (97<=c/\c<=122))) H
theorem Qo:zr ["sign"] ["sign"] (zb zX):=⟨rfl,rfl,rfl,by decide +kernel,rfl,by decide +kernel,by decide +kernel⟩
theorem Ul{f:oP}{fd:oU}(F:Fun K "is_small_letter" "is_small_letter" zX f fd):yg P w K mg base CX0 1 f fd ["sign"] uR:=by
 refine F.ok Qo (λvs H Q E h=>?_) (λcdv A outer s H vs Q E hr h=>?_)
 ·obtain⟨a,rfl,_⟩:=h
  rfl
 ·obtain⟨c,rfl,q⟩:=h
  refine⟨_,(zh (zv (Ql vK vK xB (pv 0) xB))),?_⟩
  have ea:cs (("a" : oW))=[97]:=rfl
  have ez:cs (("z" : oW))=[122]:=rfl
  rfl'
  simp only[ea,ez,X2,lt1]
  refine xp (λh=>?_) λh=>?_
  ·have e:decide (97<=c/\c<=122)=!decide (122<c):=by
    by_cases h2:122<c
    ·rw[decide_eq_true h2,decide_eq_false (by lia)];rfl
    ·rw[decide_eq_false h2,decide_eq_true (by lia)];rfl
   rw[e] at q
   exact q
  ·rw[decide_eq_false (by lia)] at q
   exact q
structure zcX(K:oO)(mg:oW->Option oQ)(C:oP):Prop where
 xi:XI K C
 ini:ah K (.ref C) "__init__" = sE (sE (.builtin "ValueError.__init__"))
 g:mg "NoLetters" = sE (.ref C)
 most:∃t,mg "MOST_LETTERS" = sE (.int 6 t)
def wm(C:oP):Sp:=λvs H Q E=>∃l:List Nat,vs=[.str (tx l)]/\l.length<=1000/\(j4 l=sG->Q (.str (tx l)) H)/\(j4 l=sH->E (.ref C) sF H)
theorem mh:zr ["text","sign"] ["text"] (zb yO):=⟨rfl,rfl,rfl,by decide +kernel,rfl,by decide +kernel,by decide +kernel⟩
theorem kL{f C:oP}{fd:oU}(B:Bt mg)(T:zcX K mg C)(F:Fun K "letters_of" "letters_of" yO f fd)(Ds:Df P w K mg base CX0 1 "is_small_letter" ["sign"] [] uR):yg P w K mg base (CXx P w) 2 f fd ["text"] (wm C):=by
 refine Fun.okX F mh (λvs H Q E h=>?_) (λcdv A outer s H vs Q E hr hx h=>?_)
 ·obtain⟨a,rfl,_⟩:=h
  rfl
 ·obtain⟨l,rfl,hl,q1,q2⟩:=h
  obtain⟨t6,g6⟩:=T.most
  refine⟨_,(zO (zW (yn (ky vK vK zg (zt yc rfl B.len aA (za (pv 0) zc)) (xg (v:=.int 6) rfl g6 ⟨t6,rfl⟩)))
    (zh (yX hx rfl T.xi.toXC T.ini rfl T.g (za xB zc)))
    zC)
   (zO (yA PassesOwn.leaving rfl (Zw (pv 0)) (zB (i:=1) mh.nd rfl (Or.inl rfl))
    (zO (zW (yn (Xl (cl0 Ds hr .nil rfl (za (pv 1) zc)) (λ_=>rfl)))
     (zh (yX hx rfl T.xi.toXC T.ini rfl T.g (za xB zc)))
     zC)
    (zh (zW (zI Xf (vt bq eP eQ WM (pv 0) (za (pv 1) zc)) zg (zL _))
     (zh (yX hx rfl T.xi.toXC T.ini rfl T.g (za xB zc)))
     zC))))
   (zh (zv (pv 0))))),?_⟩
  have s16:=yk
  rfl'
  have bad:(¬ (1<=l.length/\l.length<=6/\Yv l/\l.Nodup))->∀H':Hp,H'=H->E (.ref C) sF H':=λh H' e=>by
   rw[e]
   exact q2 (decide_eq_false h)
  refine⟨by lia,xp (λc=>xp (λc2=>⟨by lia,bad (λh=>by have:=h.2.1;lia) H rfl⟩) (λc2=>?_)) (λc=>⟨by lia,bad (λh=>by have:=h.1;lia) H rfl⟩)⟩
  refine ForS.by (λi σ H'=>H'=H/\∃v,σ=[sE (.str (tx l)),v]/\Yv (l.take i)/\∀c ∈ l.take i,l.count c<=1) ⟨rfl,sF,rfl,λc h=>absurd h (by simp),λc h=>absurd h (by simp)⟩ ?_ ?_
  ·rintro i c σ H' hg ⟨eH,v,rfl,hs,hn⟩
   have hc:=ae hg
   rfl'
   simp only[uR]
   rfl'
   refine xp (λh=>⟨by lia,bad (λz=>by have:=z.2.2.1 c hc;lia) _ eH⟩) (λh=>xp (λh2=>⟨by lia,bad (λz=>?_) _ eH⟩) (λh2=>⟨eH,?_,?_⟩))
   ·have:=List.nodup_iff_count.mp z.2.2.2 c
    lia
   ·rw[zU hg]
    intro x hx
    rcases List.mem_append.mp hx with q | q
    ·exact hs x q
    ·have:x=c:=by simpa using q
     subst this
     lia
   ·rw[zU hg]
    intro x hx
    rcases List.mem_append.mp hx with q | q
    ·exact hn x q
    ·have:x=c:=by simpa using q
     subst this
     lia
  ·rintro σ H' ⟨eH,v,rfl,hs,hn⟩
   rw[aQ] at hs hn
   rfl'
   rw[eH]
   refine q1 (decide_eq_true ⟨by lia,by lia,hs,List.nodup_iff_count.mpr λc=>?_⟩)
   by_cases hc:c ∈ l
   ·exact hn c hc
   ·rw[List.count_eq_zero.mpr hc];lia
noncomputable def zu(l:List Nat)(k:Int)(p:List Nat):Bool:=decide (0<=k/\k+p.length<=l.length/\(l.drop k.toNat).take p.length=p)
def xK:Sp:=λvs H Q _=>∃(l p:List Nat) (k:Int),vs=[.str (tx l),.int k,.str (tx p)]/\l.length<=10000/\p.length<=10000/\Q (.bl (zu l k p)) H
theorem jS{l p:List Nat}{k:Int}{H:Hp}{Q:VK}{E:XK}(h1:l.length<=10000)(h2:p.length<=10000)(h:Q (.bl (zu l k p)) H):xK [.str (tx l),.int k,.str (tx p)] H Q E:=⟨l,p,k,rfl,h1,h2,h⟩
theorem Zp:zr ["word","place","part"] ["word","place","part"] (zb y8):=⟨rfl,rfl,rfl,by decide +kernel,rfl,by decide +kernel,by decide +kernel⟩
theorem Zm{f:oP}{fd:oU}(B:Bt mg)(F:Fun K "stands_at" "stands_at" y8 f fd):yg P w K mg base CX0 1 f fd ["word","place","part"] xK:=by
 refine F.ok Zp (λvs H Q E h=>?_) (λcdv A outer s H vs Q E hr h=>?_)
 ·obtain⟨l,p,k,rfl,_⟩:=h
  rfl
 ·obtain⟨l,p,k,rfl,hl,hp,q⟩:=h
  refine⟨_,(zO (zW (yn (ky vK vK zg (pv 1) (zE uF (zt yc rfl B.len aA (za (pv 0) zc)) (zt yc rfl B.len aA (za (pv 2) zc)))))
    (zh (zv yG))
    zC)
   (zh (zv (vv uL (yl wu (pv 0) (yj (pv 1)) (yj (zE op_add (pv 1) (zt yc rfl B.len aA (za (pv 2) zc))))) (pv 2) (zL _))))),?_⟩
  have s16:=yk
  rfl'
  have no:¬ (0<=k/\k+p.length<=l.length/\(l.drop k.toNat).take p.length=p)->Q (.bl sH) H:=λh=>by
   have e:zu l k p=sH:=decide_eq_false h
   rw[e] at q
   exact q
  refine xp (λh0=>⟨by lia,by lia,xp (λh1=>no λh=>absurd h.2.1 (by lia)) λh1=>⟨by lia,by lia,?_⟩⟩) λh0=>no λh=>h0 h.1
  rw[Z2 _ h0 (by lia) (by lia)]
  have e:(k+(p.length:Int) - k).toNat=p.length:=by lia
  rw[e]
  have e2:zu l k p=decide ((l.drop k.toNat).take p.length=p):=by
   unfold zu
   exact decide_eq_decide.mpr ⟨λh=>h.2.2,λh=>⟨h0,by lia,h⟩⟩
  rw[<- e2]
  exact q
noncomputable def yV(l:List Nat)(k:Int)(o n:List Nat):List Nat:=l.take k.toNat ++ n ++ l.drop (k.toNat+o.length)
theorem xt{l o:List Nat}{k:Int}(h:zu l k o=sG):l.take k.toNat ++ o ++ l.drop (k.toNat+o.length)=l/\(l.take k.toNat).length=k.toNat/\0<=k/\k+o.length<=l.length:=by
 unfold zu at h
 rw[decide_eq_true_eq] at h
 obtain⟨h0,h1,h2⟩:=h
 refine⟨?_,by rw[aK];lia,h0,h1⟩
 have e:l.drop k.toNat=o ++ l.drop (k.toNat+o.length):=by
  have:=bw o.length (l.drop k.toNat)
  rw[h2,dj] at this
  exact this.symm
 rw[ax,<- e,bw]
theorem Xg{l o:List Nat}{k:Int}(n:List Nat)(h:zu l k o=sG):zu (yV l k o n) k n=sG/\yV (yV l k o n) k n o=l:=by
 obtain⟨e,hl,h0,h1⟩:=xt h
 have e1:(yV l k o n).take k.toNat=l.take k.toNat:=by
  unfold yV
  rw[ax,aT (by lia),bp (by lia)]
 have e2:(yV l k o n).drop k.toNat=n ++ l.drop (k.toNat+o.length):=by
  unfold yV
  rw[ax,bK (by lia),aY (by lia),bA]
 have e3:(yV l k o n).length=l.length - o.length+n.length:=by
  unfold yV
  simp only[am,ba,hl]
  lia
 refine⟨?_,?_⟩
 ·unfold zu
  refine decide_eq_true ⟨h0,by lia,?_⟩
  rw[e2,aT (by lia),bp (by lia)]
 ·show (yV l k o n).take k.toNat ++ o ++ (yV l k o n).drop (k.toNat+n.length)=l
  rw[e1,<- dj,e2,bK (by lia),aY (by lia),bA]
  exact e
theorem Kw{l o n:List Nat}{k:Int}(h0:0<=k):cut l sF (sE k) ++ n ++ cut l (sE (k + ↑o.length)) sF=yV l k o n:=by
 rw[jr _ h0,vA _ (by lia)]
 have:(k+(o.length:Int)).toNat=k.toNat+o.length:=by lia
 rw[this]
 rfl
structure TNU(K:oO)(mg:oW->Option oQ)(C:oP):Prop where
 xi:XI K C
 g:mg "NoUse" = sE (.ref C)
 na:NoAttr K C "at"
theorem kg:zr ["self","at"] ["self","at"] (zb yR):=⟨rfl,rfl,rfl,by decide +kernel,rfl,by decide +kernel,by decide +kernel⟩
theorem kj{f C:oP}{fd:oU}(T:TNU K mg C)(F:Fun K "__init__" "NoUse.__init__" yR f fd):yg P w K mg base CX0 1 f fd ["self","at"] (vG C "at"):=by
 refine F.ok kg (λvs H Q E h=>?_) (λcdv A outer s H vs Q E hr h=>?_)
 ·obtain⟨x,v,rfl,_⟩:=h
  rfl
 ·obtain⟨x,v,rfl,hx,q⟩:=h
  refine⟨_,(zh (W6 (pv 0) (pv 1) rfl)),?_⟩
  simp only[KJ]
  rfl'
  exact⟨C,hx,T.xi.toXC,T.na,q⟩
structure DNU(P:oV)(w:oX)(K:oO)(mg:oW->Option oQ)(base:pb)(C:oP):Prop extends TNU K mg C where
 ini:∃f fd,ah K (.ref C) "__init__" = sE (sE (.ref f))/\bc K (.ref f)=sG/\yg P w K mg base CX0 1 f fd ["self","at"] (vG C "at")/\Binds K fd ["self","at"] []
def ZF(C:oP):Sp:=λvs H Q E=>∃(l o n:List Nat) (k:Int),vs=[.str (tx l),.int k,.str (tx o),.str (tx n)]/\l.length<=10000/\o.length<=10000/\n.length<=10000/\(zu l k o=sG->Q (.str (tx (yV l k o n))) H)/\(zu l k o=sH->∀d H',zcp H d "at" (.int 0) H'->E (.ref C) (sE d) H')
theorem zbg:zr ["word","place","old","new"] ["word","place","old","new"] (zb We):=⟨rfl,rfl,rfl,by decide +kernel,rfl,by decide +kernel,by decide +kernel⟩
theorem zaN{f C:oP}{fd:oU}(B:Bt mg)(T:DNU P w K mg base C)(F:Fun K "put" "put" We f fd)(nU:Df P w K mg base CX0 1 "stands_at" ["word","place","part"] [] xK):yg P w K mg base (CXx P w) 3 f fd ["word","place","old","new"] (ZF C):=by
 obtain⟨fi,fdi,hi,hfn,Fi,Bi⟩:=T.ini
 refine Fun.okX F zbg (λvs H Q E h=>?_) (λcdv A outer s H vs Q E hr hx h=>?_)
 ·obtain⟨l,o,n,k,rfl,_⟩:=h
  rfl
 ·obtain⟨l,o,n,k,rfl,hl,ho,hn,q1,q2⟩:=h
  refine⟨_,(zO (zW (yn (Xl (cl0 nU hr .nil rfl (za (pv 0) (za (pv 1) (za (pv 2) zc)))) (λ_=>rfl)))
    (zh (Zf hx rfl T.xi.toXC hi hfn Fi hr Bi rfl T.g (za zg zc)))
    zC)
   (zh (zv (zE op_add_str (zE op_add_str (yl wu (pv 0) xE (yj (pv 1))) (pv 3)) (yl wu (pv 0) (yj (zE op_add (pv 1) (zt yc rfl B.len aA (za (pv 2) zc)))) xE))))),?_⟩
  have s16:=yk
  rfl'
  refine jS hl ho ?_
  rfl'
  refine xp (λhb=>⟨by lia,Wm (q2 hb)⟩) λhb=>?_
  have hb':zu l k o=sG:=by simpa using hb
  obtain⟨_,_,h0,h1⟩:=xt hb'
  have c1:=wB l sF (sE k)
  have c2:=wB l (sE (k + ↑o.length)) sF
  refine⟨by lia,by lia,by lia,by lia,?_,?_⟩
  ·simp only[am]
   lia
  ·have e:cut l sF (sE k) ++ n ++ cut l (sE (k + ↑o.length)) sF=yV l k o n:=by
    rw[jr _ h0,vA _ (by lia)]
    have:(k+(o.length:Int)).toNat=k.toNat+o.length:=by lia
    rw[this]
    rfl
   rw[e]
   exact q1 hb'
structure TOrd(K:oO)(mg:oW->Option oQ)(CO CR CW:oP):Prop where
 cO:Cls K CO
 cR:Cls K CR
 cW:Cls K CW
 gO:mg "Order" = sE (.ref CO)
 gR:mg "FromRight" = sE (.ref CR)
 gW:mg "ByWeights" = sE (.ref CW)
 lO:NoAttr K CO "letters"
 lR:NoAttr K CR "letters"
 lW:NoAttr K CW "letters"
 wW:NoAttr K CW "weights"
def OrdAt(CO CR CW:oP)(H:Hp)(o:oP)(k:Nat)(l:List Nat)(ns:List Int):Prop:=∃dx,(k=0/\H o=sE (.ins CO dx [("letters",.str (tx l))]))\/(k=1/\H o=sE (.ins CR dx [("letters",.str (tx l))])) \/
 (k=2/\ns.length=l.length/\∃w,H o=sE (.ins CW dx [("letters",.str (tx l)),("weights",.ref w)])/\H w=sE (.tup (ns.map V.int)))
theorem OrdAt.same{CO CR CW:oP}{H H':Hp}{o:oP}{k:Nat}{l:List Nat}{ns:List Int}(h:OrdAt CO CR CW H o k l ns)(e:Same H H'):OrdAt CO CR CW H' o k l ns:=by
 obtain⟨dx,⟨h1,h2⟩ | ⟨h1,h2⟩ | ⟨h1,h2,w,h3,h4⟩⟩:=h
 ·exact⟨dx,.inl ⟨h1,e _ _ h2⟩⟩
 ·exact⟨dx,.inr (.inl ⟨h1,e _ _ h2⟩)⟩
 ·exact⟨dx,.inr (.inr ⟨h1,h2,w,e _ _ h3,e _ _ h4⟩)⟩
noncomputable def Wh(l:List Nat)(ns:List Int)(w:List Nat):Int:=((l.zip ns).map λp=>(w.count p.1:Int) * p.2).sum
noncomputable def zk(k:Nat)(l:List Nat)(ns:List Int)(w:List Nat):Int:=if k=2 then Wh l ns w else (w.length:Int)
noncomputable def yw(k:Nat)(w:List Nat):List Nat:=if k=1 then w.reverse else w
def uS(K:oO):Sp:=λvs H Q _=>∃(x C dx:oP) (l:List Nat),vs=[.ref x,.str (tx l)]/\j4 l=sG/\Cls K C/\NoAttr K C "letters"/\H x=sE (.ins C dx [])/\Q .non (upd H x (.ins C dx [("letters",.str (tx l))]))
theorem kh:zr ["self","letters"] ["self","letters"] (zb yU):=⟨rfl,rfl,rfl,by decide +kernel,rfl,by decide +kernel,by decide +kernel⟩
theorem wn{f:oP}{fd:oU}(B:Bt mg)(F:Fun K "__init__" "Order.__init__" yU f fd)(nJ:Df P w K mg base (CXx P w) 2 "letters_of" ["text"] [] (wm C)):yg P w K mg base CX0 3 f fd ["self","letters"] (uS K):=by
 refine F.ok kh (λvs H Q E h=>?_) (λcdv A outer s H vs Q E hr h=>?_)
 ·obtain⟨x,C,dx,l,rfl,_⟩:=h
  rfl
 ·obtain⟨x,C,dx,l,rfl,hg,hC,hN,hx,q⟩:=h
  refine⟨_,(zh (YT (pv 0) (clP xe0 nJ hr .nil rfl (za (pv 1) zc)) rfl)),?_⟩
  have s16:=yk
  rfl'
  exact⟨l,rfl,by have:=of_decide_eq_true hg;lia,λ_=>⟨_,_,_,hx,hC,hN,by decide,q⟩,λe=>by rw[hg] at e;cases e⟩
def kE:Sp:=λvs H Q _=>∃(o:oP) (w:List Nat),vs=[.ref o,.str (tx w)]/\w.length<=1000/\Q (.int (w.length:Nat)) H
theorem qP:zr ["self","word"] ["self","word"] (zb yq):=⟨rfl,rfl,rfl,by decide +kernel,rfl,by decide +kernel,by decide +kernel⟩
theorem wX{f:oP}{fd:oU}(B:Bt mg)(F:Fun K "weight" "Order.weight" yq f fd) : yg P w K mg base CX0 1 f fd ["self","word"] kE:=by
 refine F.ok qP (λvs H Q E h=>?_) (λcdv A outer s H vs Q E hr h=>?_)
 ·obtain⟨o,w,rfl,_⟩:=h
  rfl
 ·obtain⟨o,w,rfl,hw,q⟩:=h
  refine⟨_,(zh (zv (zt yc rfl B.len aA (za (pv 1) zc)))),?_⟩
  have s16:=yk
  rfl'
  exact⟨by lia,q⟩
def Xs:Sp:=λvs H Q _=>∃(o:oP) (w:List Nat),vs=[.ref o,.str (tx w)]/\Q (.str (tx w)) H
theorem kD:zr ["self","word"] ["self","word"] (zb yL):=⟨rfl,rfl,rfl,by decide +kernel,rfl,by decide +kernel,by decide +kernel⟩
theorem vH{f:oP}{fd:oU}(B:Bt mg)(F:Fun K "seen" "Order.seen" yL f fd) : yg P w K mg base CX0 1 f fd ["self","word"] Xs:=by
 refine F.ok kD (λvs H Q E h=>?_) (λcdv A outer s H vs Q E hr h=>?_)
 ·obtain⟨o,w,rfl,_⟩:=h
  rfl
 ·obtain⟨o,w,rfl,q⟩:=h
  refine⟨_,(zh (zv (pv 1))),?_⟩
  have s16:=yk
  rfl'
  exact q
def Z3:Sp:=λvs H Q _=>∃(o:oP) (w:List Nat),vs=[.ref o,.str (tx w)]/\w.length<=1000/\Q (.str (tx w.reverse)) H
theorem vU:zr ["self","word"] ["self","word"] (zb z7):=⟨rfl,rfl,rfl,by decide +kernel,rfl,by decide +kernel,by decide +kernel⟩
theorem uk{f:oP}{fd:oU}(B:Bt mg)(F:Fun K "seen" "FromRight.seen" z7 f fd) : yg P w K mg base CX0 1 f fd ["self","word"] Z3:=by
 refine F.ok vU (λvs H Q E h=>?_) (λcdv A outer s H vs Q E hr h=>?_)
 ·obtain⟨o,w,rfl,_⟩:=h
  rfl
 ·obtain⟨o,w,rfl,hw,q⟩:=h
  refine⟨_,(zh (zv (J9 (pv 1) (zb6 zbb zg)))),?_⟩
  have s16:=yk
  ac_rfl
  exact⟨by lia,q⟩
structure zcT(K:oO)(mg:oW->Option oQ)(C:oP):Prop where
 xi:XI K C
 ini:ah K (.ref C) "__init__" = sE (sE (.builtin "ValueError.__init__"))
 g:mg "NoOrder" = sE (.ref C)
 most:∃t,mg "MOST_WEIGHT" = sE (.int 1000000 t)
abbrev DOI(P:oV)(w:oX)(K:oO)(mg:oW->Option oQ)(base:pb)(CO:oP):Prop:=DC P w K mg base CX0 3 CO "__init__" ["self","letters"] (uS K)
def jY(K:oO)(CW:oP):Sp:=λvs H Q _=>∃(x dx a:oP) (l:List Nat) (ns:List Int),vs=[.ref x,.str (tx l),.ref a]/\j4 l=sG/\SqL K H a (ns.map V.int)/\ns.length=l.length/\(∀n ∈ ns,1<=n/\n<=1000000)/\H x=sE (.ins CW dx []) /\
 ∀w H',H w=sF->w≠x->(∀b o,b≠x->H b=sE o->H' b=sE o)->H' w=sE (.tup (ns.map V.int))->H' x=sE (.ins CW dx [("letters",.str (tx l)),("weights",.ref w)])->Q .non H'
theorem lc:zr ["self","letters","weights","weight"] ["self","letters","weights"] (zb z8):=⟨rfl,rfl,rfl,by decide +kernel,rfl,by decide +kernel,by decide +kernel⟩
theorem vV{f CO CR CW CN:oP}{fd:oU}(B:Bt mg)(T:TOrd K mg CO CR CW)(TN:zcT K mg CN)(DI:DOI P w K mg base CO)(F:Fun K "__init__" "ByWeights.__init__" z8 f fd) : yg P w K mg base (CXx P w) 4 f fd ["self","letters","weights"] (jY K CW):=by
 obtain⟨t6,g6⟩:=TN.most
 refine Fun.okX F lc (λvs H Q E h=>?_) (λcdv A outer s H vs Q E hr hx h=>?_)
 ·obtain⟨x,dx,a,l,ns,rfl,_⟩:=h
  rfl
 ·obtain⟨x,dx,a,l,ns,rfl,hg,hS,hl,hb,hX,q⟩:=h
  refine⟨_,(zi (wz (J4 DI hr rfl T.gO (za (pv 0) (za (pv 1) zc))))
   (zi (zW (zI XR (zt yc rfl B.len aA (za (pv 2) zc)) (zt yc rfl B.len aA (za (pv 1) zc)) (zL _))
    (zh (yX hx rfl TN.xi.toXC TN.ini rfl TN.g (za xB zc)))
    zC)
   (zi (yA PassesOwn.leaving rfl (yF (pv 2)) (zB (i:=3) lc.nd rfl (Or.inl rfl))
    (zh (zW (yn (ky vK vK zg (pv 3) (xg (v:=.int 1000000) rfl g6 ⟨t6,rfl⟩)))
     (zh (yX hx rfl TN.xi.toXC TN.ini rfl TN.g (za xB zc)))
     zC)))
   (zh (YT (pv 0) (wN j8 rfl B.tuple PySem.Pv.boot_tuple (za (pv 2) zc)) rfl))))),?_⟩
  have s16:=yk
  have hbx:∀b o,b≠x->H b=sE o->upd H x (.ins CW dx [("letters",.str (tx l))]) b=sE o:=λb o hb e=>by rw[zo hb];exact e
  have hS1:SqL K (upd H x (.ins CW dx [("letters",.str (tx l))])) a (ns.map V.int):=by
   rcases hS with (h | ⟨o,h⟩) | h
   ·exact .inl (.inl (hbx _ _ (λe=>by rw[e,hX] at h;cases h) h))
   ·exact .inl (.inr ⟨o,hbx _ _ (λe=>by rw[e,hX] at h;cases h) h⟩)
   ·exact .inr h
  refine zj (λσ H'=>H'=upd H x (.ins CW dx [("letters",.str (tx l))])/\σ=[sE (.ref x),sE (.str (tx l)),sE (.ref a),sF]) ?_ ?_
  ·ac_rfl
   exact⟨x,CW,dx,l,rfl,hg,T.cW,T.lW,hX,rfl⟩
  rintro σ H1 ⟨rfl,rfl⟩
  refine zj (λσ H'=>H'=upd H x (.ins CW dx [("letters",.str (tx l))])/\σ=[sE (.ref x),sE (.str (tx l)),sE (.ref a),sF]) ?_ ?_
  ·have hl6:l.length<=6:=by have:=of_decide_eq_true hg;lia
   ac_rfl
   refine⟨ns.length,.inl ⟨_,hS1,by rw[af]⟩,by lia,xp (λh=>absurd (by lia) h) λ_=>trivial⟩
  rintro σ H1 ⟨rfl,rfl⟩
  refine zj (λσ H'=>H'=upd H x (.ins CW dx [("letters",.str (tx l))])/\∃v3,σ=[sE (.ref x),sE (.str (tx l)),sE (.ref a),v3]) ?_ ?_
  ·ac_rfl
   refine⟨⟨_,hS1⟩,ForL.by (xs:=ns.map V.int) (λi σ H'=>H'=upd H x (.ins CW dx [("letters",.str (tx l))])/\∃v3,σ=[sE (.ref x),sE (.str (tx l)),sE (.ref a),v3]) ⟨rfl,sF,rfl⟩ (λi σ H' _ h=>by rw[h.1];exact hS1) ?_ λσ H' h=>h⟩
   rintro i y σ H' hy ⟨rfl,v3,rfl⟩
   rw[aH] at hy
   obtain⟨n,hn,rfl⟩:=Option.map_eq_some_iff.mp hy
   obtain⟨n1,n2⟩:=hb n (ae hn)
   ac_rfl
   exact xp (λ_=>xp (λh=>absurd n2 h) λ_=>trivial) λh=>absurd n1 h
  rintro σ H1 ⟨rfl,v3,rfl⟩
  ac_rfl
  refine⟨_,.inl ⟨hS1,λw hw=>?_⟩⟩
  have hwx:w≠x:=λe=>by rw[e,ze] at hw;cases hw
  have hwH:H w=sF:=by rw[zo hwx] at hw;exact hw
  have hX2:=zf (o:=.tup (ns.map V.int)) hw _ _ (ze (H:=H) (a:=x) (o:=.ins CW dx [("letters",.str (tx l))]))
  refine⟨_,_,_,hX2,T.cW,T.wW,by show 1<1000;decide,q w _ hwH hwx (λb o hb' e=>?_) ?_ ze⟩
  ·rw[zo hb']
   exact zf hw _ _ (hbx b o hb' e)
  ·rw[zo hwx]
   exact ze
theorem Jf{x y:V}{r:L2.St}:xa (sF::sF::r) (sE x::sE y::r):=⟨rfl,λi v h=>by
 cases i with
 | zero=>cases h
 | succ i =>
  cases i with
  | zero=>cases h
  | succ i=>exact h⟩
def Yx(CW:oP):Sp:=λvs H Q _=>∃(o dx t:oP) (w l:List Nat) (ns:List Int),vs=[.ref o,.str (tx w)]/\w.length<=1000/\l.length<=6/\ns.length=l.length/\(∀n ∈ ns,1<=n/\n<=1000000)/\H o=sE (.ins CW dx [("letters",.str (tx l)),("weights",.ref t)])/\H t=sE (.tup (ns.map V.int))/\∀H',Same H H'->Q (.int (Wh l ns w)) H'
theorem vk:zr ["self","word"] ["self","word"] (zb zM):=⟨rfl,rfl,rfl,by decide +kernel,rfl,by decide +kernel,by decide +kernel⟩
theorem vq{f CO CR CW:oP}{fd:oU}(B:Bt mg)(T:TOrd K mg CO CR CW)(F:Fun K "weight" "ByWeights.weight" zM f fd) : yg P w K mg base CX0 1 f fd ["self","word"] (Yx CW):=by
 refine F.ok vk (λvs H Q E h=>?_) (λcdv A outer s H vs Q E hr h=>?_)
 ·obtain⟨o,dx,t,w,l,ns,rfl,_⟩:=h
  rfl
 ·obtain⟨o,dx,t,w,l,ns,rfl,hw,hl,hn,hb,ho,ht,q⟩:=h
  refine⟨_,(zh (zv (zt (zaV rfl) rfl B.sum eU (za (xh (g:=K5 K 2 (kN (xu 0) (kN (xu 1) K2))) (own:=["letter","weight"]) (caps:=["word"]) (ix:=[1]) (tt:=wx) (te:=(tOp JO (tBM K "str" Vn (yS 2) (zN (yS 0) ww)) (yS 1))) rfl (zP (sc:=zb zM) rfl (by decide +kernel) (by decide +kernel) (by decide +kernel) rfl (by decide +kernel) (by decide +kernel) rfl) (zaJ rfl B.zip (za (YE (pv 0) rfl) (za (YE (pv 0) rfl) zc))) (λ_ _ _ _ _ _=>uA (n:=2) rfl (yd (zB (i:=0) (show List.Nodup [_,_,_] by decide) rfl (Or.inl rfl)) (yd (zB (i:=1) (show List.Nodup [_,_,_] by decide) rfl (Or.inl rfl)) wy))) (λ_ _ _ _ _ _=>yE) (λ_ _ _ _ _ _=>(zE JV (vt bq eP eQ WM (pv 2) (za (pv 0) zc)) (pv 1)))) zc)))),?_⟩
  have s16:=yk
  ac_rfl
  refine⟨_,_,_,ho,T.cW,T.lW,_,rfl,_,_,_,ho,T.cW,T.wW,_,rfl,l,rfl,t,rfl,⟨_,SqT.of ht⟩,λD hD=>CompZ.by (ys:=ns.map V.int) (λi sK H'=>Same H H'/\H' D=sE (.lst sK)/\sK=((((l.zip ns).map λp=>(w.count p.1:Int) * p.2).take i).map V.int)) (by rw[af];lia) ⟨zf hD,ze,rfl⟩ (λi sK H' _ h=>SqT.of (h.1 _ _ ht)) ?_ ?_⟩
  ·rintro i c y sK H' p hc hy ⟨hs,hH,rfl⟩ hp
   have hi:=(List.getElem?_eq_some_iff.mp hc).1
   rw[aH] at hy
   obtain⟨n,hn',rfl⟩:=Option.map_eq_some_iff.mp hy
   have hz:((l.zip ns).map λp=>(w.count p.1:Int) * p.2)[i]? = sE ((w.count c:Int) * n):=by
    rw[aH,(List.getElem?_zip_eq_some (z:=(c,n))).mpr ⟨hc,hn'⟩]
    rfl
   obtain⟨n1,n2⟩:=hb n (ae hn')
   have hcl:w.count c<=w.length:=List.count_le_length
   have hcn:(w.count c:Int) * n=(w.count c:Int) * n:=rfl
   simp only[wx]
   ac_rfl
   refine⟨_,SqT.of ze,rfl,_,_,rfl,_,_,rfl,rfl,Jf,_,rfl,_,rfl,?_,zf hp _ _ hH,by rw[af,aK];lia,?_⟩
   ·exact .inr ⟨by lia,by lia⟩
   ·rw[Vd]
    refine CNx.mk hi ⟨zG (hs.trans (zf hp)) hD,ze,?_⟩
    rw[zU hz,aE]
    rfl
  ·rintro sK H' ⟨hs,hH,rfl⟩
   have e:l.length=((l.zip ns).map λp=>(w.count p.1:Int) * p.2).length:=by rw[af,List.length_zip];lia
   refine⟨D,rfl,_,SqL.of hH,?_⟩
   rw[e,aQ]
   exact q _ hs
theorem zco(l:List Nat)(c e:Nat):StrLaws.At (tx l) (tx [c]) (tx l).length e ↔ l[e]? = sE c:=by
 unfold StrLaws.At Builtin.Str.subAt
 rw[zR,zR]
 have h1:[c].length=1:=rfl
 rw[h1,beq_iff_eq]
 have e1:((tx l).cps.extract e (e+1)).toList=(l.drop e).take 1:=by
  show (l.toArray.extract e (e+1)).toList=_
  simp [d5]
 have e2:((tx l).cps.extract e (e+1)=(tx [c]).cps) ↔ (l.drop e).take 1=[c]:=by
  constructor
  ·intro h
   rw[<- e1,h]
  ·intro h
   apply Array.toList_inj.mp
   rw[e1,h]
 constructor
 ·rintro⟨h2,h3⟩
  have:=e2.mp h3
  rw[aU (by lia),dM,bI] at this
  rw[ak (by lia)]
  injection this with h _
  rw[h]
 ·intro h
  obtain⟨he,hx⟩:=List.getElem?_eq_some_iff.mp h
  refine⟨by lia,e2.mpr ?_⟩
  rw[aU he,dM,bI,hx]
theorem Vi{l:List Nat}{c:Nat}(h:c ∈ l):Txt.find (tx l) (tx [c])=((l.idxOf c:Nat):Int):=by
 have hlt:=bC h
 have hg:l[l.idxOf c]? = sE c:=by rw[ak hlt,dP]
 rcases PyProof.Rows.find_whole (tx l) (tx [c]) with ⟨h1,h2⟩ | ⟨e,h1,h2,h3⟩
 ·exact absurd ((zco l c _).mpr hg) (h2 _)
 ·have he:=(zco l c e).mp h2
  have:e=l.idxOf c:=by
   rcases d4 e (l.idxOf c) with q | q | q
   ·have:=List.not_of_lt_findIdx (p:=(· == c)) q
    obtain⟨h4,h5⟩:=List.getElem?_eq_some_iff.mp he
    simp [h5] at this
   ·exact q
   ·exact absurd ((zco l c _).mpr hg) (h3 _ q)
  rw[h1,this]
abbrev MkO(P:oV)(w:oX)(K:oO)(mg:oW->Option oQ)(base:pb)(C:oP):Prop:=DMk P w K mg base CX0 3 C ["self","letters"] (uS K)
abbrev MkW(P:oV)(w:oX)(K:oO)(mg:oW->Option oQ)(base:pb)(C:oP):Prop:=DMk P w K mg base (CXx P w) 4 C ["self","letters","weights"] (jY K C)
abbrev MW(P:oV)(w:oX)(K:oO)(mg:oW->Option oQ)(base:pb)(C:oP)(m:oW)(sp:Sp):Prop:=DM P w K mg base CX0 1 C m ["self","word"] sp
structure TWS(P:oV)(w:oX)(K:oO)(mg:oW->Option oQ)(base:pb)(CO CR CW:oP):Prop extends TOrd K mg CO CR CW where
 mO:MkO P w K mg base CO
 mR:MkO P w K mg base CR
 mW:MkW P w K mg base CW
 wO:MW P w K mg base CO "weight" kE
 wR:MW P w K mg base CR "weight" kE
 wW':MW P w K mg base CW "weight" (Yx CW)
 sO:MW P w K mg base CO "seen" Xs
 sR:MW P w K mg base CR "seen" Z3
 sW:MW P w K mg base CW "seen" Xs
structure OG(l:List Nat)(ns:List Int)(k:Nat):Prop where
 g:j4 l=sG
 k3:k<3
 nl:ns.length=l.length
 nb:∀n ∈ ns,1<=n/\n<=1000000
noncomputable def uC(l:List Nat)(w:List Nat):List Int:=w.map λc=>((l.idxOf c:Nat):Int)
noncomputable def xQ(k:Nat)(l:List Nat)(w:List Nat):List Int:=uC l (yw k w)
def zaD(CO CR CW:oP):oP->Prop:=λC=>C=CO\/C=CR\/C=CW
theorem OrdAt.fam{CO CR CW:oP}{H:Hp}{o:oP}{k:Nat}{l:List Nat}{ns:List Int}(h:OrdAt CO CR CW H o k l ns):∃C dx fs,zaD CO CR CW C/\H o=sE (.ins C dx fs)/\(∀m:oW,m≠"letters"->m≠"weights"->fs.lookup m=sF)/\fs.lookup ("letters" : oW)=sE (V.str (tx l)):=by
 have e1:∀m:oW,m≠"letters"->(m == ("letters" : oW))=sH:=λm hm=>by simpa using hm
 have e2:∀m:oW,m≠"weights"->(m == ("weights" : oW))=sH:=λm hm=>by simpa using hm
 obtain⟨dx,⟨h1,h2⟩ | ⟨h1,h2⟩ | ⟨h1,h2,w,h3,h4⟩⟩:=h
 ·exact⟨_,_,_,.inl rfl,h2,λm hm _=>by simp [bi,e1 m hm],rfl⟩
 ·exact⟨_,_,_,.inr (.inl rfl),h2,λm hm _=>by simp [bi,e1 m hm],rfl⟩
 ·exact⟨_,_,_,.inr (.inr rfl),h3,λm hm hm2=>by simp [bi,e1 m hm,e2 m hm2],rfl⟩
def qK(CO CR CW:oP):Sp:=λvs H Q _=>∃(o:oP) (k:Nat) (l:List Nat) (ns:List Int) (w:List Nat),vs=[.ref o,.str (tx w)]/\OrdAt CO CR CW H o k l ns/\OG l ns k/\w.length<=1000/\(∀c ∈ w,c ∈ l)/\∀(p q:oP) (H':Hp),Same H H'->H' p=sE (.tup [.int (zk k l ns w),.ref q])->H' q=sE (.lst ((xQ k l w).map V.int))->Q (.ref p) H'
theorem QE{H:Hp}{CO CR CW o D:oP}{k:Nat}{l:List Nat}{ns:List Int}{v:List Nat}{a1:Option V}{Q:VK}(T:TOrd K mg CO CR CW)(ho:OrdAt CO CR CW H o k l ns)(hl:v.length<=1000)(hm:∀c ∈ v,c ∈ l)(hD:H D=sF)(q:∀H',Same H H'->H' D=sE (.lst ((uC l v).map V.int))->Q (.ref D) H') :
  CompS (tx v) (xu 0) wx (tBM K "str" zy (zag K (yS 1) "letters") (zN (yS 0) ww)) 1 [0] [sE (.ref o),a1] H Q D:=by
 have s16:=yk
 refine CompS.by (λi sK H'=>Same H H'/\H' D=sE (.lst sK)/\sK=(uC l (v.take i)).map V.int) ⟨zf hD,ze,rfl⟩ ?_ ?_
 ·rintro i c sK H' hc ⟨hs,hH,rfl⟩
  have hci:=(List.getElem?_eq_some_iff.mp hc).1
  have hcl:=hm c (ae hc)
  obtain⟨C,dx,fs,hf,ho',_,hlk⟩:=(ho.same hs).fam
  have hC:Cls K C/\NoAttr K C "letters":=by
   rcases hf with rfl | rfl | rfl
   ·exact⟨T.cO,T.lO⟩
   ·exact⟨T.cR,T.lR⟩
   ·exact⟨T.cW,T.lW⟩
  simp only[wx]
  ac_rfl
  refine⟨xl,_,_,_,ho',hC.1,hC.2,_,hlk,trivial,_,rfl,_,Vi hcl,hH,by rw[af];unfold uC;rw[af,aK];lia,CNx.mk hci ⟨zG hs hD,ze,?_⟩⟩
  unfold uC
  rw[zU hc,aE,aE]
  rfl
 ·rintro sK H' ⟨hs,hH,rfl⟩
  rw[aQ] at hH
  exact q H' hs hH
theorem kJ:zr ["self","word"] ["self","word"] (zb yz):=⟨rfl,rfl,rfl,by decide +kernel,rfl,by decide +kernel,by decide +kernel⟩
theorem wg{f CO CR CW:oP}{fd:oU}(B:Bt mg)(T:TWS P w K mg base CO CR CW)(F:Fun K "rank" "Order.rank" yz f fd) : yg P w K mg base CX0 2 f fd ["self","word"] (qK CO CR CW):=by
 refine F.ok kJ (λvs H Q E h=>?_) (λcdv A outer s H vs Q E hr h=>?_)
 ·obtain⟨o,k,l,ns,w,rfl,_⟩:=h
  rfl
 ·obtain⟨o,k,l,ns,w,rfl,ho,hG,hw,hm,q⟩:=h
  refine⟨_,(zh (zv (yh (za (zaC T.wO T.wR T.wW' T.cO T.cR T.cW hr (pv 0) (za (pv 1) zc)) (za (xh (own:=["letter"]) (caps:=["self"]) (ix:=[0]) (tt:=wx) (te:=(tBM K "str" zy (zag K (yS 1) "letters") (zN (yS 0) ww))) rfl (zP (sc:=zb yz) rfl (by decide +kernel) (by decide +kernel) (by decide +kernel) rfl (by decide +kernel) (by decide +kernel) rfl) (Zw (zaC T.sO T.sR T.sW T.cO T.cR T.cW hr (pv 0) (za (pv 1) zc))) (λ_ _ _ _ _ _=>zB (i:=0) (show List.Nodup [_,_] by decide) rfl (Or.inl rfl)) (λ_ _ _ _ _ _=>yE) (λ_ _ _ _ _ _=>(vt bq PySem.F.slot_str_index PySem.F.type_str_index KB (YE (pv 1) rfl) (za (pv 0) zc)))) zc))))),?_⟩
  have s16:=yk
  have hsl:(yw k w).length<=1000:=by
   unfold yw
   split
   ·rw[cq]
    exact hw
   ·exact hw
  have hsm:∀c ∈ yw k w,c ∈ l:=λc hc=>by
   unfold yw at hc
   split at hc
   ·exact hm c (List.mem_reverse.mp hc)
   ·exact hm c hc
  have l6:l.length<=6:=(of_decide_eq_true hG.g).2.1
  have fin:∀H1,Same H H1->∀D,H1 D=sF->CompS (tx (yw k w)) (xu 0) wx (tBM K "str" zy (zag K (yS 1) "letters") (zN (yS 0) ww)) 1 [0] [sE (.ref o),sE (.str (tx w))] H1 (λx5 H1=>2<=oN/\∀p,H1 p=sF->Q (.ref p) (upd H1 p (.tup [.int (zk k l ns w),x5]))) D:=λH1 s1 D hD=>QE T.toTOrd (ho.same s1) hsl hsm hD λH' s' hH=>⟨by lia,λp hp=>q p D _ (s1.trans (s'.trans (zf hp))) ze (zf hp _ _ hH)⟩
  ac_rfl
  obtain⟨dx',⟨h1,h2⟩ | ⟨h1,h2⟩ | ⟨h1,h2,t',h3,h4⟩⟩:=id ho
  ·have e1:zk k l ns w=(w.length:Int):=by unfold zk;rw[if_neg (by lia)]
   have e2:yw k w=w:=by unfold yw;rw[if_neg (by lia)]
   rw[e1,e2] at fin
   exact .inl ⟨_,_,h2,rfl,o,w,rfl,hw,.inl ⟨_,_,h2,rfl,o,w,rfl,_,rfl,fin H (Same.refl _)⟩⟩
  ·have e1:zk k l ns w=(w.length:Int):=by unfold zk;rw[if_neg (by lia)]
   have e2:yw k w=w.reverse:=by unfold yw;rw[if_pos h1]
   rw[e1,e2] at fin
   exact .inr (.inl ⟨_,_,h2,rfl,o,w,rfl,hw,.inr (.inl ⟨_,_,h2,rfl,o,w,rfl,hw,_,rfl,fin H (Same.refl _)⟩)⟩)
  ·have e1:zk k l ns w=Wh l ns w:=by unfold zk;rw[if_pos h1]
   have e2:yw k w=w:=by unfold yw;rw[if_neg (by lia)]
   rw[e1,e2] at fin
   exact .inr (.inr ⟨_,_,h3,rfl,o,dx',t',w,l,ns,rfl,hw,l6,hG.nl,hG.nb,h3,h4,λH' s'=>.inr (.inr ⟨_,_,s' _ _ h3,rfl,o,w,rfl,_,rfl,fin H' s'⟩)⟩)
noncomputable def zK(k:Nat)(l:List Nat)(ns:List Int)(u v:List Nat):Bool:=if zk k l ns u=zk k l ns v then ltI (xQ k l u) (xQ k l v) else decide (zk k l ns u<zk k l ns v)
abbrev DR(P:oV)(w:oX)(K:oO)(mg:oW->Option oQ)(base:pb)(CO CR CW:oP):Prop:=DMF P w K mg base CX0 2 (zaD CO CR CW) "rank" ["self","word"] (λ_=>qK CO CR CW)
theorem ue{H:Hp}{p q:oP}{z:Int}{ns:List Int}(hp:H p=sE (.tup [.int z,.ref q]))(hq:H q=sE (.lst (ns.map V.int))):Is K H (.tup [.int z,.lst (ns.map L3.D.int)]) (.ref p):=by
 simp only[Is,Iss]
 exact⟨p,_,rfl,SqT.of hp,_,_,rfl,rfl,_,_,rfl,⟨q,_,rfl,SqL.of hq,Iss.ints ns⟩,rfl⟩
theorem xz:∀x:List Int,ltI x x=sH
 | []=>rfl
 | a::x=>by
  rw[ltI,if_pos rfl]
  exact xz x
theorem YA(a b:Int)(x y:List Int):ltD (.tup [.int a,.lst (x.map L3.D.int)]) (.tup [.int b,.lst (y.map L3.D.int)])=if a=b then ltI x y else decide (a<b):=by
 simp only[ltD,v0,eqD,ZW,ZN]
 by_cases h:a=b
 ·subst h
  by_cases h2:x=y
  ·subst h2
   simp [xz]
  ·simp [h2]
 ·simp [h]
def Vo(CO CR CW:oP):Sp:=λvs H Q _=>∃(o:oP) (k:Nat) (l:List Nat) (ns:List Int) (u v:List Nat),vs=[.ref o,.str (tx u),.str (tx v)]/\OrdAt CO CR CW H o k l ns/\OG l ns k/\u.length<=1000/\v.length<=1000/\(∀c ∈ u,c ∈ l)/\(∀c ∈ v,c ∈ l)/\∀H':Hp,Same H H'->Q (.bl (zK k l ns u v)) H'
theorem qF:zr ["self","one","other"] ["self","one","other"] (zb yo):=⟨rfl,rfl,rfl,by decide +kernel,rfl,by decide +kernel,by decide +kernel⟩
theorem xC{f CO CR CW:oP}{fd:oU}(B:Bt mg)(DRk:DR P w K mg base CO CR CW)(F:Fun K "before" "Order.before" yo f fd) : yg P w K mg base CX0 3 f fd ["self","one","other"] (Vo CO CR CW):=by
 refine F.ok qF (λvs H Q E h=>?_) (λcdv A outer s H vs Q E hr h=>?_)
 ·obtain⟨o,k,l,ns,u,v,rfl,_⟩:=h
  rfl
 ·obtain⟨o,k,l,ns,u,v,rfl,ho,hG,hu,hv,hmu,hmv,q⟩:=h
  refine⟨_,(zh (zv (vv (VW (jP hr)) (K6 DRk hr (pv 0) (za (pv 1) zc)) (K6 DRk hr (pv 0) (za (pv 2) zc)) (zL _)))),?_⟩
  have s16:=yk
  ac_rfl
  obtain⟨C,dx,fs,hf,ho1,hn,_⟩:=ho.fam
  have h1:fs.lookup ("rank" : oW)=sF:=hn _ (by decide) (by decide)
  refine⟨C,hf,dx,fs,ho1,h1,o,k,l,ns,u,rfl,ho,hG,hu,hmu,λp x H1 s1 hp hx=>⟨C,hf,dx,fs,s1 _ _ ho1,h1,o,k,l,ns,v,rfl,ho.same s1,hG,hv,hmv,λp' x' H2 s2 hp' hx'=>?_⟩⟩
  refine WK (ue (s2 _ _ hp) (s2 _ _ hx)) (ue hp' hx') (by simp only[dpD,uK,j3];decide) (by simp only[okD,jk];exact⟨trivial,vJ _ _,trivial⟩) ?_
  rw[YA]
  exact q H2 (s1.trans s2)
abbrev DB(P:oV)(w:oX)(K:oO)(mg:oW->Option oQ)(base:pb)(CO CR CW:oP):Prop:=DMF P w K mg base CX0 3 (zaD CO CR CW) "before" ["self","one","other"] (λ_=>Vo CO CR CW)
noncomputable def Qz(k:Int)(ls:List Nat)(ns:List Int)(w:List Nat):Int:=(w.map λc=>if k=2 then ns.getD (ls.idxOf c) 0 else 1).sum
theorem Qg{k:Int}{ls:List Nat}{ns:List Int}{w:List Nat}(h:k≠2):Qz k ls ns w=(w.length:Int):=by
 unfold Qz
 induction w with
 | nil=>rfl
 | cons c w ih =>
  rw[az,bj,ih,if_neg h,aM]
  lia
theorem qM{ls:List Nat}{ns:List Int}(f g:Nat->Int):((ls.zip ns).map λp=>(f p.1+g p.1) * p.2).sum=((ls.zip ns).map λp=>f p.1 * p.2).sum+((ls.zip ns).map λp=>g p.1 * p.2).sum:=by
 induction ls.zip ns with
 | nil=>rfl
 | cons p r ih =>
  rw[az,az,az,bj,bj,bj,ih,Int.add_mul]
  lia
theorem VR:∀{ls:List Nat} {ns:List Int} {c:Nat},ls.Nodup->ns.length=ls.length->c ∈ ls->((ls.zip ns).map λp=>(if p.1=c then (1:Int) else 0) * p.2).sum=ns.getD (ls.idxOf c) 0
 | [],ns,c,_,_,hc=>(nomatch hc)
 | d::ls,[],c,_,hl,_=>by cases hl
 | d::ls,n::ns,c,hn,hl,hc=>by
  rw[di,az,bj]
  have hnd:=List.nodup_cons.mp hn
  by_cases h:d=c
  ·subst h
   have h0:∀(l:List Nat) (m:List Int),d ∉ l->((l.zip m).map λp=>(if p.1=d then (1:Int) else 0) * p.2).sum=0:=by
    intro l
    induction l with
    | nil=>intro m _;rfl
    | cons x l ih =>
     intro m hx
     cases m with
     | nil=>rfl
     | cons y m =>
      rw[di,az,bj,ih m (λq=>hx (aw _ q)),if_neg (show ¬ x=d from λe=>hx (by rw[e];exact aD))]
      lia
   rw[h0 ls ns hnd.1,if_pos rfl,List.idxOf_cons_self]
   simp
  ·have hc':c ∈ ls:=by
    rcases List.mem_cons.mp hc with e | e
    ·exact absurd e.symm h
    ·exact e
   rw[VR hnd.2 (by simpa using hl) hc',if_neg h,List.idxOf_cons,show (d == c)=sH by simpa using h]
   simp
theorem kz{ls:List Nat}{ns:List Int}(hn:ls.Nodup)(hl:ns.length=ls.length):∀{w:List Nat},(∀x ∈ w,x ∈ ls)->Qz 2 ls ns w=Wh ls ns w
 | [],_=>by
  have h0:∀r:List (Nat × Int),(r.map λp=>((([]:List Nat).count p.1:Nat):Int) * p.2).sum=0:=by
   intro r
   induction r with
   | nil=>rfl
   | cons p r ih=>rw[az,bj,ih];simp
  exact (h0 _).symm
 | c::w,h=>by
  have ih:=kz hn hl (w:=w) λx hx=>h x (aw _ hx)
  have e1:Qz 2 ls ns (c::w)=ns.getD (ls.idxOf c) 0+Qz 2 ls ns w:=by
   unfold Qz
   rw[az,bj,if_pos rfl]
  rw[e1,ih,<- VR hn hl (h c aD)]
  unfold Wh
  rw[<- qM (λx=>if x=c then 1 else 0) (λx=>(w.count x:Int))]
  refine congrArg List.sum (cF λp _=>?_)
  rw[List.count_cons]
  by_cases e:c=p.1
  ·rw[if_pos e.symm,if_pos (by simpa using e)]
   simp [Int.add_comm]
  ·rw[if_neg (λz=>e z.symm),if_neg (by simpa using e)]
   simp
noncomputable def wt(k:Nat)(ns:List Int)(i:Int):Int:=if k=2 then ns.getD i.toNat 0 else 1
theorem wb{g:Int->Int}:∀{x:List Int},(∀i ∈ x,0<g i)->0<=(x.map g).sum
 | [],_=>by simp
 | a::x,h=>by
  have h1:=h a aD
  have h2:=wb (x:=x) λi hi=>h i (aw _ hi)
  rw[az,bj]
  lia
theorem wQ:∀{x y:List Int},x≠y->ltI x y=!ltI y x
 | [],[],h=>absurd rfl h
 | [],_::_,_=>rfl
 | _::_,[],_=>rfl
 | a::x,b::y,h=>by
  rw[ltI,ltI]
  by_cases e:a=b
  ·rw[if_pos e,if_pos e.symm]
   exact wQ λq=>h (by rw[e,q])
  ·rw[if_neg e,if_neg λq=>e q.symm]
   by_cases c:a<b
   ·rw[decide_eq_true c,decide_eq_false (by lia)]
    rfl
   ·rw[decide_eq_false c,decide_eq_true (by lia)]
    rfl
theorem qt:∀{x y z:List Int},ltI x y=sG->ltI y z=sG->ltI x z=sG
 | [],[],_,h,_=>by cases h
 | [],_::_,[],_,h=>by cases h
 | [],_::_,_::_,_,_=>rfl
 | _::_,[],_,h,_=>by cases h
 | _::_,_::_,[],_,h=>by cases h
 | a::x,b::y,c::z,h1,h2=>by
  rw[ltI] at h1 h2 ⊢
  by_cases e:a=b
  ·subst e
   rw[if_pos rfl] at h1
   by_cases f:a=c
   ·rw[if_pos f] at h2 ⊢
    exact qt h1 h2
   ·rw[if_neg f] at h2 ⊢
    exact h2
  ·rw[if_neg e] at h1
   have h1':=of_decide_eq_true h1
   by_cases f:b=c
   ·subst f
    rw[if_neg e]
    exact h1
   ·rw[if_neg f] at h2
    have h2':=of_decide_eq_true h2
    rw[if_neg (by lia)]
    exact decide_eq_true (by lia)
theorem Ya:∀(c x y:List Int),ltI (c ++ x) (c ++ y)=ltI x y
 | [],_,_=>rfl
 | a::c,x,y=>by
  rw[bE,bE,ltI,if_pos rfl]
  exact Ya c x y
theorem Y6{g:Int->Int}{c:List Int}:∀{x y:List Int},(∀i ∈ x,0<g i)->(∀i ∈ y,0<g i)->(x.map g).sum=(y.map g).sum->ltI (x ++ c) (y ++ c)=ltI x y
 | [],[],_,_,_=>xz c
 | [],b::y,_,hy,h=>by
  have h1:=hy b aD
  have h2:=wb (x:=y) λi hi=>hy i (aw _ hi)
  rw[az,bj,aP,List.sum_nil] at h
  lia
 | a::x,[],hx,_,h=>by
  have h1:=hx a aD
  have h2:=wb (x:=x) λi hi=>hx i (aw _ hi)
  rw[az,bj,aP,List.sum_nil] at h
  lia
 | a::x,b::y,hx,hy,h=>by
  rw[bE,bE,ltI,ltI]
  by_cases e:a=b
  ·rw[if_pos e,if_pos e]
   rw[az,bj,az,bj,e] at h
   exact Y6 (λi hi=>hx i (aw _ hi)) (λi hi=>hy i (aw _ hi)) (by lia)
  ·rw[if_neg e,if_neg e]
section
variable{k:Nat}{l:List Nat}{ns:List Int}{t u v:List Nat}
theorem Qk(a b:List Nat):Wh l ns (a ++ b)=Wh l ns a+Wh l ns b:=by
 unfold Wh
 rw[<- qM (λx=>(a.count x:Int)) (λx=>(b.count x:Int))]
 refine congrArg List.sum (cF λp _=>?_)
 rw[List.count_append]
 simp
theorem yT(a b:List Nat):zk k l ns (a ++ b)=zk k l ns a+zk k l ns b:=by
 unfold zk
 by_cases h:k=2
 ·rw[if_pos h,if_pos h,if_pos h,Qk]
 ·rw[if_neg h,if_neg h,if_neg h,am]
  lia
theorem yQ(G:OG l ns k):∀{w:List Nat},(∀c ∈ w,c ∈ l)->zk k l ns w=((uC l w).map (wt k ns)).sum:=by
 intro w hm
 have hn:l.Nodup:=(of_decide_eq_true G.g).2.2.2
 have e:((uC l w).map (wt k ns)).sum=Qz (k:Int) l ns w:=by
  unfold uC Qz
  rw[dD]
  refine congrArg List.sum (cF λc _=>?_)
  show wt k ns _=_
  unfold wt
  by_cases h:k=2
  ·rw[if_pos h,if_pos (by lia),aO]
  ·rw[if_neg h,if_neg (by lia)]
 rw[e]
 unfold zk
 by_cases h:k=2
 ·rw[if_pos h,h]
  exact (kz hn G.nl hm).symm
 ·rw[if_neg h,Qg (by lia)]
theorem ZC(G:OG l ns k)(hm:∀c ∈ u,c ∈ l):∀i ∈ uC l u,0<wt k ns i:=by
 intro i hi
 obtain⟨c,hc,rfl⟩:=List.mem_map.mp hi
 have hlt:=bC (hm c hc)
 have hl:=G.nl
 unfold wt
 split
 ·rw[aO,ac,ak (by lia)]
  have:=(G.nb _ (em (l:=ns) (n:=l.idxOf c) (by lia))).1
  show 0<ns[l.idxOf c]
  lia
 ·decide
theorem wf(G:OG l ns k)(hm:∀c ∈ u,c ∈ l):0<=zk k l ns u:=by
 rw[yQ G hm]
 exact wb (ZC G hm)
theorem uh(G:OG l ns k)(hm:∀c ∈ u,c ∈ l)(h:u≠[]):0<zk k l ns u:=by
 cases u with
 | nil=>exact absurd rfl h
 | cons a u =>
  have h1:=ZC G hm (l.idxOf a:Nat) (List.mem_map.mpr ⟨a,aD,rfl⟩)
  have h2:0<=((uC l u).map (wt k ns)).sum:=wb (ZC (u:=u) G λc hc=>hm c (aw _ hc))
  rw[yQ G hm]
  show 0<((((l.idxOf a:Nat):Int)::uC l u).map (wt k ns)).sum
  rw[az,bj]
  lia
theorem jQ:∀{u v:List Nat},(∀c ∈ u,c ∈ l)->(∀c ∈ v,c ∈ l)->uC l u=uC l v->u=v
 | [],[],_,_,_=>rfl
 | [],_::_,_,_,h=>by cases h
 | _::_,[],_,_,h=>by cases h
 | a::u,b::v,hu,hv,h=>by
  unfold uC at h
  rw[az,az] at h
  injection h with h1 h2
  have h3:l.idxOf a=l.idxOf b:=by lia
  have ha:=dP (bC (hu a aD))
  have hb:=dP (bC (hv b aD))
  have:a=b:=by
   rw[<- ha,<- hb]
   simp only[h3]
  rw[this,jQ (λc hc=>hu c (aw _ hc)) (λc hc=>hv c (aw _ hc)) h2]
theorem ya:zK k l ns u u=sH:=by
 unfold zK
 rw[if_pos rfl,xz]
theorem Xb(hu:∀c ∈ u,c ∈ l)(hv:∀c ∈ v,c ∈ l)(h:xQ k l u=xQ k l v):u=v:=by
 unfold xQ yw at h
 by_cases e:k=1
 ·rw[if_pos e,if_pos e] at h
  exact List.reverse_inj.mp (jQ (λc hc=>hu c (List.mem_reverse.mp hc)) (λc hc=>hv c (List.mem_reverse.mp hc)) h)
 ·rw[if_neg e,if_neg e] at h
  exact jQ hu hv h
theorem qv(hu:∀c ∈ u,c ∈ l)(hv:∀c ∈ v,c ∈ l)(h:u≠v):zK k l ns u v=!zK k l ns v u:=by
 unfold zK
 by_cases e:zk k l ns u=zk k l ns v
 ·rw[if_pos e,if_pos e.symm]
  exact wQ λq=>h (Xb hu hv q)
 ·rw[if_neg e,if_neg λq=>e q.symm]
  by_cases c:zk k l ns u<zk k l ns v
  ·rw[decide_eq_true c,decide_eq_false (by lia)]
   rfl
  ·rw[decide_eq_false c,decide_eq_true (by lia)]
   rfl
theorem yI(h1:zK k l ns t u=sG)(h2:zK k l ns u v=sG):zK k l ns t v=sG:=by
 unfold zK at h1 h2 ⊢
 generalize zk k l ns t=a at *
 generalize zk k l ns u=b at *
 generalize zk k l ns v=c at *
 by_cases e:a=b
 ·subst e
  rw[if_pos rfl] at h1
  by_cases f:a=c
  ·rw[if_pos f] at h2 ⊢
   exact qt h1 h2
  ·rw[if_neg f] at h2 ⊢
   exact h2
 ·rw[if_neg e] at h1
  have h1':=of_decide_eq_true h1
  by_cases f:b=c
  ·subst f
   rw[if_neg e]
   exact h1
  ·rw[if_neg f] at h2
   have h2':=of_decide_eq_true h2
   rw[if_neg (by lia)]
   exact decide_eq_true (by lia)
theorem Xa(a b:List Nat):uC l (a ++ b)=uC l a ++ uC l b:=aE
theorem kW(G:OG l ns k)(hu:∀c ∈ u,c ∈ l)(hv:∀c ∈ v,c ∈ l)(e:zk k l ns u=zk k l ns v)(c:List Int):ltI (uC l u ++ c) (uC l v ++ c)=ltI (uC l u) (uC l v):=by
 rw[yQ G hu,yQ G hv] at e
 exact Y6 (ZC G hu) (ZC G hv) e
theorem jp(G:OG l ns k)(hu:∀c ∈ u,c ∈ l):zk k l ns u.reverse=zk k l ns u:=by
 rw[yQ G hu,yQ G λc hc=>hu c (List.mem_reverse.mp hc)]
 unfold uC
 rw[List.map_reverse,List.map_reverse,List.sum_reverse]
theorem vF(G:OG l ns k)(ht:∀c ∈ t,c ∈ l)(hu:∀c ∈ u,c ∈ l)(hv:∀c ∈ v,c ∈ l):zK k l ns (t ++ u) (t ++ v)=zK k l ns u v/\zK k l ns (u ++ t) (v ++ t)=zK k l ns u v:=by
 have hur:∀c ∈ u.reverse,c ∈ l:=λc hc=>hu c (List.mem_reverse.mp hc)
 have hvr:∀c ∈ v.reverse,c ∈ l:=λc hc=>hv c (List.mem_reverse.mp hc)
 unfold zK
 rw[yT,yT,yT,yT]
 by_cases e:zk k l ns u=zk k l ns v
 ·rw[if_pos (by lia),if_pos e,if_pos (by lia)]
  unfold xQ yw
  by_cases f:k=1
  ·simp only[if_pos f,List.reverse_append,Xa]
   exact⟨kW G hur hvr (by rw[jp G hu,jp G hv,e]) _,Ya _ _ _⟩
  ·simp only[if_neg f,Xa]
   exact⟨Ya _ _ _,kW G hu hv e _⟩
 ·rw[if_neg (by lia),if_neg e,if_neg (by lia)]
  exact⟨by congr 1;exact propext (by lia),by congr 1;exact propext (by lia)⟩
theorem YC(G:OG l ns k)(ht:∀c ∈ t,c ∈ l)(hu:∀c ∈ u,c ∈ l)(hv:∀c ∈ v,c ∈ l)(h:t ++ u ++ v≠u):zK k l ns u (t ++ u ++ v)=sG/\zK k l ns (t ++ u ++ v) u=sH:=by
 have h0:0<zk k l ns t+zk k l ns v:=by
  have h1:=wf G ht
  have h2:=wf G hv
  by_cases e:t=[]
  ·by_cases f:v=[]
   ·subst e f
    simp at h
   ·have:=uh G hv f
    lia
  ·have:=uh G ht e
   lia
 unfold zK
 rw[yT,yT,if_neg (by lia),if_neg (by lia)]
 exact⟨decide_eq_true (by lia),decide_eq_false (by lia)⟩
end
theorem ZA:∀x y:List Int,ltI x y=sG->ltI y x=sH
 | [],[],h=>by cases h
 | [],_::_,_=>rfl
 | _::_,[],h=>by cases h
 | a::x,b::y,h=>by
  rw[ltI] at h ⊢
  by_cases e:a=b
  ·rw[if_pos e] at h
   rw[if_pos e.symm]
   exact ZA x y h
  ·rw[if_neg e] at h
   rw[if_neg (λq=>e q.symm)]
   have:=of_decide_eq_true h
   exact decide_eq_false (by lia)
theorem Yd{k:Nat}{l:List Nat}{ns:List Int}{u v:List Nat}(h:zK k l ns u v=sG):zK k l ns v u=sH:=by
 unfold zK at h ⊢
 by_cases e:zk k l ns u=zk k l ns v
 ·rw[if_pos e] at h
  rw[if_pos e.symm]
  exact ZA _ _ h
 ·rw[if_neg e] at h
  rw[if_neg (λq=>e q.symm)]
  have:=of_decide_eq_true h
  exact decide_eq_false (by lia)
noncomputable def stJ(l:List Nat)(ps:List zw)(q j:Nat):Bool:=((ps[j]?).map λp=>zu l (q:Int) p.1).getD sH
theorem jB{l:List Nat}{ps:List zw}{q j:Nat}{p:zw}(h:ps[j]? = sE p):stJ l ps q j=zu l (q:Int) p.1:=by
 unfold stJ
 rw[h]
 rfl
theorem wC{l:List Nat}{ps:List zw}{q j:Nat}(h:stJ l ps q j=sG):j<ps.length/\∃p,ps[j]? = sE p/\zu l (q:Int) p.1=sG:=by
 unfold stJ at h
 cases e:ps[j]? with
 | none=>rw[e] at h;cases h
 | some p =>
  rw[e] at h
  exact⟨(List.getElem?_eq_some_iff.mp e).1,p,rfl,h⟩
noncomputable def qG(l:List Nat)(ps:List zw)(q i:Nat):List (Nat × Nat):=((aX i).filter (stJ l ps q)).map λj=>(j,q)
noncomputable def xI(l:List Nat)(ps:List zw)(k:Nat):List (Nat × Nat):=(aX k).flatMap λq=>qG l ps q ps.length
theorem Wa(l:List Nat)(ps:List zw)(q i:Nat):qG l ps q (i+1)=qG l ps q i ++ (if stJ l ps q i=sG then [(i,q)] else []):=by
 unfold qG
 rw[cL,cM,aE]
 congr 1
 by_cases h:stJ l ps q i=sG
 ·rw[if_pos h,eG h]
  rfl
 ·rw[if_neg h,eI h]
  rfl
theorem jx(l:List Nat)(ps:List zw)(k:Nat):xI l ps (k+1)=xI l ps k ++ qG l ps k ps.length:=by
 unfold xI
 rw[cL,cZ]
 simp
theorem WH(l:List Nat)(ps:List zw)(q i:Nat):(qG l ps q i).length<=i:=by
 unfold qG
 rw[af]
 have:=cQ (stJ l ps q) (aX i)
 rw[dq] at this
 exact this
theorem Vr(l:List Nat)(ps:List zw):∀k,(xI l ps k).length<=k * ps.length
 | 0=>by simp [xI]
 | k+1=>by
  rw[jx,am,d8]
  have:=Vr l ps k
  have:=WH l ps k ps.length
  lia
theorem usesN_mem{l:List Nat}{ps:List zw}{q i:Nat}{u:Nat × Nat}:u ∈ qG l ps q i ↔ u.2=q/\u.1<i/\stJ l ps q u.1=sG:=by
 unfold qG
 rw[List.mem_map]
 constructor
 ·rintro⟨j,hj,rfl⟩
  rw[List.mem_filter,eV] at hj
  exact⟨rfl,hj.1,hj.2⟩
 ·rintro⟨h1,h2,h3⟩
  exact⟨u.1,List.mem_filter.mpr ⟨List.mem_range.mpr h2,h3⟩,by rw[<- h1]⟩
theorem usesK_mem{l:List Nat}{ps:List zw}{k:Nat}{u:Nat × Nat}:u ∈ xI l ps k ↔ u.2<k/\stJ l ps u.2 u.1=sG:=by
 unfold xI
 rw[List.mem_flatMap]
 constructor
 ·rintro⟨q,hq,hu⟩
  obtain⟨h1,h2,h3⟩:=usesN_mem.mp hu
  rw[eV] at hq
  rw[h1]
  exact⟨hq,h3⟩
 ·rintro⟨h1,h2⟩
  exact⟨u.2,List.mem_range.mpr h1,usesN_mem.mpr ⟨rfl,(wC h2).1,h2⟩⟩
def uLt(a b:Nat × Nat):Prop:=a.2<b.2\/(a.2=b.2/\a.1<b.1)
theorem ux(l:List Nat)(ps:List zw)(q:Nat):∀i,(qG l ps q i).Pairwise uLt
 | 0=>by simp [qG]
 | i+1=>by
  rw[Wa]
  refine List.pairwise_append.mpr ⟨ux l ps q i,?_,λa ha b hb=>?_⟩
  ·split
   ·exact eE _ _
   ·exact List.Pairwise.nil
  ·obtain⟨h1,h2,_⟩:=usesN_mem.mp ha
   split at hb
   ·rw[List.mem_singleton.mp hb]
    exact .inr ⟨h1,h2⟩
   ·cases hb
theorem wD(l:List Nat)(ps:List zw):∀k,(xI l ps k).Pairwise uLt
 | 0=>by simp [xI]
 | k+1=>by
  rw[jx]
  refine List.pairwise_append.mpr ⟨wD l ps k,ux l ps k _,λa ha b hb=>?_⟩
  have h1:=(usesK_mem.mp ha).1
  have h2:=(usesN_mem.mp hb).1
  exact .inl (by lia)
def FirstN(l:List Nat)(ps:List zw)(lo hi n:Nat)(r:Option (Nat × Nat)):Prop :=
 (r=sF/\∀j q,j<n->lo<=q->q<hi->stJ l ps q j=sH) \/
 ∃n0 q0,r=sE (n0,q0)/\n0<n/\lo<=q0/\q0<hi/\stJ l ps q0 n0=sG/\∀j q,j<n->lo<=q->stJ l ps q j=sG->q0<q\/(q0=q/\n0<=j)
theorem FirstN.uniq{l:List Nat}{ps:List zw}{lo hi n:Nat}{r r':Option (Nat × Nat)}(h:FirstN l ps lo hi n r)(h':FirstN l ps lo hi n r'):r=r':=by
 rcases h with ⟨rfl,h⟩ | ⟨n0,q0,rfl,a1,a2,a3,a4,a5⟩
 ·rcases h' with ⟨rfl,_⟩ | ⟨n0,q0,rfl,a1,a2,a3,a4,a5⟩
  ·rfl
  ·rw[h n0 q0 a1 a2 a3] at a4
   cases a4
 ·rcases h' with ⟨rfl,h⟩ | ⟨n1,q1,rfl,b1,b2,b3,b4,b5⟩
  ·rw[h n0 q0 a1 a2 a3] at a4
   cases a4
  ·have x1:=a5 n1 q1 b1 b2 b4
   have x2:=b5 n0 q0 a1 a2 a4
   have e1:q0=q1:=by lia
   have e2:n0=n1:=by lia
   rw[e1,e2]
theorem Wb{l:List Nat}{ps:List zw}{r:Option (Nat × Nat)}(h:FirstN l ps 0 l.length ps.length r):r=(xI l ps l.length).head?:=by
 have hs:=wD l ps l.length
 refine h.uniq ?_
 cases e:xI l ps l.length with
 | nil =>
  refine .inl ⟨rfl,λj q _ _ hq=>?_⟩
  cases hb:stJ l ps q j with
  | false=>rfl
  | true =>
   have:(j,q) ∈ xI l ps l.length:=usesK_mem.mpr ⟨hq,hb⟩
   rw[e] at this
   cases this
 | cons u us =>
  rw[e] at hs
  have hu:u ∈ xI l ps l.length:=by rw[e];exact aD
  obtain⟨h1,h2⟩:=usesK_mem.mp hu
  refine .inr ⟨u.1,u.2,rfl,(wC h2).1,aJ _,h1,h2,λj q hj _ hb=>?_⟩
  by_cases hq:q<l.length
  ·have:(j,q) ∈ xI l ps l.length:=usesK_mem.mpr ⟨hq,hb⟩
   rw[e] at this
   rcases List.mem_cons.mp this with e2 | e2
   ·rw[<- e2]
    exact .inr ⟨rfl,aq _⟩
   ·rcases (List.pairwise_cons.mp hs).1 _ e2 with h | ⟨h,h'⟩
    ·exact .inl h
    ·exact .inr ⟨h,dg h'⟩
  ·exact .inl (by lia)
theorem qR{l p:List Nat}{q:Nat}(hp:p≠[])(h:zu l (q:Int) p=sG):q<l.length:=by
 obtain⟨h0,h1,_⟩:=of_decide_eq_true h
 have:0<p.length:=List.length_pos_iff.mpr hp
 lia
theorem FirstN.keep{l:List Nat}{ps:List zw}{lo hi n:Nat}{r:Option (Nat × Nat)}{p:zw}(h:FirstN l ps lo hi n r)(hp:ps[n]? = sE p)(hn:∀q:Nat,lo<=q->q<(r.map Prod.snd).getD hi->zu l (q:Int) p.1=sH):FirstN l ps lo hi (n+1) r:=by
 rcases h with ⟨rfl,h⟩ | ⟨n0,q0,rfl,a1,a2,a3,a4,a5⟩
 ·refine .inl ⟨rfl,λj q hj h1 h2=>?_⟩
  by_cases e:j<n
  ·exact h j q e h1 h2
  ·have:j=n:=by lia
   subst this
   rw[jB hp]
   exact hn q h1 h2
 ·refine .inr ⟨n0,q0,rfl,by lia,a2,a3,a4,λj q hj h1 h2=>?_⟩
  by_cases e:j<n
  ·exact a5 j q e h1 h2
  ·have:j=n:=by lia
   subst this
   rw[jB hp] at h2
   by_cases hq:q<q0
   ·rw[hn q h1 hq] at h2
    cases h2
   ·lia
theorem FirstN.take{l:List Nat}{ps:List zw}{lo hi n k:Nat}{r:Option (Nat × Nat)}{p:zw}(h:FirstN l ps lo hi n r)(hp:ps[n]? = sE p)(h1:lo<=k)(h2:k<(r.map Prod.snd).getD hi)(h3:zu l (k:Int) p.1=sG)(hn:∀q:Nat,lo<=q->q<k->zu l (q:Int) p.1=sH):FirstN l ps lo hi (n+1) (sE (n,k)):=by
 have hk:k<hi/\∀j q,j<n->lo<=q->stJ l ps q j=sG->k<q:=by
  rcases h with ⟨rfl,h⟩ | ⟨n0,q0,rfl,a1,a2,a3,a4,a5⟩
  ·refine⟨h2,λj q hj hl hb=>?_⟩
   by_cases hq:q<hi
   ·rw[h j q hj hl hq] at hb
    cases hb
   ·have h2':k<hi:=h2
    lia
  ·have h2':k<q0:=h2
   refine⟨by lia,λj q hj hl hb=>?_⟩
   have:=a5 j q hj hl hb
   lia
 refine .inr ⟨n,k,rfl,by lia,h1,hk.1,by rw[jB hp];exact h3,λj q hj hl hb=>?_⟩
 by_cases e:j<n
 ·exact .inl (hk.2 j q e hl hb)
 ·have:j=n:=by lia
  subst this
  rw[jB hp] at hb
  by_cases hq:q<k
  ·rw[hn q hl hq] at hb
   cases hb
  ·lia
theorem FirstN.window{l:List Nat}{ps:List zw}{lo mid hi n:Nat}{r:Option (Nat × Nat)}(h0:FirstN l ps lo mid n sF)(hm:lo<=mid)(h:FirstN l ps mid hi n r):FirstN l ps lo hi n r:=by
 have h0':∀j q,j<n->lo<=q->q<mid->stJ l ps q j=sH:=by
  rcases h0 with ⟨_,h⟩ | ⟨_,_,h,_⟩
  ·exact h
  ·cases h
 rcases h with ⟨rfl,h⟩ | ⟨n0,q0,rfl,a1,a2,a3,a4,a5⟩
 ·refine .inl ⟨rfl,λj q hj h1 h2=>?_⟩
  by_cases e:q<mid
  ·exact h0' j q hj h1 e
  ·exact h j q hj (by lia) h2
 ·refine .inr ⟨n0,q0,rfl,a1,by lia,a3,a4,λj q hj h1 h2=>?_⟩
  by_cases e:q<mid
  ·rw[h0' j q hj h1 e] at h2
   cases h2
  ·exact a5 j q hj (by lia) h2
def NeL(ps:List zw):Prop:=∀p ∈ ps,p.1≠[]
theorem FirstN.toEnd{l:List Nat}{ps:List zw}{lo hi n:Nat}{r:Option (Nat × Nat)}(hN:NeL ps)(h:FirstN l ps lo hi n r)(hl:r=sF->l.length<=hi):FirstN l ps lo l.length n r:=by
 have hlt:∀j q,stJ l ps q j=sG->q<l.length:=λj q hb=>by
  obtain⟨_,p,hp,hs⟩:=wC hb
  exact qR (hN p (ae hp)) hs
 rcases h with ⟨rfl,h⟩ | ⟨n0,q0,rfl,a1,a2,a3,a4,a5⟩
 ·exact .inl ⟨rfl,λj q hj h1 h2=>h j q hj h1 (by have:=hl rfl;lia)⟩
 ·exact .inr ⟨n0,q0,rfl,a1,a2,hlt _ _ a4,a4,a5⟩
noncomputable def zF(l:List Nat)(ps:List zw):Option (Nat × Nat):=(xI l ps l.length).head?
theorem YJ{l:List Nat}{ps:List zw}{r:Option (Nat × Nat)}(h:FirstN l ps 0 l.length ps.length r):r=zF l ps:=Wb h
theorem YG(l:List Nat)(ps:List zw)(hN:NeL ps):FirstN l ps 0 l.length ps.length (zF l ps):=by
 have hs:=wD l ps l.length
 unfold zF
 cases e:xI l ps l.length with
 | nil =>
  refine .inl ⟨rfl,λj q _ _ hq=>?_⟩
  cases hb:stJ l ps q j with
  | false=>rfl
  | true =>
   have:(j,q) ∈ xI l ps l.length:=usesK_mem.mpr ⟨hq,hb⟩
   rw[e] at this
   cases this
 | cons u us =>
  rw[e] at hs
  have hu:u ∈ xI l ps l.length:=by rw[e];exact aD
  obtain⟨h1,h2⟩:=usesK_mem.mp hu
  refine .inr ⟨u.1,u.2,rfl,(wC h2).1,aJ _,h1,h2,λj q hj _ hb=>?_⟩
  have hq:q<l.length:=by
   obtain⟨_,p,hp,hs⟩:=wC hb
   exact qR (hN p (ae hp)) hs
  have:(j,q) ∈ xI l ps l.length:=usesK_mem.mpr ⟨hq,hb⟩
  rw[e] at this
  rcases List.mem_cons.mp this with e2 | e2
  ·rw[<- e2]
   exact .inr ⟨rfl,aq _⟩
  ·rcases (List.pairwise_cons.mp hs).1 _ e2 with h | ⟨h,h'⟩
   ·exact .inl h
   ·exact .inr ⟨h,dg h'⟩
noncomputable def Xj(ps:List zw)(n:Nat):zw:=ps.getD n ([],[])
theorem xG{ps:List zw}{n:Nat}{p:zw}(h:ps[n]? = sE p):Xj ps n=p:=by
 unfold Xj
 rw[ac,h]
 rfl
noncomputable def Z1(l:List Nat)(ps:List zw)(u:Nat × Nat):List Nat:=yV l (u.2:Int) (Xj ps u.1).1 (Xj ps u.1).2
noncomputable def YU(ps:List zw)(l:List Nat):List Nat:=((zF l ps).map (Z1 l ps)).getD l
noncomputable def wAt(ps:List zw)(l:List Nat):Nat->List Nat
 | 0=>l
 | j+1=>YU ps (wAt ps l j)
noncomputable def sAt(ps:List zw)(l:List Nat)(j:Nat):List (Nat × Nat):=(aX j).map λi=>(zF (wAt ps l i) ps).getD (0,0)
theorem Xt(ps:List zw)(l:List Nat)(j:Nat):sAt ps l (j+1)=sAt ps l j ++ [(zF (wAt ps l j) ps).getD (0,0)]:=by
 unfold sAt
 rw[cL,aE]
 rfl
theorem Yj(ps:List zw)(l:List Nat)(j:Nat):(sAt ps l j).length=j:=by
 unfold sAt
 rw[af,dq]
theorem we{ps:List zw}{l:List Nat}{j:Nat}{u:Nat × Nat}(h:zF (wAt ps l j) ps=sE u):wAt ps l (j+1)=Z1 (wAt ps l j) ps u:=by
 show YU ps (wAt ps l j)=_
 unfold YU
 rw[h]
 rfl
def XV(ps:List zw)(l:List Nat)(j:Nat):Prop:=∀i,i<j->zF (wAt ps l i) ps≠sF
theorem Qs{ps:List zw}{l:List Nat}{i j:Nat}(h1:XV ps l i)(h2:zF (wAt ps l i) ps=sF)(h3:XV ps l j)(h4:zF (wAt ps l j) ps=sF):i=j:=by
 rcases d4 i j with h | h | h
 ·exact absurd h2 (h3 i h)
 ·exact h
 ·exact absurd h4 (h1 j h)
theorem X7{l:List Nat}{ps:List zw}{n q M lo:Nat}(h:FirstN l ps 0 l.length ps.length (sE (n,q)))(hN:NeL ps)(hM:∀p ∈ ps,p.1.length<=M)(hlo:lo=0\/lo+M<=q+1):FirstN (Z1 l ps (n,q)) ps 0 lo ps.length sF:=by
 refine .inl ⟨rfl,λj x hj _ hx=>?_⟩
 rcases h with ⟨h,_⟩ | ⟨n0,q0,e,a1,a2,a3,a4,a5⟩
 ·cases h
 ·injection e with e
  injection e with e1 e2
  subst e1 e2
  cases hb:stJ (Z1 l ps (n,q)) ps x j with
  | false=>rfl
  | true =>
   obtain⟨_,p,hp,hs⟩:=wC hb
   have hpm:=hM p (ae hp)
   have hpn:=List.length_pos_iff.mpr (hN p (ae hp))
   have hxq:x+p.1.length<=q:=by lia
   obtain⟨s0,s1,s2⟩:=of_decide_eq_true hs
   rw[aO] at s2
   obtain⟨_,p2,hp2,hs2⟩:=wC a4
   obtain⟨t0,t1,t2⟩:=of_decide_eq_true hs2
   have e4:(Z1 l ps (n,q)).take q=l.take q:=by
    unfold Z1 yV
    rw[aO,ax,aT (by rw[aK];lia),eW,fj]
   have e5:∀z:List Nat,((z.take q).drop x).take p.1.length=(z.drop x).take p.1.length:=λz=>by
    rw[List.drop_take,eW]
    congr 1
    lia
   have s3:(l.drop x).take p.1.length=p.1:=by rw[<- e5,<- e4,e5,s2]
   have:stJ l ps x j=sG:=by
    rw[jB hp]
    exact decide_eq_true ⟨by lia,by lia,by rw[aO];exact s3⟩
   have:=a5 j x hj (aJ _) this
   lia
theorem FirstN.lower{l:List Nat}{ps:List zw}{lo hi n:Nat}(h:FirstN l ps 0 hi n sF)(hl:lo<=hi):FirstN l ps 0 lo n sF:=by
 rcases h with ⟨_,h⟩ | ⟨_,_,h,_⟩
 ·exact .inl ⟨rfl,λj q hj h1 h2=>h j q hj h1 (by lia)⟩
 ·cases h
theorem UD{l:List Nat}{ps:List zw}{n q m:Nat}(h:FirstN l ps 0 l.length ps.length (sE (n,q)))(hm:∀p ∈ ps,p.2.length<=m):(Z1 l ps (n,q)).length<=l.length+m:=by
 rcases h with ⟨h,_⟩ | ⟨n0,q0,e,a1,a2,a3,a4,a5⟩
 ·cases h
 ·injection e with e
  injection e with e1 e2
  subst e1 e2
  obtain⟨_,p,hp,hs⟩:=wC a4
  have:=hm p (ae hp)
  have er:=xG hp
  unfold Z1 yV
  simp only[am,aK,ba,er]
  lia
theorem qh{ps:List zw}{l:List Nat}{m:Nat}(hN:NeL ps)(hm:∀p ∈ ps,p.2.length<=m):∀j,(wAt ps l j).length<=l.length+j * m
 | 0=>by simp [wAt]
 | j+1=>by
  have ih:=qh (l:=l) hN hm j
  have hf:=YG (wAt ps l j) ps hN
  rw[d8]
  cases e:zF (wAt ps l j) ps with
  | none =>
   show (YU ps (wAt ps l j)).length<=_
   unfold YU
   rw[e]
   show (wAt ps l j).length<=_
   lia
  | some u =>
   rw[we e]
   rw[e] at hf
   obtain⟨a,b⟩:=u
   have:=UD hf hm
   lia
def UseAt(H:Hp)(r:Option (Nat × Nat))(v:V):Prop:=(r=sF/\v=.non)\/∃(n q:Nat) (p:oP),r=sE (n,q)/\v=.ref p/\H p=sE (.tup [.int (n:Nat),.int (q:Nat)])
theorem UseAt.same{H H':Hp}{r:Option (Nat × Nat)}{v:V}(h:UseAt H r v)(s:Same H H'):UseAt H' r v:=by
 rcases h with h | ⟨n,q,p,h1,h2,h3⟩
 ·exact .inl h
 ·exact .inr ⟨n,q,p,h1,h2,s _ _ h3⟩
theorem Wi{l p:List Nat}{lo hi:Int}{H:Hp}{Q:VK}(h0:0<=lo)(h1:0<=hi)(h:∀r:Int,((r=-1/\∀q:Nat,lo<=q->(q:Int)+p.length<=hi->zu l q p=sH)\/∃k:Nat,r=k/\lo<=k/\(k:Int)+p.length<=hi/\zu l k p=sG/\∀q:Nat,lo<=q->q<k->zu l q p=sH)->Q (.int r) H):QL (.str (tx l)) [.str (tx p),.int lo,.int hi] H Q:=by
 refine⟨l,p,lo,hi,rfl,rfl,h0,h1,λr hr=>h r ?_⟩
 have no:∀q:Nat,((l.drop q).take p.length≠p\/¬ q+p.length<=l.length)->zu l q p=sH:=λq hq=>decide_eq_false λ⟨_,b,c⟩=>by
  rcases hq with hq | hq
  ·exact hq c
  ·lia
 rcases hr with ⟨rfl,hn⟩ | ⟨k,rfl,k1,k2,k3,k4,hn⟩
 ·refine .inl ⟨rfl,λq q1 q2=>no q ?_⟩
  by_cases e:q+p.length<=l.length
  ·exact .inl (hn q q1 q2 e)
  ·exact .inr e
 ·exact .inr ⟨k,rfl,k1,k2,decide_eq_true ⟨by lia,by lia,k4⟩,λq q1 q2=>no q (.inl (hn q q1 q2))⟩
def va(K:oO):Sp:=λvs H Q _=>∃(a:oP) (l:List Nat) (ps:List zw) (st en:Nat),vs=[.ref a,.str (tx l),.int (st:Nat),.int (en:Nat)]/\LsA K H a (ps.map dR)/\NeL ps/\(∀p ∈ ps,p.1.length<=1000)/\∀(r:Option (Nat × Nat)) (v:V) (H':Hp),Same H H'->UseAt H' r v->FirstN l ps st en ps.length r->Q v H'
theorem YB{a:oP}{l:List Nat}{ps:List zw}{st en:Nat}{s e:Int}{H:Hp}{Q:VK}{E:XK}(hs:s=(st:Nat))(he:e=(en:Nat))(hA:LsA K H a (ps.map dR))(hN:NeL ps)(hP:∀p ∈ ps,p.1.length<=1000)(q:∀(r:Option (Nat × Nat)) (v:V) (H':Hp),Same H H'->UseAt H' r v->FirstN l ps st en ps.length r->Q v H'):va K [.ref a,.str (tx l),.int s,.int e] H Q E:=by
 subst hs he
 exact⟨a,l,ps,st,en,rfl,hA,hN,hP,q⟩
theorem fR:zr ["rules","word","start","end","found","number","rule","place"] ["rules","word","start","end"] (zb yu):=⟨rfl,rfl,rfl,by decide +kernel,rfl,by decide +kernel,by decide +kernel⟩
theorem qp{f:oP}{fd:oU}(B:Bt mg)(F:Fun K "first_within" "first_within" yu f fd) : yg P w K mg base CX0 1 f fd ["rules","word","start","end"] (va K):=by
 refine F.ok fR (λvs H Q E h=>?_) (λcdv A outer s H vs Q E hr h=>?_)
 ·obtain⟨a,l,ps,st,en,rfl,_⟩:=h
  rfl
 ·obtain⟨a,l,ps,st,en,rfl,hA,hN,hP,q⟩:=h
  refine⟨_,(zi (zq (i:=4) fR.nd rfl (Or.inl rfl) wK)
   (zi (yA PassesOwn.never rfl (wd rfl B.enum (za (pv 0) zc)) (uA (n:=2) rfl (yd (zB (i:=5) fR.nd rfl (Or.inl rfl)) (yd (zB (i:=6) fR.nd rfl (Or.inl rfl)) wy)))
    (zO (zq (i:=7) fR.nd rfl (Or.inl rfl) (vt bq cS cT KW (pv 1) (za (zx ix_tup (pv 6) zg (λ_ _=>rfl)) (za (pv 2) (za (zE op_add (zE uF (pv 3) zg) (zt yc rfl B.len aA (za (zx ix_tup (pv 6) zg (λ_ _=>rfl)) zc))) zc)))))
    (zh (zW (zI op_ge' (pv 7) zg (zL _))
     (zO (zq (i:=4) fR.nd rfl (Or.inl rfl) (yh (za (pv 5) (za (pv 7) zc))))
     (zh (zq (i:=3) fR.nd rfl (Or.inl rfl) (pv 7))))
     zC))))
   (zh (zv (pv 4))))),?_⟩
  have s16:=yk
  obtain⟨xs,hX,hI⟩:=id hA
  have hxl:=hI.len
  rw[af] at hxl
  have s16:=yk
  refine zj (λσ H'=>H'=H/\σ=[sE (.ref a),sE (.str (tx l)),sE (.int (st:Nat)),sE (.int (en:Nat)),sE (.non),sF,sF,sF]) ?_ ?_
  ·rfl'
  rintro σ H1 ⟨rfl,rfl⟩
  refine zj (λσ H'=>Same H1 H'/\∃(r:Option (Nat × Nat)) (v:V) (v3 v5 v6 v7:Option V),UseAt H' r v/\FirstN l ps st en ps.length r/\σ=[sE (.ref a),sE (.str (tx l)),sE (.int (st:Nat)),v3,sE (v),v5,v6,v7]) ?_ ?_
  ·rfl'
   refine⟨⟨_,SqL.of hX⟩,ForEL.by (xs:=xs) (λi σ H'=>Same H1 H'/\∃(r:Option (Nat × Nat)) (v:V) (v5 v6 v7:Option V),UseAt H' r v/\FirstN l ps st en i r/\σ=[sE (.ref a),sE (.str (tx l)),sE (.int (st:Nat)),sE (.int (((r.map Prod.snd).getD en:Nat):Int)),sE (v),v5,v6,v7]) ⟨Same.refl _,sF,.non,sF,sF,sF,.inl ⟨rfl,rfl⟩,.inl ⟨rfl,λj q h=>absurd h (cz j)⟩,rfl⟩ (λi σ H' _ h=>SqL.of (h.1 _ _ hX)) ?_ ?_⟩
   ·rintro i y σ H' p hy ⟨hs,r,v,v5,v6,v7,hu,hF,rfl⟩ hpn
    obtain⟨rl,pr,hri,rfl,hqr⟩:=hI.getR hy
    have hm:=ae hri
    have hne:=List.length_pos_iff.mpr (hN rl hm)
    have hrl:=hP rl hm
    have s2:=hs.trans (zf (o:=.tup [.int (i:Nat),.ref pr]) hpn)
    have hq2:=zm s2 hqr
    have hu2:=hu.same (zf (o:=.tup [.int (i:Nat),.ref pr]) hpn)
    rfl'
    refine⟨_,SqT.of ze,rfl,_,_,rfl,_,_,rfl,rfl,_,rfl,_,hq2,_,rfl,_,rfl,_,hq2,_,rfl,_,⟨by rw[zR];lia,rfl⟩,Wi (by lia) (by rw[zR];lia) λz hz=>⟨z,rfl,?_⟩⟩
    rw[zR] at hz
    rcases hz with ⟨rfl,hn⟩ | ⟨k,rfl,k1,k2,k3,hn⟩
    ·rw[if_neg (by decide)]
     exact⟨s2,r,v,hu2,hF.keep hri λq q1 q2=>hn q (by lia) (by lia),rfl,rfl⟩
    ·rw[if_pos (by lia)]
     refine⟨by lia,λp2 hp2=>⟨s2.trans (zf hp2),sE (i,k),.ref p2,.inr ⟨i,k,p2,rfl,rfl,ze⟩,hF.take hri (by lia) (by lia) k3 λq q1 q2=>hn q (by lia) q2,rfl,rfl⟩⟩
   ·rintro σ H' ⟨hs,r,v,v5,v6,v7,hu,hF,rfl⟩
    rw[hxl] at hF
    exact⟨hs,r,v,hu,hF,_,_,_,_,rfl⟩
  rintro σ H2 ⟨s2,r,v,v3,v5,v6,v7,hu,hF,rfl⟩
  rfl'
  exact q r v H2 s2 hu hF
structure zcF(mg:oW->Option oQ):Prop where
 g:∃t,mg "WINDOW" = sE (.int 128 t)
def uP(K:oO):Sp:=λvs H Q _=>∃(a:oP) (l:List Nat) (ps:List zw) (st:Nat),vs=[.ref a,.str (tx l),.int (st:Nat)]/\LsA K H a (ps.map dR)/\NeL ps/\(∀p ∈ ps,p.1.length<=1000)/\l.length<=100000/\∀(r:Option (Nat × Nat)) (v:V) (H':Hp),Same H H'->UseAt H' r v->FirstN l ps st l.length ps.length r->Q v H'
theorem Zg{a:oP}{l:List Nat}{ps:List zw}{st:Nat}{s:Int}{H:Hp}{Q:VK}{E:XK}(hs:s=(st:Nat))(hA:LsA K H a (ps.map dR))(hN:NeL ps)(hP:∀p ∈ ps,p.1.length<=1000)(hl:l.length<=100000)(q:∀(r:Option (Nat × Nat)) (v:V) (H':Hp),Same H H'->UseAt H' r v->FirstN l ps st l.length ps.length r->Q v H'):uP K [.ref a,.str (tx l),.int s] H Q E:=by
 subst hs
 exact⟨a,l,ps,st,rfl,hA,hN,hP,hl,q⟩
theorem gC:zr ["rules","word","start","size","found"] ["rules","word","start"] (zb yM):=⟨rfl,rfl,rfl,by decide +kernel,rfl,by decide +kernel,by decide +kernel⟩
theorem kM{f:oP}{fd:oU}(B:Bt mg)(T:zcF mg)(F:Fun K "first_from" "first_from" yM f fd)(nw:Df P w K mg base CX0 1 "first_within" ["rules","word","start","end"] [] (va K)):yg P w K mg base CX0 2 f fd ["rules","word","start"] (uP K):=by
 obtain⟨t8,g8⟩:=T.g
 refine F.ok gC (λvs H Q E h=>?_) (λcdv A outer s H vs Q E hr h=>?_)
 ·obtain⟨a,l,ps,st,rfl,_⟩:=h
  rfl
 ·obtain⟨a,l,ps,st,rfl,hA,hN,hP,hl,q⟩:=h
  refine⟨_,(zi (zq (i:=3) gC.nd rfl (Or.inl rfl) (xg (v:=.int 128) rfl g8 ⟨t8,rfl⟩))
   (zi (kO PassesOwn.never (zI za8 (pv 2) (zt yc rfl B.len aA (za (pv 1) zc)) (zL _))
    (zO (zq (i:=4) gC.nd rfl (Or.inl rfl) (cl0 nw hr .nil rfl (za (pv 0) (za (pv 1) (za (pv 2) (za (zE op_add (pv 2) (pv 3)) zc))))))
    (zO (zW (zI op_notN' (pv 4) wK (zL _))
     (zh (zv (pv 4)))
     zC)
    (zO (zq (i:=2) gC.nd rfl (Or.inl rfl) (zE op_add (pv 2) (pv 3)))
    (zh (zq (i:=3) gC.nd rfl (Or.inl rfl) (zE op_mul (pv 3) zg)))))))
   (zh (zv wK)))),?_⟩
  have s16:=yk
  have s16:=yk
  refine zj (λσ H'=>H'=H/\σ=[sE (.ref a),sE (.str (tx l)),sE (.int (st:Nat)),sE (.int 128),sF]) ?_ ?_
  ·rfl'
  rintro σ H1 ⟨rfl,rfl⟩
  refine zj (λσ H'=>Same H1 H'/\FirstN l ps st l.length ps.length sF) ?_ ?_
  ·unfold Xo
   refine⟨λm σ H'=>∃(s z:Nat) (v4:Option V),m=l.length - s/\st<=s/\1<=z/\Same H1 H'/\FirstN l ps st s ps.length sF/\σ=[sE (.ref a),sE (.str (tx l)),sE (.int (s:Nat)),sE (.int (z:Nat)),v4],⟨_,st,128,sF,rfl,aq _,by decide,Same.refl _,.inl ⟨rfl,λj q _ h1 h2=>by lia⟩,rfl⟩,?_⟩
   rintro m σ H' ⟨s,z,v4,rfl,hs,hz,sm,hF,rfl⟩
   rfl'
   refine⟨by lia,xp (λhlt=>?_) λhge=>⟨sm,hF.toEnd hN λ_=>by lia⟩⟩
   refine⟨λσ' H''=>∃v4:Option V,Same H1 H''/\FirstN l ps st (s+z) ps.length sF/\σ'=[sE (.ref a),sE (.str (tx l)),sE (.int ((s+z:Nat):Int)),sE (.int ((z * 2:Nat):Int)),v4],λσ' H'' ⟨v4,a1,a2,a3⟩=>⟨l.length - (s+z),by lia,s+z,rfl,by lia,z * 2,by lia,a1,a2,v4,a3⟩,?_⟩
   refine YB (en:=s+z) rfl (by lia) (hA.same sm) hN hP λr v H2 s2 hu hF2=>?_
   rcases hu with ⟨rfl,rfl⟩ | ⟨n,qq,p,rfl,rfl,hp⟩
   ·rw[if_neg (λh=>h rfl)]
    exact⟨.inr ⟨by decide,by decide⟩,sE .non,sm.trans s2,hF.window hs hF2,by push_cast;rfl⟩
   ·rw[if_pos (by intro h;cases h)]
    exact q _ _ H2 (sm.trans s2) (.inr ⟨n,qq,p,rfl,rfl,hp⟩) ((hF.window hs hF2).toEnd hN (λe=>by cases e))
  rintro σ H2 ⟨s2,hF⟩
  rfl'
  exact q sF .non H2 s2 (.inl ⟨rfl,rfl⟩) hF
theorem LsA.pushT{H:Hp}{D p:oP}{ds es:List L3.D}{xs vs:List V}(h1:H D=sE (.lst xs))(h2:Iss K H ds xs)(hp:H p=sF)(hv:Iss K H es vs)(f:zZ ds)(fe:zZ es):LsA K (upd (upd H p (.tup vs)) D (.lst (xs ++ [.ref p]))) D (ds ++ [.tup es]):=by
 have e:(upd H p (.tup vs)) D=sE (.lst xs):=zf hp _ _ h1
 exact LsA.snoc e (Iss.same (zf hp) _ _ h2) f (by simp only[xv];exact fe) (Is.tup hp hv)
structure K4(K:oO)(mg:oW->Option oQ)(C:oP):Prop where
 xi:XI K C
 ini:ah K (.ref C) "__init__" = sE (sE (.builtin "ValueError.__init__"))
 g:mg "TooFar" = sE (.ref C)
noncomputable def dG(u:Nat × Nat):L3.D:=.tup [.int (u.1:Nat),.int (u.2:Nat),.bl sG]
theorem Jx(u:Nat × Nat):xv (dG u):=by simp only[dG,xv,zZ,and_self]
theorem Ut(us:List (Nat × Nat)):zZ (us.map dG):=wF λd h=>by obtain⟨r,_,rfl⟩:=List.mem_map.mp h;exact Jx r
theorem zb0{H:Hp}{n q:Nat}:Iss K H [.int (n:Nat),.int (q:Nat),.bl sG] [.int (n:Nat),.int (q:Nat),.bl sG]:=by
 simp only[Iss,Is]
 exact⟨_,_,rfl,rfl,_,_,rfl,rfl,_,_,rfl,rfl,rfl⟩
structure Rd(ps:List zw)(l:List Nat)(J:Nat):Prop where
 live:XV ps l J
 len:∀j,j<=J->(wAt ps l j).length<=10000
 most:J<=10000
def wS(K:oO)(CF:oP):Sp:=λvs H Q E=>∃(a:oP) (l:List Nat) (ps:List zw) (m:Int) (J:Nat),vs=[.ref a,.str (tx l),.int m]/\LsA K H a (ps.map dR)/\NeL ps/\ps.length<=100/\(∀p ∈ ps,p.1.length<=1000/\p.2.length<=1000)/\Rd ps l J /\
 ((zF (wAt ps l J) ps=sF/\(J:Int)<=m/\∀(p S:oP) (H':Hp),Same H H'->H' p=sE (.tup [.ref S,.str (tx (wAt ps l J))])->LsA K H' S ((sAt ps l J).map dG)->H S=sF->Q (.ref p) H') \/
  (zF (wAt ps l J) ps≠sF/\(J:Int)=m/\∀H',Same H H'->E (.ref CF) sF H'))
theorem Vv{a:oP}{ps:List zw}{σ:L2.St}{H:Hp}{Q:VK}{D:oP}(hA:LsA K H a (ps.map dR))(hP:∀p ∈ ps,p.1.length<=1000)(hpl:ps.length<=100)(hD:H D=sF)(q:∀H',Same H H'->H' D=sE (.lst ((ps.map λp=>(p.1.length:Int)).map V.int))->Q (.ref D) H') :
  CompL K a (xu 0) wx (tCB (KR K) (zN (tOp (qI K) (yS 0) (tC (.int 0))) ww)) 1 [] σ H Q D:=by
 have s16:=yk
 obtain⟨xs,hX,hI⟩:=hA
 have hxl:=hI.len
 rw[af] at hxl
 refine CompL.by (xs:=xs) (λi sK H'=>Same H H'/\H' D=sE (.lst sK)/\sK=((ps.take i).map λp=>(p.1.length:Int)).map V.int) ⟨zf hD,ze,rfl⟩ (λi sK H' _ h=>SqL.of (h.1 _ _ hX)) ?_ ?_
 ·rintro i x sK H' hx ⟨hs,hH,rfl⟩
  have hil:=(List.getElem?_eq_some_iff.mp hx).1
  obtain⟨r,pr,hri,rfl,hqr⟩:=hI.getR hx
  have hm:=hP r (ae hri)
  simp only[wx]
  rfl'
  refine⟨xl,_,zm hs hqr,_,rfl,_,⟨by rw[zR];lia,rfl⟩,hH,by rw[af,af,aK];lia,CNx.mk hil ⟨zG hs hD,ze,?_⟩⟩
  rw[zU hri,aE,aE,zR]
  rfl
 ·rintro sK H' ⟨hs,hH,rfl⟩
  rw[hxl,aQ] at hH
  exact q H' hs hH
theorem zcc{H:Hp}{rs:List zw}{xs:List V}{i:Nat}{r:zw}(hI:Iss K H (rs.map dR) xs)(hi:rs[i]? = sE r):∃p,atI xs (i:Int)=sE (.ref p)/\SqT K H p [.str (tx r.1),.str (tx r.2)]:=by
 have hl:=hI.len
 rw[af] at hl
 have hil:=(List.getElem?_eq_some_iff.mp hi).1
 obtain⟨v,a1,b1⟩:=qY (xs:=xs) (i:=(i:Int)) (by lia) (by lia)
 obtain⟨r',p,h1,rfl,h3⟩:=hI.getR (j:=i) b1
 rw[hi] at h1
 cases h1
 exact⟨p,a1,h3⟩
theorem iq:zr ["rules","word","most","longest","steps","use","number","place"] ["rules","word","most"] (zb ve):=⟨rfl,rfl,rfl,by decide +kernel,rfl,by decide +kernel,by decide +kernel⟩
theorem KS{f CU CF:oP}{fd:oU}{dV:oQ}(B:Bt mg)(T:K4 K mg CF)(TU:DNU P w K mg base CU)(F:FunD K "gone" "gone" ve dV f fd)(mm:Df P w K mg base CX0 2 "first_from" ["rules","word","start"] [] (uP K))(nI:Df P w K mg base (CXx P w) 3 "put" ["word","place","old","new"] [] (ZF CU)):yg P w K mg base (CXx P w) 4 f fd ["rules","word","most"] (wS K CF):=by
 refine FunD.okX F iq (λvs H Q E h=>?_) (λcdv A outer s H vs Q E hr hx h=>?_)
 ·obtain⟨a,l,ps,m,J,rfl,_⟩:=h
  rfl
 ·obtain⟨a,l,ps,m,J,rfl,hA,hN,hpl,hP,hR,hq⟩:=h
  refine⟨_,(zi (zq (i:=3) iq.nd rfl (Or.inl rfl) (WE (za9 rfl) rfl B.max uU (za (xh (own:=["rule"]) (caps:=[]) (ix:=[]) (tt:=wx) (te:=(tCB (KR K) (zN (tOp (qI K) (yS 0) (tC (.int 0))) ww))) rfl (zP (sc:=zb ve) rfl (by decide +kernel) (by decide +kernel) (by decide +kernel) rfl (by decide +kernel) (by decide +kernel) rfl) (yF (pv 0)) (λ_ _ _ _ _ _=>zB (i:=0) (show List.Nodup [_] by decide) rfl (Or.inl rfl)) (λ_ _ _ _ _ _=>yE) (λ_ _ _ _ _ _=>(zt yc rfl B.len aA (za (zx ix_tup (pv 0) zg (λ_ _=>rfl)) zc)))) zc) (V1 zg Q0)))
   (zi (zq (i:=4) iq.nd rfl (Or.inl rfl) (vg zc))
   (zi (zq (i:=5) iq.nd rfl (Or.inl rfl) (cl0 mm hr .nil rfl (za (pv 0) (za (pv 1) (za zg zc)))))
   (zi (kO PassesOwn.leaving (zI op_notN' (pv 5) wK (zL _))
    (zi (zW (zI op_ge' (zt yc rfl B.len aA (za (pv 4) zc)) (pv 2) (zL _))
     (zh (yX hx rfl T.xi.toXC T.ini rfl T.g (za xB zc)))
     zC)
    (zi (zq (i:=6) iq.nd rfl (Or.inl rfl) (zx ix_tup (pv 5) zg (λ_ _=>rfl)))
    (zi (zq (i:=7) iq.nd rfl (Or.inl rfl) (zx ix_tup (pv 5) zg (λ_ _=>rfl)))
    (zi (zq (i:=1) iq.nd rfl (Or.inl rfl) (clP hx nI hr .nil rfl (za (pv 1) (za (pv 7) (za (zx ix_tup (zx ix_list (pv 0) (pv 6) (λ_ _=>rfl)) zg (λ_ _=>rfl)) (za (zx ix_tup (zx ix_list (pv 0) (pv 6) (λ_ _=>rfl)) zg (λ_ _=>rfl)) zc))))))
    (zi (wz (vt bO cf ci xH (pv 4) (za (yh (za (pv 6) (za (pv 7) (za yG zc)))) zc)))
    (zh (zq (i:=5) iq.nd rfl (Or.inl rfl) (cl0 mm hr .nil rfl (za (pv 0) (za (pv 1) (za (zt (Wl rfl) rfl B.max uU (za zg (za (zE op_add (zE uF (pv 7) (pv 3)) zg) zc))) zc))))))))))))
   (zh (zv (yh (za (pv 4) (za (pv 1) zc))))))))),?_⟩
  have s16:=yk
  have s16:=yk
  refine zj (λσ H'=>Same H H'/\∃M:Int,(∀p ∈ ps,(p.1.length:Int)<=M)/\σ=[sE (.ref a),sE (.str (tx l)),sE (.int m),sE (.int M),sF,sF,sF,sF]) ?_ ?_
  ·rfl'
   simp only[zcU]
   rfl'
   obtain⟨xs,hX,hI⟩:=id hA
   exact⟨⟨_,SqL.of hX⟩,λD hD=>Vv hA (λp hp=>(hP p hp).1) hpl hD λH' s' hH=>⟨D,_,0,rfl,rfl,SqL.of hH,λz _ hz=>⟨s',z,λp hp=>hz _ (List.mem_map.mpr ⟨p,hp,rfl⟩),rfl⟩⟩⟩
  rintro σ H1 ⟨s1,M,hM,rfl⟩
  refine zj (λσ H'=>Same H H'/\∃S:oP,H S=sF/\H' S=sE (.lst [])/\σ=[sE (.ref a),sE (.str (tx l)),sE (.int m),sE (.int M),sE (.ref S),sF,sF,sF]) ?_ ?_
  ·rfl'
   exact⟨by lia,λp hp=>⟨s1.trans (zf hp),p,s1.free hp,ze,rfl⟩⟩
  rintro σ H2 ⟨s2,S,hSn,hS,rfl⟩
  refine zj (λσ H'=>Same H H'/\H' S=sE (.lst [])/\∃uv:V,UseAt H' (zF l ps) uv/\σ=[sE (.ref a),sE (.str (tx l)),sE (.int m),sE (.int M),sE (.ref S),sE (uv),sF,sF]) ?_ ?_
  ·rfl'
   exact Zg (st:=0) rfl (hA.same s2) hN (λp hp=>(hP p hp).1) (by have:=hR.len 0 (aJ _);exact aR this (by decide)) λr v H' s' hu hF=>⟨s2.trans s',s' _ _ hS,(by rw[YJ hF] at hu;exact hu)⟩
  rintro σ H3 ⟨s3,hS3,uv,hu,rfl⟩
  refine zj (λσ H'=>Same H H'/\zF (wAt ps l J) ps=sF/\LsA K H' S ((sAt ps l J).map dG)/\∃v5 v6 v7,σ=[sE (.ref a),sE (.str (tx (wAt ps l J))),sE (.int m),sE (.int M),sE (.ref S),v5,v6,v7]) ?_ ?_
  ·unfold Xo
   refine⟨λk σ H'=>∃(j:Nat) (uv:V) (v6 v7:Option V),k=J - j/\j<=J/\Same H H'/\LsA K H' S ((sAt ps l j).map dG)/\UseAt H' (zF (wAt ps l j) ps) uv/\σ=[sE (.ref a),sE (.str (tx (wAt ps l j))),sE (.int m),sE (.int M),sE (.ref S),sE (uv),v6,v7],⟨_,0,uv,sF,sF,rfl,aJ _,s3,⟨[],hS3,by simp only[sAt,List.range_zero,aP,Iss]⟩,hu,rfl⟩,?_⟩
   rintro k σ H' ⟨j,uv,v6,v7,rfl,hj,hs,hL,hu,rfl⟩
   have hlj:=hR.len j hj
   have hRm:=hR.most
   obtain⟨xs,hX,hI⟩:=id hA
   rfl'
   refine xp (λhne=>?_) λhne=>?_
   ·rcases hu with ⟨_,h⟩ | ⟨n,q0,p,hf,rfl,hp⟩
    ·exact absurd h hne
    have hF:=YG (wAt ps l j) ps hN
    rw[hf] at hF
    have hjJ:j<J\/(j=J/\(J:Int)=m/\∀H',Same H H'->E (.ref CF) sF H'):=by
     by_cases e:j=J
     ·subst e
      rcases hq with ⟨h,_⟩ | ⟨_,h1,h2⟩
      ·rw[hf] at h
       cases h
      ·exact .inr ⟨rfl,h1,h2⟩
     ·exact .inl (by lia)
    have hJm:(J:Int)<=m:=by
     rcases hq with ⟨_,h,_⟩ | ⟨_,h,_⟩ <;> lia
    obtain⟨rl,hrl,hst⟩:∃rl,ps[n]? = sE rl/\zu (wAt ps l j) (q0:Int) rl.1=sG:=by
     rcases hF with ⟨h,_⟩ | ⟨n0,q1,e,_,_,_,a4,_⟩
     ·cases h
     ·cases e
      exact (wC a4).2
    have hlp:=hP rl (ae hrl)
    have hw:=we hf
    obtain⟨pr,hai,hqr⟩:=zcc hI hrl
    refine⟨λσ' H''=>∃(uv:V) (v6 v7:Option V),j<J/\Same H H''/\LsA K H'' S ((sAt ps l (j+1)).map dG)/\UseAt H'' (zF (wAt ps l (j+1)) ps) uv/\σ'=[sE (.ref a),sE (.str (tx (wAt ps l (j+1)))),sE (.int m),sE (.int M),sE (.ref S),sE (uv),v6,v7],λσ' H'' ⟨uv,v6,v7,a0,a1,a2,a3,a4⟩=>⟨J - (j+1),by lia,j+1,rfl,by lia,a1,a2,uv,a3,v6,v7,a4⟩,?_⟩
    obtain⟨ys,hY,hJ2⟩:=id hL
    have hyl:=hJ2.len
    rw[af,Yj] at hyl
    refine zj (λσ' H''=>H''=H'/\j<J/\σ'=[sE (.ref a),sE (.str (tx (wAt ps l j))),sE (.int m),sE (.int M),sE (.ref S),sE (.ref p),v6,v7]) ?_ ?_
    ·rfl'
     refine⟨_,.inl ⟨_,SqL.of hY,rfl⟩,xp (λhge=>?_) λhge=>?_⟩
     ·rcases hjJ with h | ⟨_,_,h⟩
      ·lia
      ·exact⟨by lia,h _ hs⟩
     ·rcases hjJ with h | ⟨e,h,_⟩
      ·exact h
      ·lia
    rintro σ' G1 ⟨rfl,hlt,rfl⟩
    refine zj (λσ' H''=>H''=G1/\σ'=[sE (.ref a),sE (.str (tx (wAt ps l j))),sE (.int m),sE (.int M),sE (.ref S),sE (.ref p),sE (.int (n:Nat)),v7]) ?_ ?_
    ·rfl'
     exact⟨_,SqT.of hp,rfl⟩
    rintro σ' G2 ⟨rfl,rfl⟩
    refine zj (λσ' H''=>H''=G2/\σ'=[sE (.ref a),sE (.str (tx (wAt ps l j))),sE (.int m),sE (.int M),sE (.ref S),sE (.ref p),sE (.int (n:Nat)),sE (.int (q0:Nat))]) ?_ ?_
    ·rfl'
     exact⟨_,SqT.of hp,rfl⟩
    rintro σ' G3 ⟨rfl,rfl⟩
    refine zj (λσ' H''=>H''=G3/\σ'=[sE (.ref a),sE (.str (tx (wAt ps l (j+1)))),sE (.int m),sE (.int M),sE (.ref S),sE (.ref p),sE (.int (n:Nat)),sE (.int (q0:Nat))]) ?_ ?_
    ·rfl'
     have hq2:=zm hs hqr
     exact⟨_,SqL.of (hs _ _ hX),_,hai,_,rfl,_,hq2,_,rfl,_,SqL.of (hs _ _ hX),_,hai,_,rfl,_,hq2,_,rfl,wAt ps l j,rl.1,rl.2,(q0:Nat),rfl,hlj,by have:=hlp.1;lia,by have:=hlp.2;lia,λ_=>⟨rfl,by rw[hw];unfold Z1;rw[xG hrl]⟩,λh=>by rw[hst] at h;cases h⟩
    rintro σ' G4 ⟨rfl,rfl⟩
    refine zj (λσ' H''=>Same H H''/\LsA K H'' S ((sAt ps l (j+1)).map dG)/\σ'=[sE (.ref a),sE (.str (tx (wAt ps l (j+1)))),sE (.int m),sE (.int M),sE (.ref S),sE (.ref p),sE (.int (n:Nat)),sE (.int (q0:Nat))]) ?_ ?_
    ·rfl'
     refine⟨.inl ⟨_,SqL.of hY⟩,by lia,λt ht=>⟨_,zf ht _ _ hY,by lia,zG (hs.trans (zf ht)) hSn,?_⟩⟩
     rw[Xt,hf,aE]
     exact LsA.pushT hY hJ2 ht zb0 (Ut _) (by simp only[zZ,xv,and_self])
    rintro σ' G5 ⟨s5,hL5,rfl⟩
    have hl1:=hR.len (j+1) hlt
    have hM0:=hM rl (ae hrl)
    rfl'
    refine Zg (st:=(if (q0:Int) - M+1 > 0 then (q0:Int) - M+1 else 0).toNat) (by split <;> lia) (hA.same s5) hN (λp hp=>(hP p hp).1) (aR hl1 (by decide)) λr v H' s' hu hF2=>⟨hlt,s5.trans s',hL5.same s',?_⟩
    have hb:=X7 (M:=M.toNat) (lo:=(if (q0:Int) - M+1 > 0 then (q0:Int) - M+1 else 0).toNat) hF hN (λp hp=>by have:=hM p hp;lia) (by split <;> lia)
    rw[<- hw] at hb
    rw[YJ (hb.window (aJ _) hF2)] at hu
    exact hu
   ·have hv:uv=.non:=Decidable.not_not.mp hne
    have hf:zF (wAt ps l j) ps=sF:=by
     rcases hu with ⟨h,_⟩ | ⟨_,_,_,_,h,_⟩
     ·exact h
     ·rw[hv] at h
      cases h
    have e:j=J:=by
     rcases ee j J with h | h
     ·exact absurd hf (hR.live j h)
     ·lia
    subst e
    exact⟨hs,hf,hL,rfl⟩
  rintro σ H4 ⟨s4,hF,hL,v5,v6,v7,rfl⟩
  rfl'
  rcases hq with ⟨_,_,hq⟩ | ⟨h,_⟩
  ·exact⟨by lia,λp hp=>hq p S _ (s4.trans (zf hp)) ze (hL.same (zf hp)) hSn⟩
  ·exact absurd hF h
noncomputable abbrev Stp:=Int × Int × Bool
noncomputable def dSt(t:Stp):D:=.tup [.int t.1,.int t.2.1,.bl t.2.2]
noncomputable def sdl(r:zw)(f:Bool):zw:=if f=sG then r else (r.2,r.1)
noncomputable def yH(ps:List zw)(w:List Nat)(t:Stp):Option (List Nat) :=
 if 0<=t.1/\t.1<ps.length then (if zu w t.2.1 (sdl (ps.getD t.1.toNat ([],[])) t.2.2).1=sG then sE (yV w t.2.1 (sdl (ps.getD t.1.toNat ([],[])) t.2.2).1 (sdl (ps.getD t.1.toNat ([],[])) t.2.2).2) else sF) else sF
theorem U6{H:Hp}{D p:oP}{ds es:List L3.D}{xs vs:List V}(h1:H D=sE (.lst xs))(h2:Iss K H ds xs)(hp:H p=sF)(hv:Iss K H es vs)(f:zZ ds)(fe:zZ es):LsA K (upd (upd H p (.tup vs)) D (.lst (xs ++ [.ref p]))) D (ds ++ [.tup es]):=by
 have e:(upd H p (.tup vs)) D=sE (.lst xs):=zf hp _ _ h1
 exact LsA.snoc e (Iss.same (zf hp) _ _ h2) f (by simp only[xv];exact fe) (Is.tup hp hv)
theorem J0{H:Hp}{l m:List Nat}:Iss K H [dS l,dS m] [.str (tx l),.str (tx m)]:=by
 simp only[Iss,Is]
 exact⟨_,_,rfl,rfl,_,_,rfl,rfl,rfl⟩
def jz(rs:List zw):Prop:=rs.length<=30/\∀r ∈ rs,r.1.length<=100/\r.2.length<=100
theorem QW{H:Hp}{t:Stp}{v:V}(h:Is K H (dSt t) v):∃p,v=.ref p/\SqT K H p [.int t.1,.int t.2.1,.bl t.2.2]:=by
 simp only[dSt,Is,Iss] at h
 obtain⟨a,xs,e,hs,v1,r1,rfl,rfl,v2,r2,rfl,rfl,v3,r3,rfl,rfl,rfl⟩:=h
 exact⟨a,e,hs⟩
theorem kT{H:Hp}{p:oP}{t:Stp}(h:SqT K H p [.int t.1,.int t.2.1,.bl t.2.2]):Is K H (dSt t) (.ref p):=by
 simp only[dSt,Is,Iss]
 exact⟨p,_,rfl,h,_,_,rfl,rfl,_,_,rfl,rfl,_,_,rfl,rfl,rfl⟩
theorem Jb{H:Hp}{i j:Int}{b:Bool}:Iss K H [.int i,.int j,.bl b] [.int i,.int j,.bl b]:=by
 simp only[Iss,Is]
 exact⟨_,_,rfl,rfl,_,_,rfl,rfl,_,_,rfl,rfl,rfl⟩
theorem wE(rs:List Stp):zZ (rs.map dSt):=wF λd h=>by obtain⟨r,_,rfl⟩:=List.mem_map.mp h;simp only[dSt,xv,zZ,and_self]
theorem vL{H:Hp}{rs:List Stp}{vs:List V}{j:Nat}{v:V}(h:Iss K H (rs.map dSt) vs)(q:vs[j]? = sE v):∃r p,rs[j]? = sE r/\v=.ref p/\SqT K H p [.int r.1,.int r.2.1,.bl r.2.2]:=by
 obtain⟨d,e,i⟩:=h.get q
 rw[aH] at e
 obtain⟨r,hr,rfl⟩:=Option.map_eq_some_iff.mp e
 obtain⟨p,e1,e2⟩:=QW i
 exact⟨r,p,hr,e1,e2⟩
theorem zch{H:Hp}{rs:List zw}{xs:List V}{i:Int}(hI:Iss K H (rs.map dR) xs)(h0:0<=i)(hi:i<rs.length):∃p,atI xs i=sE (.ref p)/\rs[i.toNat]? = sE (rs.getD i.toNat ([],[]))/\SqT K H p [.str (tx (rs.getD i.toNat ([],[])).1),.str (tx (rs.getD i.toNat ([],[])).2)]:=by
 have hl:=hI.len
 rw[af] at hl
 obtain⟨v,a1,b1⟩:=qY (xs:=xs) (i:=i) h0 (by lia)
 obtain⟨r,p,h1,rfl,h3⟩:=hI.getR b1
 have e:rs.getD i.toNat ([],[])=r:=by rw[ac,h1];rfl
 rw[e]
 exact⟨p,a1,h1,h3⟩
theorem JW{rs:List zw}(h:jz rs)(i:Nat):(rs.getD i ([],[])).1.length<=100/\(rs.getD i ([],[])).2.length<=100:=by
 rw[ac]
 cases e:rs[i]? with
 | none=>exact⟨aJ _,aJ _⟩
 | some r=>exact h.2 r (ae e)
theorem wc{ps:List zw}{w:List Nat}{t:Stp}(h:¬ (0<=t.1/\t.1<ps.length)):yH ps w t=sF:=if_neg h
theorem xj{ps:List zw}{w:List Nat}{t:Stp}(h:0<=t.1/\t.1<ps.length):yH ps w t=if zu w t.2.1 (sdl (ps.getD t.1.toNat ([],[])) t.2.2).1=sG then sE (yV w t.2.1 (sdl (ps.getD t.1.toNat ([],[])) t.2.2).1 (sdl (ps.getD t.1.toNat ([],[])) t.2.2).2) else sF:=if_pos h
def Ch(rs:List zw)(ws:List (List Nat))(ss:List Stp):Prop:=ws.length=ss.length+1/\∀i s,ss[i]? = sE s->∃w w',ws[i]? = sE w/\ws[i+1]? = sE w'/\yH rs w s=sE w'
noncomputable def bk(s:Stp):Stp:=(s.1,s.2.1,!s.2.2)
noncomputable def yZ(ss:List Stp):List Stp:=ss.reverse.map bk
noncomputable def mvL(ss:List Stp)(z:Int):List Stp:=ss.map λs=>(s.1,s.2.1+z,s.2.2)
theorem Jw(r:zw)(f:Bool):sdl r (!f)=((sdl r f).2,(sdl r f).1):=by cases f <;> rfl
theorem jv{rs:List zw}{w w':List Nat}{s:Stp}(h:yH rs w s=sE w'):yH rs w' (bk s)=sE w:=by
 by_cases hb:0<=s.1/\s.1<rs.length
 ·rw[xj hb] at h
  have hb':0<=(bk s).1/\(bk s).1<rs.length:=hb
  rw[xj hb']
  simp only[bk,Jw]
  generalize sdl (rs.getD s.1.toNat ([],[])) s.2.2=r at *
  by_cases hs:zu w s.2.1 r.1=sG
  ·rw[if_pos hs] at h
   cases h
   obtain⟨e1,e2⟩:=Xg r.2 hs
   rw[if_pos e1,e2]
  ·rw[if_neg hs] at h
   cases h
 ·rw[wc hb] at h
  cases h
theorem Ch.back{rs:List zw}{ws:List (List Nat)}{ss:List Stp}(h:Ch rs ws ss):Ch rs ws.reverse (yZ ss):=by
 obtain⟨hl,hs⟩:=h
 refine⟨by simp [yZ,hl],λi s hi=>?_⟩
 have hil:i<ss.length:=by have:=(List.getElem?_eq_some_iff.mp hi).1;simpa [yZ] using this
 unfold yZ at hi
 rw[aH,bx hil] at hi
 obtain⟨s0,h0,rfl⟩:=Option.map_eq_some_iff.mp hi
 obtain⟨w,w',e1,e2,e3⟩:=hs _ _ h0
 refine⟨w',w,?_,?_,jv e3⟩
 ·rw[bx (by lia),<- e2]
  congr 1
  lia
 ·rw[bx (by lia),<- e1]
  congr 1
  lia
theorem Y2{a w b:List Nat}{k:Nat}(h:k<=w.length):(a ++ w ++ b).drop (a.length+k)=w.drop k ++ b:=by
 rw[ax,<- dj,cw,bK h]
theorem kF{a w b o:List Nat}{k:Int}(h:zu w k o=sG):zu (a ++ w ++ b) (k+(a.length:Int)) o=sG:=by
 obtain⟨_,_,h0,h1⟩:=xt h
 unfold zu at h ⊢
 rw[decide_eq_true_eq] at h ⊢
 obtain⟨_,_,h2⟩:=h
 refine⟨by lia,by simp only[am];lia,?_⟩
 rw[show (k+(a.length:Int)).toNat=a.length+k.toNat by lia,Y2 (by lia),aT (by rw[ba];lia),h2]
theorem X5{a w b o n:List Nat}{k:Int}(h:zu w k o=sG):yV (a ++ w ++ b) (k+(a.length:Int)) o n=a ++ yV w k o n ++ b:=by
 obtain⟨_,_,h0,h1⟩:=xt h
 unfold yV
 rw[show (k+(a.length:Int)).toNat=a.length+k.toNat by lia]
 have e1:(a ++ w ++ b).take (a.length+k.toNat)=a ++ w.take k.toNat:=by
  rw[ax,List.take_length_add_append,aT (by lia)]
 have e2:(a ++ w ++ b).drop (a.length+k.toNat+o.length)=w.drop (k.toNat+o.length) ++ b:=by
  rw[Nat.add_assoc]
  exact Y2 (by lia)
 rw[e1,e2]
 simp [ax]
theorem ur{rs:List zw}{w w':List Nat}{s:Stp}(a b:List Nat)(h:yH rs w s=sE w'):yH rs (a ++ w ++ b) (s.1,s.2.1+(a.length:Int),s.2.2)=sE (a ++ w' ++ b):=by
 by_cases hb:0<=s.1/\s.1<rs.length
 ·rw[xj hb] at h
  rw[xj (by exact hb)]
  simp only
  generalize sdl (rs.getD s.1.toNat ([],[])) s.2.2=r at *
  by_cases hs:zu w s.2.1 r.1=sG
  ·rw[if_pos hs] at h
   cases h
   rw[if_pos (kF hs),X5 hs]
  ·rw[if_neg hs] at h
   cases h
 ·rw[wc hb] at h
  cases h
theorem Ch.within{rs:List zw}{ws:List (List Nat)}{ss:List Stp}(a b:List Nat)(h:Ch rs ws ss):Ch rs (ws.map λw=>a ++ w ++ b) (mvL ss (a.length:Int)):=by
 obtain⟨hl,hs⟩:=h
 refine⟨by simp [mvL,hl],λi s hi=>?_⟩
 unfold mvL at hi
 rw[aH] at hi
 obtain⟨s0,h0,rfl⟩:=Option.map_eq_some_iff.mp hi
 obtain⟨w,w',e1,e2,e3⟩:=hs _ _ h0
 exact⟨a ++ w ++ b,a ++ w' ++ b,by rw[aH,e1];rfl,by rw[aH,e2];rfl,ur a b e3⟩
def Fit(rs:List zw)(w:List Nat)(m:Int)(s:Stp):Prop:=∃w',yH rs w s=sE w'/\(w'.length:Int)<=m
theorem Qr{w o n:List Nat}{k:Int}(h:zu w k o=sG):(yV w k o n).length+o.length=w.length+n.length:=by
 obtain⟨e,hl,h0,h1⟩:=xt h
 unfold yV
 simp only[am,ba,hl]
 lia
theorem vD{H:Hp}{D p:oP}{ds es:List L3.D}{xs vs:List V}(h1:H D=sE (.lst xs))(h2:Iss K H ds xs)(hp:H p=sF)(hv:Iss K H es vs)(f:zZ ds)(fe:zZ es):Iss K (upd (upd H p (.tup vs)) D (.lst (xs ++ [.ref p]))) (ds ++ [.tup es]) (xs ++ [.ref p]):=by
 obtain⟨ys,hy1,hy2⟩:=U6 h1 h2 hp hv f fe
 rw[ze] at hy1
 cases hy1
 exact hy2
def uc(K:oO):Sp:=λvs H Q _=>∃(t:oP) (ss:List Stp),vs=[.ref t]/\Is K H (.lst (ss.map dSt)) (.ref t)/\ss.length<=1000/\∀(D:oP) (H':Hp),H D=sF->Same H H'->LsA K H' D ((yZ ss).map dSt)->Q (.ref D) H'
theorem ke{t:oP}{ss:List Stp}{H:Hp}{Q:VK}{E:XK}(h1:Is K H (.lst (ss.map dSt)) (.ref t))(h2:ss.length<=1000)(h:∀(D:oP) (H':Hp),H D=sF->Same H H'->LsA K H' D ((yZ ss).map dSt)->Q (.ref D) H'):uc K [.ref t] H Q E:=⟨t,ss,rfl,h1,h2,h⟩
theorem J5{ss:List Stp}{i:Nat}{s:Stp}(h:ss.reverse[i]? = sE s):(yZ ss).take (i+1)=(yZ ss).take i ++ [bk s]:=zU (by unfold yZ;rw[aH,h];rfl)
theorem Jo:zr ["steps"] ["steps"] (zb qk):=⟨rfl,rfl,rfl,by decide +kernel,rfl,by decide +kernel,by decide +kernel⟩
theorem JS{f:oP}{fd:oU}(B:Bt mg)(F:Fun K "back" "back" qk f fd) : yg P w K mg base CX0 1 f fd ["steps"] (uc K):=by
 refine F.ok Jo (λvs H Q E h=>?_) (λcdv A outer s H vs Q E hr h=>?_)
 ·obtain⟨t,ss,rfl,_⟩:=h
  rfl
 ·obtain⟨t,ss,rfl,hT,hsl,q⟩:=h
  refine⟨_,(zh (zv (xh (own:=["step"]) (caps:=[]) (ix:=[]) (tt:=wx) (te:=(UN (zN (tOp (qI K) (yS 0) (tC (.int 0))) (zN (tOp (qI K) (yS 0) (tC (.int 1))) (zN (JG (tOp (qI K) (yS 0) (tC (.int 2)))) ww))))) rfl (zP (sc:=zb qk) rfl (by decide +kernel) (by decide +kernel) (by decide +kernel) rfl (by decide +kernel) (by decide +kernel) rfl) (zaW rfl B.rev (za (pv 0) zc)) (λ_ _ _ _ _ _=>zB (i:=0) (show List.Nodup [_] by decide) rfl (Or.inl rfl)) (λ_ _ _ _ _ _=>yE) (λ_ _ _ _ _ _=>(yh (za (zx ix_tup (pv 0) zg (λ_ _=>rfl)) (za (zx ix_tup (pv 0) zg (λ_ _=>rfl)) (za (QJ (zx ix_tup (pv 0) zg (λ_ _=>rfl))) zc)))))))),?_⟩
  have s16:=yk
  rfl'
  simp only[Is] at hT
  obtain⟨_,ts,e,hTs,hJ⟩:=hT
  cases e
  have htl:=hJ.len
  rw[af] at htl
  have hbl:(yZ ss).length=ss.length:=by simp [yZ]
  refine⟨ts,hTs,λD hD=>CompV.by (xs:=ts) (λi sK H'=>Same H H'/\H' D=sE (.lst sK)/\Iss K H' (((yZ ss).take i).map dSt) sK) ⟨zf hD,ze,by simp only[bI,aP,Iss]⟩ (λi sK H' _ h=>h.1.seq hTs) ?_ ?_⟩
  ·rintro i x sK H' hx ⟨hs,hH,hA⟩
   have hi:i<ts.length:=by have:=(List.getElem?_eq_some_iff.mp hx).1;simpa using this
   rw[bx hi] at hx
   obtain⟨s,ps,hsi,rfl,hqs⟩:=vL hJ hx
   have hsr:ss.reverse[i]? = sE s:=by rw[bx (by lia),<- hsi,htl]
   have hal:=hA.len
   rw[af,aK] at hal
   simp only[wx]
   rfl'
   refine⟨xl,_,zm hs hqs,_,rfl,_,zm hs hqs,_,rfl,_,zm hs hqs,_,rfl,_,rfl,by lia,λp hp=>⟨zf hp _ _ hH,by lia,CNx.mk hi ⟨zG (hs.trans (zf hp)) hD,ze,?_⟩⟩⟩
   rw[J5 hsr,aE]
   exact vD hH hA hp Jb (wE _) (by simp only[zZ,xv,and_self])
  ·rintro sK H' ⟨hs,hH,hA⟩
   rw[htl,<- hbl,aQ] at hA
   exact q D H' hD hs ⟨sK,hH,hA⟩
def uX(K:oO):Sp:=λvs H Q _=>∃(t:oP) (ss:List Stp) (z:Int),vs=[.ref t,.int z]/\Is K H (.lst (ss.map dSt)) (.ref t)/\ss.length<=1000/\∀(D:oP) (H':Hp),H D=sF->Same H H'->LsA K H' D ((mvL ss z).map dSt)->Q (.ref D) H'
theorem ZB{t:oP}{ss:List Stp}{z:Int}{H:Hp}{Q:VK}{E:XK}(h1:Is K H (.lst (ss.map dSt)) (.ref t))(h2:ss.length<=1000)(h:∀(D:oP) (H':Hp),H D=sF->Same H H'->LsA K H' D ((mvL ss z).map dSt)->Q (.ref D) H'):uX K [.ref t,.int z] H Q E:=⟨t,ss,z,rfl,h1,h2,h⟩
theorem QA:zr ["steps","size"] ["steps","size"] (zb vn):=⟨rfl,rfl,rfl,by decide +kernel,rfl,by decide +kernel,by decide +kernel⟩
theorem Qb{f:oP}{fd:oU}(B:Bt mg)(F:Fun K "moved" "moved" vn f fd) : yg P w K mg base CX0 1 f fd ["steps","size"] (uX K):=by
 refine F.ok QA (λvs H Q E h=>?_) (λcdv A outer s H vs Q E hr h=>?_)
 ·obtain⟨t,ss,z,rfl,_⟩:=h
  rfl
 ·obtain⟨t,ss,z,rfl,hT,hsl,q⟩:=h
  refine⟨_,(zh (zv (xh (own:=["step"]) (caps:=["size"]) (ix:=[1]) (tt:=wx) (te:=(UN (zN (tOp (qI K) (yS 0) (tC (.int 0))) (zN (tOp Qv (tOp (qI K) (yS 0) (tC (.int 1))) (yS 1)) (zN (tOp (qI K) (yS 0) (tC (.int 2))) ww))))) rfl (zP (sc:=zb vn) rfl (by decide +kernel) (by decide +kernel) (by decide +kernel) rfl (by decide +kernel) (by decide +kernel) rfl) (yF (pv 0)) (λ_ _ _ _ _ _=>zB (i:=0) (show List.Nodup [_,_] by decide) rfl (Or.inl rfl)) (λ_ _ _ _ _ _=>yE) (λ_ _ _ _ _ _=>(yh (za (zx ix_tup (pv 0) zg (λ_ _=>rfl)) (za (zE qL (zx ix_tup (pv 0) zg (λ_ _=>rfl)) (pv 1)) (za (zx ix_tup (pv 0) zg (λ_ _=>rfl)) zc)))))))),?_⟩
  have s16:=yk
  rfl'
  simp only[Is] at hT
  obtain⟨_,ts,e,hTs,hJ⟩:=hT
  cases e
  have htl:=hJ.len
  rw[af] at htl
  have hbl:(mvL ss z).length=ss.length:=by simp [mvL]
  refine⟨⟨ts,hTs⟩,λD hD=>CompL.by (xs:=ts) (λi sK H'=>Same H H'/\H' D=sE (.lst sK)/\Iss K H' (((mvL ss z).take i).map dSt) sK) ⟨zf hD,ze,by simp only[bI,aP,Iss]⟩ (λi sK H' _ h=>h.1.seq hTs) ?_ ?_⟩
  ·rintro i x sK H' hx ⟨hs,hH,hA⟩
   have hi:=(List.getElem?_eq_some_iff.mp hx).1
   obtain⟨s,ps,hsi,rfl,hqs⟩:=vL hJ hx
   have hm:(mvL ss z)[i]? = sE (s.1,s.2.1+z,s.2.2):=by unfold mvL;rw[aH,hsi];rfl
   have hal:=hA.len
   rw[af,aK] at hal
   simp only[wx]
   rfl'
   refine⟨xl,_,zm hs hqs,_,rfl,_,zm hs hqs,_,rfl,_,rfl,_,zm hs hqs,_,rfl,by lia,λp hp=>⟨zf hp _ _ hH,by lia,CNx.mk hi ⟨zG (hs.trans (zf hp)) hD,ze,?_⟩⟩⟩
   rw[zU hm,aE]
   exact vD hH hA hp Jb (wE _) (by simp only[zZ,xv,and_self])
  ·rintro sK H' ⟨hs,hH,hA⟩
   rw[htl,<- hbl,aQ] at hA
   exact q D H' hD hs ⟨sK,hH,hA⟩
noncomputable abbrev Ent:=List Nat × List Nat × List Stp
variable{E:XK}{H:Hp}{Q:VK}{a:oP}{bs:List Ent}{e:Ent}{es:List Ent}{f:oP}{fd:oU}{k:Nat}{ns:List Int}{ps:List zw}{rs:List zw}{ss:List Stp}{ws:List Int}
noncomputable def dE(e:Ent):L3.D:=.tup [dS e.1,dS e.2.1,.lst (e.2.2.map dSt)]
noncomputable def XJ(es:List Ent)(u:Stp):List Stp:=mvL (if u.2.2=sG then (es.getD u.1.toNat ([],[],[])).2.2 else yZ (es.getD u.1.toNat ([],[],[])).2.2) u.2.1
noncomputable def byL(es:List Ent)(us:List Stp):List Stp:=us.flatMap (XJ es)
theorem zai{v:V}(h:Is K H (dE e) v):∃p s,v=.ref p/\SqT K H p [.str (tx e.1),.str (tx e.2.1),.ref s]/\Is K H (.lst (e.2.2.map dSt)) (.ref s):=by
 simp only[dE,Is,Iss] at h
 obtain⟨a,xs,e0,hs,v1,r1,rfl,rfl,v2,r2,rfl,rfl,v3,r3,rfl,⟨s,zs,rfl,h1,h2⟩,rfl⟩:=h
 refine⟨a,s,e0,hs,?_⟩
 simp only[Is]
 exact⟨s,zs,rfl,h1,h2⟩
theorem zc0{xs:List V}{i:Int}(hI:Iss K H (es.map dE) xs)(h0:0<=i)(hi:i<es.length):∃p s,atI xs i=sE (.ref p)/\es[i.toNat]? = sE (es.getD i.toNat ([],[],[]))/\SqT K H p [.str (tx (es.getD i.toNat ([],[],[])).1),.str (tx (es.getD i.toNat ([],[],[])).2.1),.ref s]/\Is K H (.lst ((es.getD i.toNat ([],[],[])).2.2.map dSt)) (.ref s):=by
 have hl:=hI.len
 rw[af] at hl
 obtain⟨v,a1,b1⟩:=qY (xs:=xs) (i:=i) h0 (by lia)
 obtain⟨d,e,ix⟩:=hI.get b1
 rw[aH] at e
 obtain⟨r,hr,rfl⟩:=Option.map_eq_some_iff.mp e
 have e:es.getD i.toNat ([],[],[])=r:=by rw[ac,hr];rfl
 rw[e]
 obtain⟨p,s,rfl,h2,h3⟩:=zai ix
 exact⟨p,s,a1,hr,h2,h3⟩
theorem Xq(ss:List Stp)(z:Int):(mvL ss z).length=ss.length:=by simp [mvL]
theorem xM(ss:List Stp):(yZ ss).length=ss.length:=by simp [yZ]
def VS(K:oO):Sp:=λvs H Q _=>∃(a t:oP) (es:List Ent) (us:List Stp),vs=[.ref a,.ref t]/\Is K H (.lst (es.map dE)) (.ref a)/\Is K H (.lst (us.map dSt)) (.ref t)/\us.length<=100/\(∀e ∈ es,e.2.2.length<=600)/\(∀u ∈ us,0<=u.1/\u.1<es.length)/\∀(D:oP) (H':Hp),H D=sF->Same H H'->LsA K H' D ((byL es us).map dSt)->Q (.ref D) H'
theorem iP:zr ["entries","steps","chain","step","own"] ["entries","steps"] (zb xx):=⟨rfl,rfl,rfl,by decide +kernel,rfl,by decide +kernel,by decide +kernel⟩
theorem Yy(B:Bt mg)(F:Fun K "by_pacts" "by_pacts" xx f fd)(ot:Df P w K mg base CX0 1 "moved" ["steps","size"] [] (uX K))(mq:Df P w K mg base CX0 1 "back" ["steps"] [] (uc K)):yg P w K mg base CX0 2 f fd ["entries","steps"] (VS K):=by
 refine F.ok iP (λvs H Q E h=>?_) (λcdv A outer s H vs Q E hr h=>?_)
 ·obtain⟨a,t,es,us,rfl,_⟩:=h
  rfl
 ·obtain⟨a,t,es,us,rfl,hE,hU,hul,hel,hub,q⟩:=h
  refine⟨_,(zi (zq (i:=2) iP.nd rfl (Or.inl rfl) (vg zc))
   (zi (yA PassesOwn.never rfl (yF (pv 1)) (zB (i:=3) iP.nd rfl (Or.inl rfl))
    (zi (zq (i:=4) iP.nd rfl (Or.inl rfl) (zx ix_tup (zx ix_list (pv 0) (zx ix_tup (pv 3) zg (λ_ _=>rfl)) (λ_ _=>rfl)) zg (λ_ _=>rfl)))
    (zh (wz (vt bO PySem.F.slot_list_extend PySem.F.type_list_extend V0 (pv 2) (za (cl0 ot hr .nil rfl (za (kP (xn (zx ix_tup (pv 3) zg (λ_ _=>rfl)) (λ_=>rfl)) (pv 4) (cl0 mq hr .nil rfl (za (pv 4) zc))) (za (zx ix_tup (pv 3) zg (λ_ _=>rfl)) zc))) zc))))))
   (zh (zv (pv 2))))),?_⟩
  have s16:=yk
  have hE':=hE
  have hU':=hU
  simp only[Is] at hE' hU'
  obtain⟨_,xs,e,hX,hI⟩:=hE'
  cases e
  obtain⟨_,ts,e,hTs,hJ⟩:=hU'
  cases e
  have htl:=hJ.len
  rw[af] at htl
  refine zj (λσ H'=>∃D,H D=sF/\Same H H'/\H' D=sE (.lst [])/\σ=[sE (.ref a),sE (.ref t),sE (.ref D),sF,sF]) ?_ ?_
  ·rfl'
   exact⟨by lia,λp hp=>⟨p,hp,zf hp,ze,rfl⟩⟩
  rintro σ H1 ⟨D,hD,s1,hD1,rfl⟩
  refine zj (λσ H'=>Same H H'/\LsA K H' D ((byL es us).map dSt)/\∃v3 v4,σ=[sE (.ref a),sE (.ref t),sE (.ref D),v3,v4]) ?_ ?_
  ·rfl'
   refine⟨⟨_,s1.seq hTs⟩,ForL.by (xs:=ts) (λi σ H'=>Same H H'/\LsA K H' D ((byL es (us.take i)).map dSt)/\(byL es (us.take i)).length<=i * 600/\∃v3 v4,σ=[sE (.ref a),sE (.ref t),sE (.ref D),v3,v4]) ⟨s1,⟨[],hD1,by simp only[bI,byL,List.flatMap_nil,aP,Iss]⟩,by simp [byL],_,_,rfl⟩ (λi σ H' _ h=>h.1.seq hTs) ?_ ?_⟩
   ·rintro i x σ H' hx ⟨hs,hL,hl,v3,v4,rfl⟩
    obtain⟨u,pu,hui,rfl,hqu⟩:=vL hJ hx
    have hil:=(List.getElem?_eq_some_iff.mp hui).1
    obtain⟨u0,u1⟩:=hub u (ae hui)
    obtain⟨pe,se,g1,g2,g3,g4⟩:=zc0 hI u0 u1
    have hle:=hel _ (ae g2)
    have hby:byL es (us.take (i+1))=byL es (us.take i) ++ XJ es u:=by
     unfold byL
     rw[zU hui,cZ]
     simp
    simp only[xu,bg,bf]
    refine zj (λσ H''=>H''=H'/\σ=[sE (.ref a),sE (.ref t),sE (.ref D),sE (.ref pu),sE (.ref se)]) ?_ ?_
    ·rfl'
     exact⟨_,zm hs hqu,_,rfl,_,_,rfl,hs.seq hX,_,g1,_,rfl,_,zm hs g3,rfl⟩
    rintro σ G ⟨rfl,rfl⟩
    obtain⟨zs,hZ,hZI⟩:=id hL
    have hzl:=hZI.len
    rw[af] at hzl
    have hse:=Is.same hs _ _ g4
    have fin:∀(ws:List Stp) (M:oP) (G2:Hp),XJ es u=ws->ws.length<=600->Same G G2->LsA K G2 M (ws.map dSt)->Wx (V.ref D) [V.ref M] G2 λx H1=>Same H H1/\LsA K H1 D ((byL es (us.take (i+1))).map dSt)/\(byL es (us.take (i+1))).length<=(i+1) * 600:=λws M G2 ew hwl sg hM=>by
     obtain⟨ys,hY,hYI⟩:=hM
     have hyl:=hYI.len
     rw[af] at hyl
     have hZ2:=sg _ _ hZ
     refine⟨D,M,zs,ys,rfl,rfl,hZ2,hY,by lia,zG (hs.trans sg) hD,⟨_,ze,?_⟩,?_⟩
     ·rw[hby,ew,aE]
      exact Iss.append (Iss.updL hZ2 _ _ (wE _) (Iss.same sg _ _ hZI)) (Iss.updL hZ2 _ _ (wE _) hYI)
     ·rw[hby,ew,am]
      lia
    rfl'
    refine⟨.inl ⟨_,SqL.of hZ⟩,_,zm hs hqu,_,rfl,_,rfl,xp (λhf=>⟨_,zm hs hqu,_,rfl,ZB hse (by lia) λM G2 _ sg hM=>fin _ M G2 (by unfold XJ;rw[if_pos hf]) (by rw[Xq];lia) sg hM⟩) λhf=>ke hse (by lia) λM0 G1 _ sg0 hM0=>⟨_,zm (hs.trans sg0) hqu,_,rfl,ZB hM0.is (by rw[xM];lia) λM G2 _ sg hM=>fin _ M G2 (by unfold XJ;rw[if_neg hf]) (by rw[Xq,xM];lia) (sg0.trans sg) hM⟩⟩
   ·rintro σ H' ⟨hs,hL,hl,v3,v4,rfl⟩
    rw[htl,aQ] at hL
    exact⟨hs,hL,_,_,rfl⟩
  rintro σ H2 ⟨s2,hL2,v3,v4,rfl⟩
  rfl'
  exact q D H2 hD s2 hL2
noncomputable def yW(rs:List zw):List Nat->List Stp->Option (List Nat)
 | w,[]=>sE w
 | w,s::ss=>(yH rs w s).bind λw'=>yW rs w' ss
theorem vQ(rs:List zw):∀(ss ts:List Stp) (w:List Nat),yW rs w (ss ++ ts)=(yW rs w ss).bind λw'=>yW rs w' ts
 | [],ts,w=>rfl
 | s::ss,ts,w=>by
  simp only[bE,yW]
  cases yH rs w s with
  | none=>rfl
  | some w1=>exact vQ rs ss ts w1
theorem qQ{s:Stp}{w w':List Nat}(h:yW rs w (s::ss)=sE w'):∃w1,yH rs w s=sE w1/\yW rs w1 ss=sE w':=by
 simp only[yW] at h
 obtain⟨w1,h1,h2⟩:=Option.bind_eq_some_iff.mp h
 exact⟨w1,h1,h2⟩
theorem Zk{s:Stp}{w w1 w2:List Nat}(h:yW rs w ss=sE w1)(h2:yH rs w1 s=sE w2):yW rs w (ss ++ [s])=sE w2:=by
 rw[vQ,h]
 simp only[yW,cr]
 rw[h2]
 rfl
theorem Vz(s:Stp)(ss:List Stp):yZ (s::ss)=yZ ss ++ [bk s]:=by simp [yZ]
theorem vO:∀{ss:List Stp} {w w':List Nat},yW rs w ss=sE w'->yW rs w' (yZ ss)=sE w
 | [],w,w',h=>by cases h;rfl
 | s::ss,w,w',h=>by
  obtain⟨w1,h1,h2⟩:=qQ h
  rw[Vz]
  exact Zk (vO h2) (jv h1)
theorem qS(a b:List Nat):∀{ss:List Stp} {w w':List Nat},yW rs w ss=sE w'->yW rs (a ++ w ++ b) (mvL ss (a.length:Int))=sE (a ++ w' ++ b)
 | [],w,w',h=>by cases h;rfl
 | s::ss,w,w',h=>by
  obtain⟨w1,h1,h2⟩:=qQ h
  have e:mvL (s::ss) (a.length:Int)=(s.1,s.2.1+(a.length:Int),s.2.2)::mvL ss (a.length:Int):=rfl
  rw[e]
  simp only[yW]
  rw[ur a b h1]
  exact qS a b h2
def EOk(rs:List zw)(e:Ent):Prop:=yW rs e.1 e.2.2=sE e.2.1
noncomputable def zd(es:List Ent):List zw:=es.map λe=>(e.1,e.2.1)
theorem Qe(hE:∀e ∈ es,EOk rs e){u:Stp}{w w':List Nat}(h:yH (zd es) w u=sE w'):yW rs w (XJ es u)=sE w':=by
 have hb:0<=u.1/\u.1<(zd es).length:=de λhb=>by rw[wc hb] at h;cases h
 rw[xj hb] at h
 have hl:(zd es).length=es.length:=by unfold zd;rw[af]
 rw[hl] at hb
 have hg:es[u.1.toNat]? = sE (es.getD u.1.toNat ([],[],[])):=by
  rw[ac,ak (by lia)]
  rfl
 have hp:(zd es).getD u.1.toNat ([],[])=((es.getD u.1.toNat ([],[],[])).1,(es.getD u.1.toNat ([],[],[])).2.1):=by
  unfold zd
  rw[ac,aH,hg]
  rfl
 rw[hp] at h
 have he:=hE _ (ae hg)
 unfold XJ
 generalize es.getD u.1.toNat ([],[],[])=e at *
 have key:∀(o n:List Nat) (ss:List Stp),sdl (e.1,e.2.1) u.2.2=(o,n)->yW rs o ss=sE n->yW rs w (mvL ss u.2.1)=sE w':=λo n ss hs hw=>by
  rw[hs] at h
  by_cases hst:zu w u.2.1 o=sG
  ·rw[if_pos hst] at h
   cases h
   obtain⟨e1,e2,h0,h1⟩:=xt hst
   have:=qS (w.take u.2.1.toNat) (w.drop (u.2.1.toNat+o.length)) hw
   rw[e1,e2,show ((u.2.1.toNat:Nat):Int)=u.2.1 by lia] at this
   exact this
  ·rw[if_neg hst] at h
   cases h
 cases hf:u.2.2 with
 | true =>
  rw[if_pos rfl]
  exact key e.1 e.2.1 e.2.2 (by rw[hf];rfl) he
 | false =>
  rw[if_neg (by decide)]
  exact key e.2.1 e.1 (yZ e.2.2) (by rw[hf];rfl) (vO he)
theorem jO(hE:∀e ∈ es,EOk rs e):∀{us:List Stp} {w w':List Nat},yW (zd es) w us=sE w'->yW rs w (byL es us)=sE w'
 | [],w,w',h=>by cases h;rfl
 | u::us,w,w',h=>by
  obtain⟨w1,h1,h2⟩:=qQ h
  have e:byL es (u::us)=XJ es u ++ byL es us:=by simp [byL]
  rw[e,vQ,Qe hE h1]
  exact jO hE h2
noncomputable def jd(D:oP)(H:Hp):Hp:=λb=>if b=D then sF else H b
theorem wM{D b:oP}(h:b≠D):jd D H b=H b:=by unfold jd;rw[if_neg h]
theorem qO{D:oP}:jd D H D=sF:=by unfold jd;rw[if_pos rfl]
theorem wI{D:oP}:Same (jd D H) H:=λb o e=>by
 by_cases hb:b=D
 ·rw[hb,qO] at e;cases e
 ·rw[wM hb] at e;exact e
theorem WL{D:oP}{H H':Hp}(hD:H D=sF)(s:Same H H'):Same H (jd D H'):=λb o e=>by
 have hb:b≠D:=λz=>by rw[z,hD] at e;cases e
 rw[wM hb]
 exact s _ _ e
theorem wH{D:oP}{H H':Hp}(s:Same H H'):Same (jd D H) (jd D H'):=λb o e=>by
 by_cases hb:b=D
 ·rw[hb,qO] at e;cases e
 ·rw[wM hb] at e ⊢;exact s _ _ e
theorem xJ{D:oP}{o:HO}:Same (jd D H) (jd D (upd H D o)):=λb o' e=>by
 by_cases hb:b=D
 ·rw[hb,qO] at e;cases e
 ·rw[wM hb] at e ⊢;rw[zo hb];exact e
theorem W5{D a:oP}{xs ys:List V}(hD:H D=sE (.lst ys))(h:SqT K H a xs):SqT K (jd D H) a xs:=by
 rcases h with (h | ⟨o,h⟩) | h
 ·exact .inl (.inl (by rw[wM (λe=>by rw[e,hD] at h;cases h)];exact h))
 ·exact .inl (.inr ⟨o,by rw[wM (λe=>by rw[e,hD] at h;cases h)];exact h⟩)
 ·exact .inr h
theorem YF{D:oP}{ys:List V}(hD:H D=sE (.lst ys)):∀(ss:List Stp) (vs:List V),Iss K H (ss.map dSt) vs->Iss K (jd D H) (ss.map dSt) vs
 | [],vs,h=>by simp only[aP,Iss] at h ⊢;exact h
 | s::ss,vs,h=>by
  simp only[az,Iss] at h ⊢
  obtain⟨v,r,rfl,h1,h2⟩:=h
  obtain⟨p,rfl,h3⟩:=QW h1
  exact⟨_,r,rfl,kT (W5 hD h3),YF hD ss r h2⟩
theorem zcb{p s:oP}(h1:SqT K H p [.str (tx e.1),.str (tx e.2.1),.ref s])(h2:Is K H (.lst (e.2.2.map dSt)) (.ref s)):Is K H (dE e) (.ref p):=by
 simp only[dE,Is,Iss]
 simp only[Is] at h2
 exact⟨p,_,rfl,h1,_,_,rfl,rfl,_,_,rfl,rfl,_,_,rfl,h2,rfl⟩
theorem Y8{vs:List V}{j:Nat}{v:V}(h:Iss K H (es.map dE) vs)(q:vs[j]? = sE v):∃e p s,es[j]? = sE e/\v=.ref p/\SqT K H p [.str (tx e.1),.str (tx e.2.1),.ref s]/\Is K H (.lst (e.2.2.map dSt)) (.ref s):=by
 obtain⟨d,e,i⟩:=h.get q
 rw[aH] at e
 obtain⟨r,hr,rfl⟩:=Option.map_eq_some_iff.mp e
 obtain⟨p,s,e1,e2,e3⟩:=zai i
 exact⟨r,p,s,hr,e1,e2,e3⟩
theorem JB{d:L3.D}{v:V}(h:Is K H d v):Iss K H [d] [v]:=by
 simp only[Iss]
 exact⟨v,[],rfl,h,rfl⟩
def EnA(K:oO)(H:Hp)(e:Ent)(v:V):Prop:=∃p s,v=.ref p/\SqT K H p [.str (tx e.1),.str (tx e.2.1),.ref s]/\LsA K H s (e.2.2.map dSt)
def EnsA(K:oO)(H:Hp):List Ent->List V->Prop
 | [],vs=>vs=[]
 | e::es,vs=>∃v r,vs=v::r/\EnA K H e v/\EnsA K H es r
def EnsL(K:oO)(H:Hp)(a:oP)(es:List Ent):Prop:=∃xs,SqL K H a xs/\EnsA K H es xs
def EnsM(K:oO)(H:Hp)(a:oP)(es:List Ent):Prop:=∃xs,H a=sE (.lst xs)/\EnsA K H es xs
theorem EnA.is{v:V}(h:EnA K H e v):Is K H (dE e) v:=by
 obtain⟨p,s,rfl,h1,h2⟩:=h
 exact zcb h1 h2.is
theorem EnA.same{H H':Hp}{v:V}(h:EnA K H e v)(q:Same H H'):EnA K H' e v:=by
 obtain⟨p,s,e0,h1,h2⟩:=h
 exact⟨p,s,e0,zm q h1,h2.same q⟩
theorem EnsA.iss:∀{es:List Ent} {vs:List V},EnsA K H es vs->Iss K H (es.map dE) vs
 | [],vs,h=>by simp only[EnsA] at h;simp only[aP,Iss];exact h
 | e::es,vs,h=>by
  simp only[EnsA] at h
  obtain⟨v,r,rfl,h1,h2⟩:=h
  simp only[az,Iss]
  exact⟨v,r,rfl,h1.is,h2.iss⟩
theorem EnsA.len{vs:List V}(h:EnsA K H es vs):vs.length=es.length:=by
 have:=h.iss.len
 rw[af] at this
 exact this
theorem EnsA.same{H H':Hp}(q:Same H H'):∀{es:List Ent} {vs:List V},EnsA K H es vs->EnsA K H' es vs
 | [],vs,h=>by simp only[EnsA] at h ⊢;exact h
 | e::es,vs,h=>by
  simp only[EnsA] at h ⊢
  obtain⟨v,r,e0,h1,h2⟩:=h
  exact⟨v,r,e0,h1.same q,h2.same q⟩
theorem EnsA.snoc{v:V}(hv:EnA K H e v):∀{es:List Ent} {vs:List V},EnsA K H es vs->EnsA K H (es ++ [e]) (vs ++ [v])
 | [],vs,h=>by
  simp only[EnsA] at h
  subst h
  simp only[bA,EnsA]
  exact⟨v,[],rfl,hv,rfl⟩
 | e'::es,vs,h=>by
  simp only[EnsA] at h
  obtain⟨x,r,rfl,hx,hr⟩:=h
  simp only[bE,EnsA]
  exact⟨x,r ++ [v],rfl,hx,hr.snoc hv⟩
theorem EnsA.get:∀{es:List Ent} {vs:List V} {j:Nat} {v:V},EnsA K H es vs->vs[j]? = sE v->∃e p s,es[j]? = sE e/\v=.ref p/\SqT K H p [.str (tx e.1),.str (tx e.2.1),.ref s]/\LsA K H s (e.2.2.map dSt)
 | [],vs,j,v,h,q=>by
  simp only[EnsA] at h
  subst h
  simp at q
 | e::es,vs,0,v,h,q=>by
  simp only[EnsA] at h
  obtain⟨x,r,rfl,⟨p,s,rfl,h1,h2⟩,_⟩:=h
  cases q
  exact⟨e,p,s,rfl,rfl,h1,h2⟩
 | e::es,vs,j+1,v,h,q=>by
  simp only[EnsA] at h
  obtain⟨x,r,rfl,_,hr⟩:=h
  exact hr.get (j:=j) (by simpa using q)
theorem EnsL.is(h:EnsL K H a es):Is K H (.lst (es.map dE)) (.ref a):=by
 obtain⟨xs,h1,h2⟩:=h
 simp only[Is]
 exact⟨a,xs,rfl,h1,h2.iss⟩
theorem EnsL.same{H H':Hp}(h:EnsL K H a es)(q:Same H H'):EnsL K H' a es:=by
 obtain⟨xs,h1,h2⟩:=h
 exact⟨xs,q.seq h1,h2.same q⟩
theorem EnsM.l(h:EnsM K H a es):EnsL K H a es:=by
 obtain⟨xs,h1,h2⟩:=h
 exact⟨xs,SqL.of h1,h2⟩
theorem EnsM.same{H H':Hp}(h:EnsM K H a es)(q:Same H H'):EnsM K H' a es:=by
 obtain⟨xs,h1,h2⟩:=h
 exact⟨xs,q _ _ h1,h2.same q⟩
theorem EnA.new{D p s:oP}{ys:List V}(hD:H D=sE (.lst ys))(hp:H p=sE (.tup [.str (tx e.1),.str (tx e.2.1),.ref s]))(hs:LsA K H s (e.2.2.map dSt))(hsD:s≠D):EnA K (jd D H) e (.ref p):=by
 obtain⟨zs,hz,hi⟩:=hs
 have hpD:p≠D:=λz=>by rw[z,hD] at hp;cases hp
 exact⟨p,s,rfl,SqT.of (by rw[wM hpD];exact hp),zs,by rw[wM hsD];exact hz,YF hD _ _ hi⟩
theorem qj(es:List Ent):(zd es).length=es.length:=by unfold zd;rw[af]
def wj(K:oO):Sp:=λvs H Q _=>∃(a:oP) (es:List Ent),vs=[.ref a]/\Is K H (.lst (es.map dE)) (.ref a)/\es.length<=1000/\∀(D:oP) (H':Hp),H D=sF->Same H H'->LsA K H' D ((zd es).map dR)->Q (.ref D) H'
theorem wJ(h1:Is K H (.lst (es.map dE)) (.ref a))(h2:es.length<=1000)(h:∀(D:oP) (H':Hp),H D=sF->Same H H'->LsA K H' D ((zd es).map dR)->Q (.ref D) H'):wj K [.ref a] H Q E:=⟨a,es,rfl,h1,h2,h⟩
theorem Yg:zr ["entries"] ["entries"] (zb xf):=⟨rfl,rfl,rfl,by decide +kernel,rfl,by decide +kernel,by decide +kernel⟩
theorem Yf(B:Bt mg)(F:Fun K "pairs_of" "pairs_of" xf f fd) : yg P w K mg base CX0 1 f fd ["entries"] (wj K):=by
 refine F.ok Yg (λvs H Q E h=>?_) (λcdv A outer s H vs Q E hr h=>?_)
 ·obtain⟨a,es,rfl,_⟩:=h
  rfl
 ·obtain⟨a,es,rfl,hA,hl,q⟩:=h
  refine⟨_,(zh (zv (xh (own:=["entry"]) (caps:=[]) (ix:=[]) (tt:=wx) (te:=(UN (zN (tOp (qI K) (yS 0) (tC (.int 0))) (zN (tOp (qI K) (yS 0) (tC (.int 1))) ww)))) rfl (zP (sc:=zb xf) rfl (by decide +kernel) (by decide +kernel) (by decide +kernel) rfl (by decide +kernel) (by decide +kernel) rfl) (yF (pv 0)) (λ_ _ _ _ _ _=>zB (i:=0) (show List.Nodup [_] by decide) rfl (Or.inl rfl)) (λ_ _ _ _ _ _=>yE) (λ_ _ _ _ _ _=>(yh (za (zx ix_tup (pv 0) zg (λ_ _=>rfl)) (za (zx ix_tup (pv 0) zg (λ_ _=>rfl)) zc))))))),?_⟩
  have s16:=yk
  rfl'
  simp only[Is] at hA
  obtain⟨_,xs,e,hX,hI⟩:=hA
  cases e
  have hxl:=hI.len
  rw[af] at hxl
  have hpl:=qj es
  refine⟨⟨xs,hX⟩,λD hD=>CompL.by (xs:=xs) (λi sK H'=>Same H H'/\H' D=sE (.lst sK)/\Iss K H' (((zd es).take i).map dR) sK) ⟨zf hD,ze,by simp only[bI,aP,Iss]⟩ (λi sK H' _ h=>h.1.seq hX) ?_ ?_⟩
  ·rintro i x sK H' hx ⟨hs,hH,hA⟩
   have hi:=(List.getElem?_eq_some_iff.mp hx).1
   obtain⟨e,pe,se,hei,rfl,hqe,_⟩:=Y8 hI hx
   have hm:(zd es)[i]? = sE (e.1,e.2.1):=by unfold zd;rw[aH,hei];rfl
   have hal:=hA.len
   rw[af,aK] at hal
   simp only[wx]
   rfl'
   refine⟨xl,_,zm hs hqe,_,rfl,_,zm hs hqe,_,rfl,by lia,λp hp=>⟨zf hp _ _ hH,by lia,CNx.mk hi ⟨zG (hs.trans (zf hp)) hD,ze,?_⟩⟩⟩
   rw[zU hm,aE]
   exact vD hH hA hp J0 (kq _) (by simp only[zZ,xv,and_self])
  ·rintro sK H' ⟨hs,hH,hA⟩
   rw[hxl,<- hpl,aQ] at hA
   exact q D H' hD hs ⟨sK,hH,hA⟩
noncomputable def yx(k:Nat)(l:List Nat)(ns:List Int)(e:Ent):Ent:=if zK k l ns e.2.1 e.1=sG then e else (e.2.1,e.1,yZ e.2.2)
structure EB(l:List Nat)(e:Ent):Prop where
 a:e.1.length<=60
 b:e.2.1.length<=60
 s:e.2.2.length<=600
 ma:∀c ∈ e.1,c ∈ l
 mb:∀c ∈ e.2.1,c ∈ l
theorem EB.rule{l:List Nat}(h:EB l e):EB l (yx k l ns e):=by
 unfold yx
 split
 ·exact h
 ·exact⟨h.b,h.a,by rw[xM];exact h.s,h.mb,h.ma⟩
def xY(K:oO)(CO CR CW:oP):Sp:=λvs H Q _=>∃(o p s:oP) (k:Nat) (l:List Nat) (ns:List Int) (e:Ent),vs=[.ref o,.ref p]/\OrdAt CO CR CW H o k l ns/\OG l ns k/\SqT K H p [.str (tx e.1),.str (tx e.2.1),.ref s]/\Is K H (.lst (e.2.2.map dSt)) (.ref s)/\EB l e /\
 (yx k l ns e=e->∀H',Same H H'->Q (.ref p) H') /\
 (∀(p' s':oP) (H':Hp),Same H H'->H s'=sF->H' p'=sE (.tup [.str (tx (yx k l ns e).1),.str (tx (yx k l ns e).2.1),.ref s'])->LsA K H' s' ((yx k l ns e).2.2.map dSt)->Q (.ref p') H')
theorem jt{CO CR CW o p s:oP}{l:List Nat}(h1:OrdAt CO CR CW H o k l ns)(h2:OG l ns k)(h3:SqT K H p [.str (tx e.1),.str (tx e.2.1),.ref s])(h4:Is K H (.lst (e.2.2.map dSt)) (.ref s))(h5:EB l e)
  (h6:yx k l ns e=e->∀H',Same H H'->Q (.ref p) H') (h7:∀(p' s':oP) (H':Hp),Same H H'->H s'=sF->H' p'=sE (.tup [.str (tx (yx k l ns e).1),.str (tx (yx k l ns e).2.1),.ref s'])->LsA K H' s' ((yx k l ns e).2.2.map dSt)->Q (.ref p') H'):xY K CO CR CW [.ref o,.ref p] H Q E :=
 ⟨o,p,s,k,l,ns,e,rfl,h1,h2,h3,h4,h5,h6,h7⟩
theorem X1:zr ["order","entry"] ["order","entry"] (zb xX):=⟨rfl,rfl,rfl,by decide +kernel,rfl,by decide +kernel,by decide +kernel⟩
theorem Xw{f CO CR CW:oP}(B:Bt mg)(DBk:DB P w K mg base CO CR CW)(F:Fun K "as_rule" "as_rule" xX f fd)(mq:Df P w K mg base CX0 1 "back" ["steps"] [] (uc K)):yg P w K mg base CX0 4 f fd ["order","entry"] (xY K CO CR CW):=by
 refine F.ok X1 (λvs H Q E h=>?_) (λcdv A outer s H vs Q E hr h=>?_)
 ·obtain⟨o,p,s,k,l,ns,e,rfl,_⟩:=h
  rfl
 ·obtain⟨o,p,s,k,l,ns,e,rfl,ho,hG,hp,hs,hE,q1,q2⟩:=h
  refine⟨_,(zO (zW (xn (K6 DBk hr (pv 0) (za (zx ix_tup (pv 1) zg (λ_ _=>rfl)) (za (zx ix_tup (pv 1) zg (λ_ _=>rfl)) zc))) (λ_=>rfl))
    (zh (zv (pv 1)))
    zC)
   (zh (zv (yh (za (zx ix_tup (pv 1) zg (λ_ _=>rfl)) (za (zx ix_tup (pv 1) zg (λ_ _=>rfl)) (za (cl0 mq hr .nil rfl (za (zx ix_tup (pv 1) zg (λ_ _=>rfl)) zc)) zc))))))),?_⟩
  have s16:=yk
  ac_rfl
  obtain⟨C,dx,fs,hf,ho1,hn,_⟩:=ho.fam
  have h1:fs.lookup ("before" : oW)=sF:=hn _ (by decide) (by decide)
  refine⟨C,hf,dx,fs,ho1,h1,_,hp,_,rfl,_,hp,_,rfl,o,k,l,ns,e.2.1,e.1,rfl,ho,hG,by have:=hE.b;lia,by have:=hE.a;lia,hE.mb,hE.ma,λH1 s1=>⟨_,rfl,xp (λh=>?_) λh=>?_⟩⟩
  ·exact q1 (by unfold yx;rw[if_pos h]) H1 s1
  ·have er:yx k l ns e=(e.2.1,e.1,yZ e.2.2):=by unfold yx;rw[if_neg h]
   rw[er] at q2
   have hp1:=zm s1 hp
   refine⟨_,hp1,_,rfl,_,hp1,_,rfl,_,hp1,_,rfl,ke (Is.same s1 _ _ hs) (by have:=hE.s;lia) λD H2 hD s2 hL=>⟨by lia,λt ht=>?_⟩⟩
   exact q2 t D _ (s1.trans (s2.trans (zf ht))) (s1.free hD) ze (hL.same (zf ht))
theorem Z5{l:List Nat}{w:List Nat}(hb:∀n ∈ ns,1<=n/\n<=1000000):0<=Wh l ns w:=by
 unfold Wh
 have key:∀xs:List Int,(∀x ∈ xs,0<=x)->0<=xs.sum:=by
  intro xs
  induction xs with
  | nil=>intro _;simp
  | cons x xs ih =>
   intro h
   rw[bj]
   have h1:=h x aD
   have h2:=ih λy hy=>h y (aw _ hy)
   lia
 refine key _ λx hx=>?_
 obtain⟨p,hp,rfl⟩:=List.mem_map.mp hx
 have h1:=(hb p.2 (db (show (p.1,p.2) ∈ l.zip ns from hp)).2).1
 exact Int.mul_nonneg (by lia) (by lia)
theorem WG{l:List Nat}{u v:List Nat}(hb:∀n ∈ ns,1<=n/\n<=1000000)(h:zK k l ns u v=sG):v≠[]:=by
 intro e
 subst e
 have h0:zk k l ns []=0:=by
  unfold zk
  split
  ·unfold Wh
   have z:∀xs:List (Nat × Int),(xs.map λp=>(([]:List Nat).count p.1:Int) * p.2).sum=0:=by
    intro xs
    induction xs with
    | nil=>rfl
    | cons x xs ih=>rw[az,bj,ih];simp
   exact z _
  ·rfl
 have h1:0<=zk k l ns u:=by
  unfold zk
  split
  ·exact Z5 hb
  ·lia
 have h2:xQ k l []=[]:=by
  unfold xQ yw
  split <;> rfl
 unfold zK at h
 rw[h0,h2] at h
 split at h
 ·cases hr:xQ k l u with
  | nil=>rw[hr] at h;cases h
  | cons a r=>rw[hr] at h;cases h
 ·have:=of_decide_eq_true h
  lia
theorem qw{k:Nat}{l:List Nat}{ns:List Int}(hE:EB l e)(hne:e.1≠e.2.1):zK k l ns (yx k l ns e).2.1 (yx k l ns e).1=sG:=by
 unfold yx
 by_cases h:zK k l ns e.2.1 e.1=sG
 ·rw[if_pos h]
  exact h
 ·rw[if_neg h]
  have:=qv (k:=k) (ns:=ns) hE.ma hE.mb hne
  show zK k l ns e.1 e.2.1=sG
  rw[this]
  simpa using h
noncomputable def qN(k:Nat)(l:List Nat)(ns:List Int)(es:List Ent):List Ent:=(es.filter λe=>!decide (e.1=e.2.1)).map (yx k l ns)
theorem Kb(k:Nat)(l:List Nat)(ns:List Int)(es fs:List Ent):qN k l ns (es ++ fs)=qN k l ns es ++ qN k l ns fs:=by
 unfold qN
 rw[cM,aE]
theorem Ym(k:Nat)(l:List Nat)(ns:List Int)(es:List Ent):(qN k l ns es).length<=es.length:=by
 unfold qN
 rw[af]
 exact cQ _ _
noncomputable def XG(k:Nat)(l:List Nat)(ns:List Int)(a b:Ent):Bool:=if a.1=b.1 then zK k l ns a.2.1 b.2.1 else zK k l ns a.1 b.1
structure Lined(k:Nat)(l:List Nat)(ns:List Int)(es zs:List Ent):Prop where
 perm:zs.Perm (qN k l ns es)
 srt:zs.Pairwise λa b=>XG k l ns b a=sH
structure zV(ps:List zw)(w:List Nat)(i:Nat):Prop where
 live:XV ps w i
 end_:zF (wAt ps w i) ps=sF
 most:i<=40
theorem JJ(ps:List zw)(w:List Nat):(∃i,zV ps w i)\/(XV ps w 40/\zF (wAt ps w 40) ps≠sF):=by
 have key:∀n,n<=41->(∃i,zV ps w i)\/XV ps w n:=by
  intro n
  induction n with
  | zero=>intro _;exact .inr λi h=>absurd h (cz i)
  | succ n ih =>
   intro hn
   rcases ih (by lia) with h | h
   ·exact .inl h
   ·cases e:zF (wAt ps w n) ps with
    | none=>exact .inl ⟨n,h,e,by lia⟩
    | some u =>
     refine .inr λi hi=>?_
     by_cases hin:i=n
     ·rw[hin,e]
      intro z
      cases z
     ·exact h i (by lia)
 rcases key 41 (aq _) with h | h
 ·exact .inl h
 ·exact .inr ⟨λi hi=>h i (by lia),h 40 (by decide)⟩
noncomputable def stS(us:List (Nat × Nat)):List Stp:=us.map λu=>((u.1:Int),(u.2:Int),sG)
noncomputable def yY(bs:List Ent)(e:Ent)(i j:Nat):Ent:=(wAt (zd bs) e.1 i,wAt (zd bs) e.2.1 j,byL bs (yZ (stS (sAt (zd bs) e.1 i))) ++ e.2.2 ++ byL bs (stS (sAt (zd bs) e.2.1 j)))
def ja(e:Ent):Prop:=240<e.2.2.length\/60<e.1.length\/60<e.2.1.length
inductive xF(k:Nat)(l:List Nat)(ns:List Int):List Ent->List Ent->Option (List Ent)->Prop where
 | nil (bs:List Ent):xF k l ns bs [] (sE bs)
 | same {bs es:List Ent} {e:Ent} {i j:Nat} {r:Option (List Ent)} (h1:zV (zd bs) e.1 i) (h2:zV (zd bs) e.2.1 j) (h3:wAt (zd bs) e.1 i=wAt (zd bs) e.2.1 j) (h4:xF k l ns bs es r):xF k l ns bs (e::es) r
 | new {bs es:List Ent} {e:Ent} {i j:Nat} {r:Option (List Ent)} (h1:zV (zd bs) e.1 i) (h2:zV (zd bs) e.2.1 j) (h3:wAt (zd bs) e.1 i≠wAt (zd bs) e.2.1 j) (h4:¬ ja (yY bs e i j)) (h5:xF k l ns (bs ++ [yx k l ns (yY bs e i j)]) es r):xF k l ns bs (e::es) r
 | far {bs es:List Ent} {e:Ent} {i j:Nat} (h1:zV (zd bs) e.1 i) (h2:zV (zd bs) e.2.1 j) (h3:wAt (zd bs) e.1 i≠wAt (zd bs) e.2.1 j) (h4:ja (yY bs e i j)):xF k l ns bs (e::es) sF
 | stuck {bs es:List Ent} {e:Ent} (h:(∀i,¬ zV (zd bs) e.1 i)\/(∀j,¬ zV (zd bs) e.2.1 j)):xF k l ns bs (e::es) sF
inductive ug(k:Nat)(l:List Nat)(ns:List Int):Nat->List Ent->Option (List Ent)->Prop where
 | out (es:List Ent):ug k l ns 0 es sF
 | bad {n:Nat} {es zs:List Ent} (h1:Lined k l ns es zs) (h2:xF k l ns [] zs sF):ug k l ns (n+1) es sF
 | done {n:Nat} {es zs bs:List Ent} (h1:Lined k l ns es zs) (h2:xF k l ns [] zs (sE bs)) (h3:zd bs=zd zs):ug k l ns (n+1) es (sE bs)
 | more {n:Nat} {es zs bs:List Ent} {r:Option (List Ent)} (h1:Lined k l ns es zs) (h2:xF k l ns [] zs (sE bs)) (h3:zd bs≠zd zs) (h4:ug k l ns n bs r):ug k l ns (n+1) es r
theorem xm{w:List Nat}{u:Nat × Nat}(h:zF w ps=sE u):∃p,ps[u.1]? = sE p/\zu w (u.2:Int) p.1=sG:=by
 have hm:u ∈ xI w ps w.length:=eX (by unfold zF at h;rw[h];rfl)
 exact (wC (usesK_mem.mp hm).2).2
theorem uo{l w:List Nat}(hw:∀c ∈ w,c ∈ l)(hp:∀p ∈ ps,∀c ∈ p.2,c ∈ l):∀j,∀c ∈ wAt ps w j,c ∈ l
 | 0=>hw
 | j+1=>by
  have ih:=uo hw hp j
  cases e:zF (wAt ps w j) ps with
  | none =>
   show ∀c ∈ YU ps (wAt ps w j),c ∈ l
   unfold YU
   rw[e]
   exact ih
  | some u =>
   obtain⟨p,h1,h2⟩:=xm e
   rw[we e]
   unfold Z1 yV
   rw[xG h1]
   intro c hc
   rcases List.mem_append.mp hc with hc | hc
   ·rcases List.mem_append.mp hc with hc | hc
    ·exact ih c (br hc)
    ·exact hp p (ae h1) c hc
   ·exact ih c (cj hc)
structure Uk(R:List Nat->List Nat->Prop):Prop where
 refl:∀u,R u u
 symm:∀{u v},R u v->R v u
 trans:∀{u v w},R u v->R v w->R u w
 ctx:∀{u v} (a b:List Nat),R u v->R (a ++ u ++ b) (a ++ v ++ b)
def vp(R:List Nat->List Nat->Prop)(es:List Ent):Prop:=∀e ∈ es,R e.1 e.2.1
theorem JY{R:List Nat->List Nat->Prop}(hR:Uk R)(hk:∀p ∈ ps,R p.1 p.2)(w:List Nat):∀j,R w (wAt ps w j)
 | 0=>hR.refl w
 | j+1=>by
  have ih:=JY hR hk w j
  cases e:zF (wAt ps w j) ps with
  | none =>
   show R w (YU ps (wAt ps w j))
   unfold YU
   rw[e]
   exact ih
  | some u =>
   obtain⟨p,h1,h2⟩:=xm e
   rw[we e]
   refine hR.trans ih ?_
   obtain⟨e1,_⟩:=xt h2
   unfold Z1 yV
   rw[xG h1]
   have:=hR.ctx ((wAt ps w j).take ((u.2:Int)).toNat) ((wAt ps w j).drop (((u.2:Int)).toNat+p.1.length)) (hk p (ae h1))
   rw[e1] at this
   exact this
theorem qE{R:List Nat->List Nat->Prop}(h:vp R bs):∀p ∈ zd bs,R p.1 p.2:=λp hp=>by
 unfold zd at hp
 obtain⟨e,he,rfl⟩:=List.mem_map.mp hp
 exact h e he
theorem wY{R:List Nat->List Nat->Prop}(hR:Uk R){l:List Nat}:R (yx k l ns e).1 (yx k l ns e).2.1 ↔ R e.1 e.2.1:=by
 unfold yx
 split
 ·exact Iff.rfl
 ·exact⟨hR.symm,hR.symm⟩
theorem W9{R:List Nat->List Nat->Prop}(hR:Uk R){i j:Nat}(h:vp R bs):R (wAt (zd bs) e.1 i) (wAt (zd bs) e.2.1 j) ↔ R e.1 e.2.1:=by
 have h1:=JY hR (qE h) e.1 i
 have h2:=JY hR (qE h) e.2.1 j
 exact⟨λx=>hR.trans h1 (hR.trans x (hR.symm h2)),λx=>hR.trans (hR.symm h1) (hR.trans x h2)⟩
theorem VU{R:List Nat->List Nat->Prop}(hR:Uk R){l:List Nat}{bs es:List Ent}{r:Option (List Ent)}(h:xF k l ns bs es r):∀fs,r=sE fs->(vp R fs ↔ vp R bs/\vp R es):=by
 induction h with
 | nil bs =>
  intro fs e
  cases e
  exact⟨λh=>⟨h,λe he=>(nomatch he)⟩,λh=>h.1⟩
 | @same bs es e i j r h1 h2 h3 h4 ih =>
  intro fs er
  rw[ih fs er]
  refine⟨λ⟨a,b⟩=>⟨a,λx hx=>?_⟩,λ⟨a,b⟩=>⟨a,λx hx=>b x (aw _ hx)⟩⟩
  rcases List.mem_cons.mp hx with rfl | hx
  ·refine (W9 hR a (i:=i) (j:=j)).mp ?_
   rw[h3]
   exact hR.refl _
  ·exact b x hx
 | @new bs es e i j r h1 h2 h3 h4 h5 ih =>
  intro fs er
  rw[ih fs er]
  constructor
  ·rintro⟨a,b⟩
   have a':vp R bs:=λx hx=>a x (bn _ hx)
   refine⟨a',λx hx=>?_⟩
   rcases List.mem_cons.mp hx with rfl | hx
   ·have:=a _ (aC bs (List.mem_singleton.mpr rfl))
    exact (W9 hR a' (i:=i) (j:=j)).mp ((wY hR).mp this)
   ·exact b x hx
  ·rintro⟨a,b⟩
   refine⟨λx hx=>?_,λx hx=>b x (aw _ hx)⟩
   rcases List.mem_append.mp hx with hx | hx
   ·exact a x hx
   ·rw[List.mem_singleton.mp hx]
    exact (wY hR).mpr ((W9 hR a (i:=i) (j:=j)).mpr (b e aD))
 | far=>intro fs e;cases e
 | stuck=>intro fs e;cases e
theorem Vk{R:List Nat->List Nat->Prop}(hR:Uk R){l:List Nat}{es zs:List Ent}(h:Lined k l ns es zs):vp R zs ↔ vp R es:=by
 have h1:vp R zs ↔ vp R (qN k l ns es):=⟨λa x hx=>a x (h.perm.mem_iff.mpr hx),λa x hx=>a x (h.perm.mem_iff.mp hx)⟩
 rw[h1]
 unfold qN
 constructor
 ·intro a x hx
  by_cases e:x.1=x.2.1
  ·rw[e]
   exact hR.refl _
  ·exact (wY hR).mp (a _ (List.mem_map.mpr ⟨x,List.mem_filter.mpr ⟨hx,by simpa using e⟩,rfl⟩))
 ·intro a x hx
  obtain⟨y,hy,rfl⟩:=List.mem_map.mp hx
  exact (wY hR).mpr (a y ((List.mem_filter.mp hy).1))
theorem QM{R:List Nat->List Nat->Prop}(hR:Uk R){k n:Nat}{l:List Nat}{r:Option (List Ent)}(h:ug k l ns n es r):∀fs,r=sE fs->(vp R fs ↔ vp R es):=by
 have nilk:vp R []:=λe he=>(nomatch he)
 induction h with
 | out=>intro fs e;cases e
 | bad=>intro fs e;cases e
 | done h1 h2 h3 =>
  intro fs e
  rw[VU hR h2 fs e,Vk hR h1]
  exact⟨λh=>h.2,λh=>⟨nilk,h⟩⟩
 | more h1 h2 h3 h4 ih =>
  intro fs e
  rw[ih fs e,VU hR h2 _ rfl,Vk hR h1]
  exact⟨λh=>h.2,λh=>⟨nilk,h⟩⟩
def Within(p w:List Nat):Prop:=∃a b:List Nat,w=a ++ p ++ b
theorem VG{w p:List Nat}(h:Within p w):∃q:Nat,zu w (q:Int) p=sG:=by
 obtain⟨a,b,rfl⟩:=h
 refine⟨a.length,?_⟩
 unfold zu
 refine decide_eq_true ⟨by lia,by simp only[am];lia,?_⟩
 rw[aO,ax,cw,cD]
theorem Wn{w:List Nat}(hN:NeL ps)(h:zF w ps=sF):∀p ∈ ps,¬ Within p.1 w:=λp hp hw=>by
 obtain⟨q,hq⟩:=VG hw
 obtain⟨j,hj⟩:=List.mem_iff_getElem?.mp hp
 have hlt:=qR (hN p hp) hq
 have hs:stJ w ps q j=sG:=by rw[jB hj];exact hq
 have:(j,q) ∈ xI w ps w.length:=usesK_mem.mpr ⟨hlt,hs⟩
 unfold zF at h
 rw[List.head?_eq_none_iff] at h
 rw[h] at this
 cases this
structure RL(k:Nat)(l:List Nat)(ns:List Int)(bs:List Ent):Prop where
 e:∀e ∈ bs,EB l e
 lt:∀e ∈ bs,zK k l ns e.2.1 e.1=sG
theorem Ur{l:List Nat}{w:List Nat}{u:Nat × Nat}(G:OG l ns k)(hp:∀p ∈ ps,zK k l ns p.2 p.1=sG/\(∀c ∈ p.1,c ∈ l)/\∀c ∈ p.2,c ∈ l)(hw:∀c ∈ w,c ∈ l)(h:zF w ps=sE u):zK k l ns (Z1 w ps u) w=sG:=by
 obtain⟨p,h1,h2⟩:=xm h
 obtain⟨e1,_⟩:=xt h2
 obtain⟨p1,p2,p3⟩:=hp p (ae h1)
 unfold Z1 yV
 rw[xG h1]
 have ha:∀c ∈ w.take ((u.2:Int)).toNat,c ∈ l:=λc hc=>hw c (br hc)
 have hb:∀c ∈ w.drop (((u.2:Int)).toNat+p.1.length),c ∈ l:=λc hc=>hw c (cj hc)
 generalize w.take ((u.2:Int)).toNat=a at *
 generalize w.drop (((u.2:Int)).toNat+p.1.length)=b at *
 rw[<- e1]
 have ap:∀x:List Nat,(∀c ∈ x,c ∈ l)->∀c ∈ a ++ x,c ∈ l:=λx hx c hc=>(List.mem_append.mp hc).elim (ha c) (hx c)
 rw[(vF G hb (ap p.2 p3) (ap p.1 p2)).2,(vF G ha p3 p2).1]
 exact p1
theorem QP{l:List Nat}{w:List Nat}(G:OG l ns k)(hp:∀p ∈ ps,zK k l ns p.2 p.1=sG/\(∀c ∈ p.1,c ∈ l)/\∀c ∈ p.2,c ∈ l)(hw:∀c ∈ w,c ∈ l):∀j,wAt ps w j=w\/zK k l ns (wAt ps w j) w=sG
 | 0=>.inl rfl
 | j+1=>by
  have ih:=QP G hp hw j
  have hm:=uo hw (λp hp'=>(hp p hp').2.2) j
  cases e:zF (wAt ps w j) ps with
  | none =>
   show YU ps (wAt ps w j)=w\/zK k l ns (YU ps (wAt ps w j)) w=sG
   unfold YU
   rw[e]
   exact ih
  | some u =>
   rw[we e]
   have h:=Ur G hp hm e
   rcases ih with h' | h'
   ·rw[h'] at h ⊢
    exact .inr h
   ·exact .inr (yI h h')
theorem RL.pairs{l:List Nat}(h:RL k l ns bs):∀p ∈ zd bs,zK k l ns p.2 p.1=sG/\(∀c ∈ p.1,c ∈ l)/\∀c ∈ p.2,c ∈ l:=λp hp=>by
 unfold zd at hp
 obtain⟨e,he,rfl⟩:=List.mem_map.mp hp
 exact⟨h.lt e he,(h.e e he).ma,(h.e e he).mb⟩
theorem RL.ne{l:List Nat}(h:RL k l ns bs)(G:OG l ns k):NeL (zd bs):=λp hp=>WG G.nb (h.pairs p hp).1
theorem RL.snoc{l:List Nat}{d:Ent}(h:RL k l ns bs)(hd:EB l d)(hne:d.1≠d.2.1):RL k l ns (bs ++ [yx k l ns d]):=by
 refine⟨λe he=>?_,λe he=>?_⟩
 ·rcases List.mem_append.mp he with he | he
  ·exact h.e e he
  ·rw[List.mem_singleton.mp he]
   exact hd.rule
 ·rcases List.mem_append.mp he with he | he
  ·exact h.lt e he
  ·rw[List.mem_singleton.mp he]
   exact qw hd hne
theorem JA{l:List Nat}{i j:Nat}(hB:RL k l ns bs)(hE:EB l e)(hF:¬ ja (yY bs e i j)):EB l (yY bs e i j):=by
 unfold ja at hF
 exact⟨by lia,by lia,by lia,uo hE.ma (λp hp=>(hB.pairs p hp).2.2) i,uo hE.mb (λp hp=>(hB.pairs p hp).2.2) j⟩
theorem Wd{l:List Nat}{i j:Nat}(G:OG l ns k)(hB:RL k l ns bs)(hE:EB l e)(hlt:zK k l ns e.2.1 e.1=sG)(h1:zV (zd bs) e.1 i)(h2:zV (zd bs) e.2.1 j)
  (hp1:(yx k l ns (yY bs e i j)).1=e.1) (hp2:(yx k l ns (yY bs e i j)).2.1=e.2.1):zF e.1 (zd bs)=sF/\zF e.2.1 (zd bs)=sF:=by
 unfold yx at hp1 hp2
 by_cases h:zK k l ns (yY bs e i j).2.1 (yY bs e i j).1=sG
 ·rw[if_pos h] at hp1 hp2
  have a1:wAt (zd bs) e.1 i=e.1:=hp1
  have a2:wAt (zd bs) e.2.1 j=e.2.1:=hp2
  have b1:=h1.end_
  have b2:=h2.end_
  rw[a1] at b1
  rw[a2] at b2
  exact⟨b1,b2⟩
 ·rw[if_neg h] at hp1 hp2
  have a1:wAt (zd bs) e.2.1 j=e.1:=hp1
  rcases QP G hB.pairs hE.mb j with h' | h'
  ·rw[a1] at h'
   rw[h',ya] at hlt
   cases hlt
  ·rw[a1] at h'
   rw[Yd h'] at hlt
   cases hlt
theorem jJ{l:List Nat}(G:OG l ns k){bs es:List Ent}{r:Option (List Ent)}(h:xF k l ns bs es r):∀fs,r=sE fs->RL k l ns bs->RL k l ns es->∃gs,fs=bs ++ gs/\gs.length<=es.length/\RL k l ns fs /\
  (zd gs=zd es->∀i e,es[i]? = sE e->zF e.1 (zd (bs ++ gs.take i))=sF/\zF e.2.1 (zd (bs ++ gs.take i))=sF):=by
 induction h with
 | nil bs =>
  intro fs er hb he
  cases er
  exact⟨[],by simp,aq _,hb,λ_ i e h=>by simp at h⟩
 | @same bs es e i j r h1 h2 h3 h4 ih =>
  intro fs er hb he
  obtain⟨gs,g1,g2,g3,g4⟩:=ih fs er hb ⟨λx hx=>he.e x (aw _ hx),λx hx=>he.lt x (aw _ hx)⟩
  refine⟨gs,g1,by rw[aM];lia,g3,λhp=>?_⟩
  have:=congrArg eN hp
  unfold zd at this
  rw[af,af,aM] at this
  lia
 | @new bs es e i j r h1 h2 h3 h4 h5 ih =>
  intro fs er hb he
  have hEe:=he.e e aD
  have hd:=JA hb hEe h4
  obtain⟨gs,g1,g2,g3,g4⟩:=ih fs er (hb.snoc hd h3) ⟨λx hx=>he.e x (aw _ hx),λx hx=>he.lt x (aw _ hx)⟩
  refine⟨yx k l ns (yY bs e i j)::gs,by rw[g1,ax];rfl,by rw[aM,aM];lia,g3,λhp n x hx=>?_⟩
  unfold zd at hp
  rw[az,az] at hp
  injection hp with hp1 hp2
  have hp1a:=(Prod.ext_iff.mp hp1).1
  have hp1b:=(Prod.ext_iff.mp hp1).2
  cases n with
  | zero =>
   have e0:e=x:=by simpa using hx
   subst e0
   rw[bI,aV]
   exact Wd G hb hEe (he.lt _ aD) h1 h2 hp1a hp1b
  | succ n =>
   have:=g4 hp2 n x (by simpa using hx)
   rw[ax] at this
   rw[dM]
   exact this
 | far=>intro fs e;cases e
 | stuck=>intro fs e;cases e
theorem uE{l:List Nat}(G:OG l ns k){p w:List Nat}(hw:∀c ∈ w,c ∈ l)(h:Within p w):p=w\/zK k l ns p w=sG:=by
 obtain⟨a,b,rfl⟩:=h
 by_cases e:a ++ p ++ b=p
 ·exact .inl e.symm
 ·refine .inr (YC G (λc hc=>hw c ?_) (λc hc=>hw c ?_) (λc hc=>hw c ?_) e).1
  ·exact bn _ (bn _ hc)
  ·exact bn _ (aC _ hc)
  ·exact aC _ hc
structure ThinL(k:Nat)(l:List Nat)(ns:List Int)(zs:List Ent):Prop where
 rl:RL k l ns zs
 up:∀(i j:Nat) (a b:Ent),zs[i]? = sE a->zs[j]? = sE b->i<j->zK k l ns a.1 b.1=sG
 no1:∀(i j:Nat) (a b:Ent),zs[i]? = sE a->zs[j]? = sE b->i≠j->¬ Within b.1 a.1
 no2:∀(i j:Nat) (a b:Ent),zs[i]? = sE a->zs[j]? = sE b->¬ Within b.1 a.2.1
theorem Kk{k:Nat}{l:List Nat}{ns:List Int}(G:OG l ns k){zs bs:List Ent}(hz:RL k l ns zs)(hs:zs.Pairwise λa b=>XG k l ns b a=sH)(h:xF k l ns [] zs (sE bs))(hp:zd bs=zd zs):ThinL k l ns zs:=by
 obtain⟨gs,g1,g2,g3,g4⟩:=jJ G h bs rfl ⟨λe he=>(nomatch he),λe he=>(nomatch he)⟩ hz
 rw[bA] at g1
 subst g1
 have irr:=g4 hp
 simp only[bA] at irr
 have early:∀(i j:Nat) (a b:Ent),zs[i]? = sE a->zs[j]? = sE b->j<i->¬ Within b.1 a.1/\¬ Within b.1 a.2.1:=λi j a b ha hb hj=>by
  have hm:(b.1,b.2.1) ∈ zd (bs.take i):=by
   have e1:zd (bs.take i)=(zd zs).take i:=by
    rw[<- hp]
    unfold zd
    rw[List.map_take]
   rw[e1]
   refine List.mem_iff_getElem?.mpr ⟨j,?_⟩
   rw[bv hj]
   unfold zd
   rw[aH,hb]
   rfl
  have hN:NeL (zd (bs.take i)):=λp hp'=>by
   refine (g3.ne G) p ?_
   unfold zd at hp' ⊢
   obtain⟨x,hx,rfl⟩:=List.mem_map.mp hp'
   exact List.mem_map.mpr ⟨x,br hx,rfl⟩
  obtain⟨f1,f2⟩:=irr i a ha
  exact⟨Wn hN f1 _ hm,Wn hN f2 _ hm⟩
 have later:∀(i j:Nat) (a b:Ent),zs[i]? = sE a->zs[j]? = sE b->i<j->zK k l ns b.1 a.1=sH:=λi j a b ha hb hij=>by
  have hi:=(List.getElem?_eq_some_iff.mp ha)
  have hj:=(List.getElem?_eq_some_iff.mp hb)
  have:=List.pairwise_iff_getElem.mp hs i j hi.1 hj.1 hij
  rw[hi.2,hj.2] at this
  unfold XG at this
  by_cases e:b.1=a.1
  ·rw[e,ya]
  ·rw[if_neg e] at this
   exact this
 have memz:∀{i:Nat} {a:Ent},zs[i]? = sE a->EB l a/\zK k l ns a.2.1 a.1=sG:=λ{i a} ha=>⟨hz.e _ (ae ha),hz.lt _ (ae ha)⟩
 have up:∀(i j:Nat) (a b:Ent),zs[i]? = sE a->zs[j]? = sE b->i<j->zK k l ns a.1 b.1=sG:=λi j a b ha hb hij=>by
  have hne:a.1≠b.1:=λe=>(early j i b a hb ha hij).1 ⟨[],[],by rw[e];simp⟩
  have t:=qv (k:=k) (ns:=ns) (memz ha).1.ma (memz hb).1.ma hne
  rw[later i j a b ha hb hij] at t
  simpa using t
 refine⟨hz,up,λi j a b ha hb hij=>?_,λi j a b ha hb hw=>?_⟩
 ·rcases Nat.lt_or_gt_of_ne hij with h1 | h1
  ·intro hw
   rcases uE G (memz ha).1.ma hw with e | e
   ·have:=up i j a b ha hb h1
    rw[e,ya] at this
    cases this
   ·rw[later i j a b ha hb h1] at e
    cases e
  ·exact (early i j a b ha hb h1).1
 ·have hle:zK k l ns b.1 a.1=sG:=by
   rcases uE G (memz ha).1.mb hw with e | e
   ·rw[e]
    exact (memz ha).2
   ·exact yI e (memz ha).2
  rcases d4 i j with h1 | h1 | h1
  ·rw[later i j a b ha hb h1] at hle
   cases hle
  ·subst h1
   rw[ha] at hb
   cases hb
   rw[ya] at hle
   cases hle
  ·exact (early i j a b ha hb h1).2 hw
theorem kH{w:List Nat}:∀{i:Nat},XV ps w i->yW ps w (stS (sAt ps w i))=sE (wAt ps w i)
 | 0,_=>rfl
 | i+1,h=>by
  have ih:=kH (i:=i) λj hj=>h j (by lia)
  have hne:=h i (by lia)
  cases e:zF (wAt ps w i) ps with
  | none=>exact absurd e hne
  | some u =>
   rw[Xt,we e,e]
   unfold stS at ih ⊢
   rw[aE]
   refine Zk ih ?_
   obtain⟨p,h1,h2⟩:=xm e
   have hl:=(List.getElem?_eq_some_iff.mp h1).1
   show yH ps (wAt ps w i) ((u.1:Int),(u.2:Int),sG)=_
   rw[xj (by show (0:Int)<=(u.1:Int)/\(u.1:Int)<ps.length;lia)]
   have e2:ps.getD ((u.1:Int)).toNat ([],[])=p:=by rw[aO,ac,h1];rfl
   show (if zu (wAt ps w i) (u.2:Int) (sdl (ps.getD ((u.1:Int)).toNat ([],[])) sG).1=sG then _ else sF)=_
   rw[e2,if_pos (show zu (wAt ps w i) (u.2:Int) (sdl p sG).1=sG from h2)]
   unfold Z1
   rw[xG h1]
   rfl
theorem Vt{l:List Nat}(h:EOk rs e):EOk rs (yx k l ns e):=by
 unfold yx
 split
 ·exact h
 ·exact vO h
theorem KP{i j:Nat}(hb:∀e ∈ bs,EOk rs e)(he:EOk rs e)(h1:zV (zd bs) e.1 i)(h2:zV (zd bs) e.2.1 j):EOk rs (yY bs e i j):=by
 have w1:=jO hb (vO (kH h1.live))
 have w2:=jO hb (kH h2.live)
 have he':yW rs e.1 e.2.2=sE e.2.1:=he
 show yW rs (wAt (zd bs) e.1 i) (byL bs (yZ (stS (sAt (zd bs) e.1 i))) ++ e.2.2 ++ byL bs (stS (sAt (zd bs) e.2.1 j)))=sE (wAt (zd bs) e.2.1 j)
 rw[vQ,vQ,w1,cr,he',cr]
 exact w2
theorem YX{l:List Nat}{bs es:List Ent}{r:Option (List Ent)}(h:xF k l ns bs es r):∀fs,r=sE fs->(∀e ∈ bs,EOk rs e)->(∀e ∈ es,EOk rs e)->∀e ∈ fs,EOk rs e:=by
 induction h with
 | nil bs=>intro fs er hb _;cases er;exact hb
 | @same bs es e i j r h1 h2 h3 h4 ih=>intro fs er hb he;exact ih fs er hb λx hx=>he x (aw _ hx)
 | @new bs es e i j r h1 h2 h3 h4 h5 ih =>
  intro fs er hb he
  refine ih fs er (λx hx=>?_) λx hx=>he x (aw _ hx)
  rcases List.mem_append.mp hx with hx | hx
  ·exact hb x hx
  ·rw[List.mem_singleton.mp hx]
   exact Vt (KP hb (he e aD) h1 h2)
 | far=>intro fs e;cases e
 | stuck=>intro fs e;cases e
theorem YS{l:List Nat}{es zs:List Ent}(h:Lined k l ns es zs)(he:∀e ∈ es,EOk rs e):∀e ∈ zs,EOk rs e:=λe hz=>by
 have hm:=h.perm.mem_iff.mp hz
 unfold qN at hm
 obtain⟨y,hy,rfl⟩:=List.mem_map.mp hm
 exact Vt (he y (List.mem_filter.mp hy).1)
theorem Xh{l:List Nat}{es zs:List Ent}(h:Lined k l ns es zs)(he:∀e ∈ es,EB l e):RL k l ns zs:=by
 have key:∀e ∈ zs,∃y,EB l y/\y.1≠y.2.1/\e=yx k l ns y:=λe hz=>by
  have hm:=h.perm.mem_iff.mp hz
  unfold qN at hm
  obtain⟨y,hy,rfl⟩:=List.mem_map.mp hm
  obtain⟨h1,h2⟩:=List.mem_filter.mp hy
  exact⟨y,he y h1,by simpa using h2,rfl⟩
 refine⟨λe hz=>?_,λe hz=>?_⟩
 ·obtain⟨y,h1,_,rfl⟩:=key e hz
  exact h1.rule
 ·obtain⟨y,h1,h2,rfl⟩:=key e hz
  exact qw h1 h2
theorem U0{l:List Nat}(G:OG l ns k){zs bs:List Ent}(hz:RL k l ns zs)(h:xF k l ns [] zs (sE bs)):RL k l ns bs:=by
 obtain⟨gs,g1,g2,g3,g4⟩:=jJ G h bs rfl ⟨λe he=>(nomatch he),λe he=>(nomatch he)⟩ hz
 exact g3
theorem Xu{k n:Nat}{l:List Nat}(G:OG l ns k){r:Option (List Ent)}(h:ug k l ns n es r):∀fs,r=sE fs->(∀e ∈ es,EB l e)->(∀e ∈ es,EOk rs e)->(∀e ∈ fs,EOk rs e)/\∃zs,ThinL k l ns zs/\zd fs=zd zs:=by
 induction h with
 | out=>intro fs e;cases e
 | bad=>intro fs e;cases e
 | @done n es zs bs h1 h2 h3 =>
  intro fs er he ho
  cases er
  have hz:=Xh h1 he
  exact⟨YX h2 bs rfl (λe h=>(nomatch h)) (YS h1 ho),zs,Kk G hz h1.srt h2 h3,h3⟩
 | @more n es zs bs r h1 h2 h3 h4 ih =>
  intro fs er he ho
  have hz:=Xh h1 he
  exact ih fs er (U0 G hz h2).e (YX h2 bs rfl (λe h=>(nomatch h)) (YS h1 ho))
noncomputable def rankF:KeyFam (Int × List Int):=⟨λr=>[.int r.1,.lst (r.2.map L3.D.int)],λa b=>if a.1=b.1 then ltI a.2 b.2 else decide (a.1<b.1),sG,(0,[])⟩
theorem UF{x y:List Int}(h:ltI x y=sG):ltI y x=sH:=by
 by_cases e:x=y
 ·subst e
  rw[xz] at h
  cases h
 ·have:=wQ e
  rw[h] at this
  simpa using this.symm
theorem Kd{x y z:List Int}(h1:ltI y x=sH)(h2:ltI z y=sH):ltI z x=sH:=by
 cases h:ltI z x with
 | false=>rfl
 | true =>
  by_cases e:y=x
  ·subst e
   rw[h2] at h
   cases h
  ·have h3:=wQ e
   rw[h1] at h3
   have h4:ltI x y=sG:=by simpa using h3.symm
   rw[qt h h4] at h2
   cases h2
theorem rankF_ok:rankF.Ok where
 w:=⟨λa b h=>by
   simp only[rankF] at h ⊢
   by_cases e:a.1=b.1
   ·rw[if_pos e] at h
    rw[if_pos e.symm]
    exact UF h
   ·rw[if_neg e] at h
    rw[if_neg (λz=>e z.symm)]
    have:=of_decide_eq_true h
    exact decide_eq_false (by lia),
  λa b c h1 h2=>by
   simp only[rankF] at h1 h2 ⊢
   by_cases e:b.1=a.1
   ·rw[if_pos e] at h1
    rw[e] at h2
    by_cases f:c.1=a.1
    ·rw[if_pos f] at h2 ⊢
     exact Kd h1 h2
    ·rw[if_neg f] at h2 ⊢
     exact h2
   ·rw[if_neg e] at h1
    have h1':=of_decide_eq_false h1
    by_cases f:c.1=b.1
    ·rw[if_neg (by lia)]
     exact decide_eq_false (by lia)
    ·rw[if_neg f] at h2
     have h2':=of_decide_eq_false h2
     rw[if_neg (by lia)]
     exact decide_eq_false (by lia)⟩
 eq:=λa b=>by
  have:=YA a.1 b.1 a.2 b.2
  simp only[ltD] at this
  exact this
 ok:=λa b=>by simp only[rankF,jk,okD];exact⟨trivial,vJ _ _,trivial⟩
 dp:=λa=>by simp only[rankF,dpD,uK,j3];decide
 sh:=λa=>⟨_,_,rfl,.inl ⟨rfl,_,rfl⟩⟩
noncomputable def KY(k:Nat)(l:List Nat)(ns:List Int)(w:List Nat):Int × List Int:=(zk k l ns w,xQ k l w)
theorem YI{d:L3.D}{v:V}:∀{ds:List L3.D} {vs:List V},Iss K H ds vs->Is K H d v->Iss K H (ds ++ [d]) (vs ++ [v])
 | [],vs,h,hv=>by
  simp only[Iss] at h
  subst h
  simp only[bA,Iss]
  exact⟨v,[],rfl,hv,rfl⟩
 | e::ds,vs,h,hv=>by
  simp only[Iss] at h
  obtain⟨x,r,rfl,hx,hr⟩:=h
  simp only[bE,Iss]
  exact⟨x,r ++ [v],rfl,hx,YI hr hv⟩
theorem OrdAt.samT{T CO CR CW:oP}{H H':Hp}{ps:Array oQ}{o:oP}{l:List Nat}(h:OrdAt CO CR CW H o k l ns)(s:SamT T H H')(hT:H T=sE (.tbl ps)):OrdAt CO CR CW H' o k l ns:=by
 obtain⟨dx,⟨h1,h2⟩ | ⟨h1,h2⟩ | ⟨h1,h2,w,h3,h4⟩⟩:=h
 ·exact⟨dx,.inl ⟨h1,s.at hT h2 λ_ z=>by cases z⟩⟩
 ·exact⟨dx,.inr (.inl ⟨h1,s.at hT h2 λ_ z=>by cases z⟩)⟩
 ·exact⟨dx,.inr (.inr ⟨h1,h2,w,s.at hT h3 (λ_ z=>by cases z),s.at hT h4 λ_ z=>by cases z⟩)⟩
theorem EnsA.samT{T:oP}{H H':Hp}{ps:Array oQ}(s:SamT T H H')(hT:H T=sE (.tbl ps)):∀{es:List Ent} {vs:List V},EnsA K H es vs->EnsA K H' es vs
 | [],vs,h=>by simp only[EnsA] at h ⊢;exact h
 | e::es,vs,h=>by
  simp only[EnsA] at h ⊢
  obtain⟨v,r,e0,⟨p,s',e1,h1,h2⟩,h3⟩:=h
  exact⟨v,r,e0,⟨p,s',e1,s.seqT hT h1,h2.samT s hT⟩,EnsA.samT s hT h3⟩
theorem Yb{a b:Int × List Int}(h:a≠b):rankF.lt a b=!rankF.lt b a:=by
 simp only[rankF]
 by_cases e:a.1=b.1
 ·rw[if_pos e,if_pos e.symm]
  exact wQ λq=>h (Prod.ext e q)
 ·rw[if_neg e,if_neg λq=>e q.symm]
  by_cases c:a.1<b.1
  ·rw[decide_eq_true c,decide_eq_false (by lia)]
   rfl
  ·rw[decide_eq_false c,decide_eq_true (by lia)]
   rfl
theorem Wp(a b:Int × List Int):eqD (.tup (rankF.dec a)) (.tup (rankF.dec b))=decide (a=b):=by
 obtain⟨a1,a2⟩:=a
 obtain⟨b1,b2⟩:=b
 simp only[rankF,eqD,jc,ZW]
 by_cases h:a1=b1
 ·by_cases h2:a2=b2
  ·simp [h,h2]
  ·simp [h,h2]
 ·simp [h]
theorem YR(a b:Int × List Int):ltD (.tup (rankF.dec a)) (.tup (rankF.dec b))=rankF.lt a b:=by
 simp only[ltD]
 exact rankF_ok.eq a b
theorem Zi(a:Int × List Int):rankF.lt a a=sH:=by
 simp only[rankF]
 rw[if_pos trivial]
 exact xz _
noncomputable def pairF:KeyFam ((Int × List Int) × (Int × List Int)):=⟨λr=>[.tup (rankF.dec r.1),.tup (rankF.dec r.2)],λa b=>if a.1=b.1 then rankF.lt a.2 b.2 else rankF.lt a.1 b.1,sH,((0,[]),(0,[]))⟩
theorem uY(a b:(Int × List Int) × (Int × List Int)):pairF.lt a b=if a.1=b.1 then rankF.lt a.2 b.2 else rankF.lt a.1 b.1:=rfl
theorem Uv:pairF.Ok where
 w:=⟨λa b h=>by
   rw[uY] at h ⊢
   by_cases e:a.1=b.1
   ·rw[if_pos e] at h
    rw[if_pos e.symm]
    exact rankF_ok.w.asym _ _ h
   ·rw[if_neg e] at h
    rw[if_neg λq=>e q.symm]
    exact rankF_ok.w.asym _ _ h,
  λa b c h1 h2=>by
   rw[uY] at h1 h2 ⊢
   by_cases e:b.1=a.1
   ·rw[if_pos e] at h1
    rw[e] at h2
    by_cases f:c.1=a.1
    ·rw[if_pos f] at h2 ⊢
     exact rankF_ok.w.ntr _ _ _ h1 h2
    ·rw[if_neg f] at h2 ⊢
     exact h2
   ·rw[if_neg e] at h1
    by_cases g:c.1=b.1
    ·rw[g,if_neg e]
     exact h1
    ·rw[if_neg g] at h2
     by_cases f:c.1=a.1
     ·rw[f] at h2
      have:=Yb (a:=b.1) (b:=a.1) e
      rw[h1,h2] at this
      cases this
     ·rw[if_neg f]
      exact rankF_ok.w.ntr _ _ _ h1 h2⟩
 eq:=λa b=>by
  show v0 [.tup (rankF.dec a.1),.tup (rankF.dec a.2)] [.tup (rankF.dec b.1),.tup (rankF.dec b.2)]=_
  rw[uY,v0,Wp,v0,Wp,YR,YR,v0]
  by_cases e:a.1=b.1
  ·rw[if_pos (decide_eq_true e),if_pos e]
   by_cases f:a.2=b.2
   ·rw[if_pos (decide_eq_true f),f,Zi]
   ·rw[if_neg (by simpa using f)]
  ·rw[if_neg (by simpa using e),if_neg e]
 ok:=λa b=>by
  show jk [.tup (rankF.dec a.1),.tup (rankF.dec a.2)] [.tup (rankF.dec b.1),.tup (rankF.dec b.2)]
  simp only[jk,okD]
  exact⟨rankF_ok.ok _ _,rankF_ok.ok _ _,trivial⟩
 dp:=λa=>by simp only[pairF,rankF,dpD,uK,j3];decide
 sh:=λa=>⟨_,_,rfl,.inr ⟨rfl,_,rfl⟩⟩
noncomputable def rkE(k:Nat)(l:List Nat)(ns:List Int)(e:Ent):(Int × List Int) × (Int × List Int):=(KY k l ns e.1,KY k l ns e.2.1)
theorem zaP{l:List Nat}{u v:List Nat}(hu:∀c ∈ u,c ∈ l)(hv:∀c ∈ v,c ∈ l):KY k l ns u=KY k l ns v ↔ u=v :=
 ⟨λh=>Xb hu hv (Prod.ext_iff.mp h).2,λh=>by rw[h]⟩
theorem Jm{l:List Nat}{a b:Ent}(ha:EB l a)(hb:EB l b):pairF.lt (rkE k l ns a) (rkE k l ns b)=XG k l ns a b:=by
 rw[uY]
 unfold XG
 have h:(rkE k l ns a).1=(rkE k l ns b).1 ↔ a.1=b.1:=zaP ha.ma hb.ma
 by_cases e:a.1=b.1
 ·rw[if_pos (h.mpr e),if_pos e]
  rfl
 ·rw[if_neg λq=>e (h.mp q),if_neg e]
  rfl
theorem ZI{α β:Type}(g:α->β){us ys:List β}(h:us.Perm ys):∀ts:List α,us=ts.map g->∃ts':List α,ts'.Perm ts/\ys=ts'.map g:=by
 induction h with
 | nil =>
  intro ts e
  exact⟨ts,List.Perm.refl _,e⟩
 | @cons x us ys _ ih =>
  intro ts e
  match ts,e with
  | t::ts,e =>
   rw[az] at e
   injection e with e1 e2
   obtain⟨ts',p,rfl⟩:=ih ts e2
   exact⟨t::ts',p.cons t,by rw[e1];rfl⟩
 | swap x y us =>
  intro ts e
  match ts,e with
  | t::t2::ts,e =>
   rw[az,az] at e
   injection e with e1 e2
   injection e2 with e2 e3
   exact⟨t2::t::ts,List.Perm.swap t t2 ts,by rw[e1,e2,e3];rfl⟩
 | trans _ _ ih1 ih2 =>
  intro ts e
  obtain⟨ts',p1,e1⟩:=ih1 ts e
  obtain⟨ts'',p2,e2⟩:=ih2 ts' e1
  exact⟨ts'',p2.trans p1,e2⟩
theorem VJ:∀{es:List Ent} {vs:List V},EnsA K H es vs->∀t ∈ es.zip vs,EnA K H t.1 t.2
 | [],_,_,t,ht=>by simp at ht
 | e::es,vs,h,t,ht=>by
  simp only[EnsA] at h
  obtain⟨v,r,rfl,h1,h2⟩:=h
  rw[di] at ht
  rcases List.mem_cons.mp ht with rfl | ht
  ·exact h1
  ·exact VJ h2 t ht
theorem QX:∀{ts:List (Ent × V)},(∀t ∈ ts,EnA K H t.1 t.2)->EnsA K H (ts.map (·.1)) (ts.map (·.2))
 | [],_=>by simp only[aP,EnsA]
 | t::ts,h=>by
  simp only[az,EnsA]
  exact⟨_,_,rfl,h t aD,QX λu hu=>h u (aw _ hu)⟩
theorem Yt{l:List Nat}{vs:List V}{ys:List (((Int × List Int) × (Int × List Int)) × V)}(hI:EnsA K H es vs)(hE:∀e ∈ es,EB l e)(h1:ys.Perm ((es.map (rkE k l ns)).zip vs))(h2:ys.Pairwise λp q=>pairF.lt q.1 p.1=sH) :
  ∃zs:List Ent,zs.Perm es/\zs.Pairwise (λa b=>XG k l ns b a=sH)/\EnsA K H zs (ys.map (·.2)):=by
 have hl:=hI.len
 have e0:(es.map (rkE k l ns)).zip vs=(es.zip vs).map λt=>(rkE k l ns t.1,t.2):=by
  rw[List.zip_map_left]
  rfl
 obtain⟨ts,p,rfl⟩:=ZI (λt:Ent × V=>(rkE k l ns t.1,t.2)) h1.symm (es.zip vs) e0
 have hm:∀t ∈ ts,t.1 ∈ es:=λt ht=>(db (show (t.1,t.2) ∈ es.zip vs from p.mem_iff.mp ht)).1
 refine⟨ts.map (·.1),?_,?_,?_⟩
 ·have:=p.map (·.1)
  rw[List.map_fst_zip (by lia)] at this
  exact this
 ·rw[List.pairwise_map] at h2 ⊢
  refine h2.imp_of_mem λ{a b} ha hb h=>?_
  rw[<- Jm (hE _ (hm _ hb)) (hE _ (hm _ ha))]
  exact h
 ·have e1:(ts.map λt=>(rkE k l ns t.1,t.2)).map (·.2)=ts.map (·.2):=by
   rw[dD]
   rfl
  rw[e1]
  exact QX λt ht=>VJ hI t (p.mem_iff.mp ht)
def tbE(K:oO)(CO CR CW:oP):TE:=UN (zN (zA (zaD CO CR CW) "rank" (λ_=>qK CO CR CW) [] E0 (yS 1) (zN (tOp (qI K) (yS 0) (tC (.int 0))) ww)) (zN (zA (zaD CO CR CW) "rank" (λ_=>qK CO CR CW) [] E0 (yS 1) (zN (tOp (qI K) (yS 0) (tC (.int 1))) ww)) ww))
theorem zan{CO CR CW o p s:oP}{l:List Nat}(hG:OG l ns k)(ho:OrdAt CO CR CW H o k l ns)(hE:EB l e)(hp:SqT K H p [.str (tx e.1),.str (tx e.2.1),.ref s])(q:∀(t:oP) (H':Hp),Same H H'->Is K H' (.tup (pairF.dec (rkE k l ns e))) (.ref t)->Q (.ref t) H'):tbE K CO CR CW [sE (.ref p),sE (.ref o)] H Q:=by
 have s16:=yk
 obtain⟨C,dx,fs,hf,ho1,hn,_⟩:=ho.fam
 have h1:fs.lookup ("rank" : oW)=sF:=hn _ (by decide) (by decide)
 unfold tbE
 ac_rfl
 refine⟨C,hf,dx,fs,ho1,h1,_,hp,_,rfl,o,k,l,ns,e.1,rfl,ho,hG,by have:=hE.a;lia,hE.ma,λp1 q1 H1 s1 hp1 hq1=>⟨C,hf,dx,fs,s1 _ _ ho1,h1,_,zm s1 hp,_,rfl,o,k,l,ns,e.2.1,rfl,ho.same s1,hG,by have:=hE.b;lia,hE.mb,λp2 q2 H2 s2 hp2 hq2=>⟨by lia,λt ht=>?_⟩⟩⟩
 refine q t _ (s1.trans (s2.trans (zf (o:=.tup [.ref p1,.ref p2]) ht))) ?_
 show Is K _ (.tup [.tup (rankF.dec (KY k l ns e.1)),.tup (rankF.dec (KY k l ns e.2.1))]) (.ref t)
 refine Is.tup ht ?_
 simp only[Iss]
 exact⟨_,_,rfl,ue (s2 _ _ hp1) (s2 _ _ hq1),_,_,rfl,ue hp2 hq2,rfl⟩
theorem QY{CO CR CW o:oP}{l:List Nat}{LA:Hp->Prop}{Qf:List V->Hp->Prop}(hG:OG l ns k)(hLA:∀H H',LA H->Same H H'->LA H'):∀(es:List Ent) (vs sK:List V) (rs:List ((Int × List Int) × (Int × List Int))) (H:Hp),LA H->OrdAt CO CR CW H o k l ns->(∀e ∈ es,EB l e)->EnsA K H es vs ->
  Iss K H (rs.map λa=>.tup (pairF.dec a)) sK->(∀acc' H',Same H H'->Iss K H' ((rs ++ es.map (rkE k l ns)).map λa=>.tup (pairF.dec a)) acc'->Qf acc' H')->uD (λx H Q=>LA H/\tbE K CO CR CW [sE x,sE (.ref o)] H Q) vs sK H Qf
 | [],vs,sK,rs,H,hL,ho,hw,hV,hI,h=>by
  simp only[EnsA] at hV
  subst hV
  exact h sK H (Same.refl _) (by simpa using hI)
 | e::es,vs,sK,rs,H,hL,ho,hw,hV,hI,h=>by
  have s16:=yk
  simp only[EnsA] at hV
  obtain⟨v,r,rfl,⟨p,s,rfl,hp,_⟩,hV⟩:=hV
  refine⟨hL,zan hG ho (hw e aD) hp λt H' s3 hIs=>?_⟩
  refine QY hG hLA es r (sK ++ [.ref t]) (rs ++ [rkE k l ns e]) _ (hLA _ _ hL s3) (ho.same s3) (λx hx=>hw x (aw _ hx)) (hV.same s3) ?_ λacc' H' s' hI'=>h acc' H' (s3.trans s') (by simpa using hI')
  rw[aE]
  exact YI (Iss.same s3 _ _ hI) hIs
noncomputable def zaM:oZ->pR
 | .Lambda _ _ _ p=>p
 | _=>default
noncomputable def zdl:List pf->pR
 | _::.Return (sE (.Call _ _ (k::_) _)) _::_=>zaM k.value
 | _=>default
noncomputable def lp:pR:=zdl (zl yP)
noncomputable def lq:oW:="in_order.<locals>.<lambda>"
def qb(K:oO)(CO CR CW T:oP):Sp:=λvs H Q _=>∃(o a:oP) (k:Nat) (l:List Nat) (ns:List Int) (es:List Ent),vs=[.ref o,.ref a]/\OrdAt CO CR CW H o k l ns/\OG l ns k/\EnsL K H a es/\es.length<64/\(∀e ∈ es,EB l e)/\TabOk H T lp lq /\
 ∀(D:oP) (zs:List Ent) (H':Hp),SamT T H H'->TabOk H' T lp lq->H D=sF->Lined k l ns es zs->EnsM K H' D zs->Q (.ref D) H'
theorem Wo{CO CR CW T o a:oP}{l:List Nat}(h1:OrdAt CO CR CW H o k l ns)(h2:OG l ns k)(h3:EnsL K H a es)(h4:es.length<64)(h5:∀e ∈ es,EB l e)(h6:TabOk H T lp lq)
  (h:∀(D:oP) (zs:List Ent) (H':Hp),SamT T H H'->TabOk H' T lp lq->H D=sF->Lined k l ns es zs->EnsM K H' D zs->Q (.ref D) H'):qb K CO CR CW T [.ref o,.ref a] H Q E:=⟨o,a,k,l,ns,es,rfl,h1,h2,h3,h4,h5,h6,h⟩
abbrev Ke(mg:oW->Option oQ):Prop:=mg "sorted" = sF
theorem mP:zr ["order","entries","unlike"] ["order","entries"] (zb yP):=⟨rfl,rfl,rfl,by decide +kernel,rfl,by decide +kernel,by decide +kernel⟩
theorem Z7{f CO CR CW CC TB:oP}(B:Bt mg)(DRk:DR P w K mg base CO CR CW)(hsorted:Ke mg)(hCd:PySem.W.CodeHd base CC TB)(hBt:base.BuiltinsAt mg TB)(hgT:oK≠TB)(F:Fun K "in_order" "in_order" yP f fd)(HC:fd.code=.ref CC)(mr:Df P w K mg base CX0 4 "as_rule" ["order","entry"] [] (xY K CO CR CW)):yg P w K mg base CX0 6 f fd ["order","entries"] (qb K CO CR CW TB):=by
 refine Jv F HC mP (λvs H Q E h=>?_) (λA outer s H vs Q E hr h=>?_)
 ·obtain⟨o,a,k,l,ns,es,rfl,_⟩:=h
  rfl
 ·obtain⟨o,a,k,l,ns,es,rfl,ho,hG,hA,hz,hE,hTab,q⟩:=h
  refine⟨_,(zi (wq (i:=2) mP.nd rfl (Or.inl rfl) (Or.inl rfl) (own:=["entry"]) (caps:=["order"]) (ix:=[0]) (tt:=(tBl (tOp rNe (tOp (qI K) (yS 0) (tC (.int 0))) (tOp (qI K) (yS 0) (tC (.int 1)))))) (te:=(qi (xY K CO CR CW) [] E0 (zN (yS 1) (zN (yS 0) ww)))) rfl (zP (sc:=zb yP) rfl (by decide +kernel) (by decide +kernel) (by decide +kernel) rfl (by decide +kernel) (by decide +kernel) rfl) (yF (pv 1)) (λ_ _ _ _ _ _=>zB (i:=0) (show List.Nodup [_,_] by decide) rfl (Or.inl rfl)) (λ_ _ _ _ _ _=>(WQ (zI XR (zx ix_tup (pv 0) zg (λ_ _=>rfl)) (zx ix_tup (pv 0) zg (λ_ _=>rfl)) (zL _)))) (λ_ _ _ _ _ _=>(cl0 mr hr .nil rfl (za (pv 1) (za (pv 0) zc)))))
   (zh (zv (Qa (k:=2) (p:="entry") (y:="order") (iy:=0) (c:=s.heap.objs.size+1) (tb:=tbE K CO CR CW) Uv ⟨rfl,rfl,rfl,by decide,rfl,rfl,by decide,by decide⟩ (hr.mono (by decide)) rfl hsorted PyProof.Rows.boot_sorted (za (pv 2) zc) rfl hCd hBt hgT rfl rfl (by intro _ _ _ _;exact rfl) rfl rfl rfl (λs H f cv hr'=>yh (za (K6 DRk hr' (pv 1) (za (zx ix_tup (pv 0) zg (λ_ _=>rfl)) zc)) (za (K6 DRk hr' (pv 1) (za (zx ix_tup (pv 0) zg (λ_ _=>rfl)) zc)) zc))))))),?_⟩
  have s16:=yk
  obtain⟨xs,hX,hI⟩:=id hA
  have hxl:=hI.len
  have hEr:∀e ∈ qN k l ns es,EB l e:=λe he=>by
   unfold qN at he
   obtain⟨y,hy,rfl⟩:=List.mem_map.mp he
   exact (hE y (List.mem_filter.mp hy).1).rule
  have hrl:=Ym k l ns es
  refine zj (λσ H'=>Same H H'/\∃(D0:oP) (sK:List V),H D0=sF/\H' D0=sE (.lst sK)/\EnsA K (jd D0 H') (qN k l ns es) sK/\σ=[sE (.ref o),sE (.ref a),sE (.ref D0)]) ?_ ?_
  ·ac_rfl
   refine⟨⟨xs,hX⟩,λD hD=>CompL.by (xs:=xs) (λi sK H'=>Same H H'/\H' D=sE (.lst sK)/\EnsA K (jd D H') (qN k l ns (es.take i)) sK) ⟨zf hD,ze,by simp only[bI,qN,df,aP,EnsA]⟩ (λi sK H' _ h=>h.1.seq hX) ?_ ?_⟩
   ·rintro i x sK H' hx ⟨hs,hH,hA⟩
    have hi:=(List.getElem?_eq_some_iff.mp hx).1
    obtain⟨e,pe,se,hei,rfl,hqe,hse⟩:=hI.get hx
    have hEe:=hE e (ae hei)
    have hal:=hA.len
    have hal2:=Ym k l ns (es.take i)
    rw[aK] at hal2
    have hq1:=zm hs hqe
    have hraw:qN k l ns (es.take (i+1))=qN k l ns (es.take i) ++ if e.1=e.2.1 then [] else [yx k l ns e]:=by
     rw[zU hei,Kb]
     congr 1
     unfold qN
     by_cases hne:e.1=e.2.1
     ·rw[if_pos hne,eI (by simp [hne])]
      rfl
     ·rw[if_neg hne,eG (by simp [hne])]
      rfl
    ac_rfl
    refine⟨xl,_,hq1,_,rfl,_,hq1,_,rfl,rfl,xp (λhne=>?_) λheq=>?_⟩
    ·have hne':¬ e.1=e.2.1:=λz=>hne (by rw[z])
     rw[if_neg hne'] at hraw
     have fin:∀(v:V) (H2:Hp),Same H' H2->EnA K (jd D H2) (yx k l ns e) v->H2 D=sE (.lst sK)/\sK.length<oN/\CNx xs.length i (λi sK H'=>Same H H'/\H' D=sE (.lst sK)/\EnsA K (jd D H') (qN k l ns (es.take i)) sK) (sK ++ [v]) (upd H2 D (.lst (sK ++ [v]))):=λv H2 s2 hv=>by
      refine⟨s2 _ _ hH,by lia,CNx.mk hi ⟨zG (hs.trans s2) hD,ze,?_⟩⟩
      rw[hraw]
      exact (hA.same ((wH s2).trans xJ)).snoc (hv.same xJ)
     refine jt (ho.same hs) hG hq1 (hse.same hs).is hEe (λer H2 s2=>fin _ _ s2 ?_) λp' s' H2 s2 hsn hp' hL=>fin _ _ s2 ?_
     ·rw[er]
      exact EnA.same ⟨pe,se,rfl,hqe,hse⟩ (WL hD (hs.trans s2))
     ·exact EnA.new (s2 _ _ hH) hp' hL (λz=>by rw[z,hH] at hsn;cases hsn)
    ·have heq':e.1=e.2.1:=by
      have:=Classical.not_not.mp heq
      injection this with this
      exact ju this
     rw[if_pos heq',aV] at hraw
     exact CNx.mk hi ⟨hs,hH,by rw[hraw];exact hA⟩
   ·rintro sK H' ⟨hs,hH,hA⟩
    rw[hxl,aQ] at hA
    exact⟨hs,D,hD,sK,hH,hA,rfl⟩
  rintro σ H1 ⟨s1,D0,sK,hD0,hH1,hI1,rfl⟩
  have hal:=hI1.len
  have hT1:=hTab.same s1
  obtain⟨ps1,hps1,_⟩:=id hT1
  ac_rfl
  unfold QK
  refine⟨_,rfl,hT1,λf H2 hf hLA hT2 sT=>?_⟩
  obtain⟨ps2,hps2,_⟩:=id hT2
  have hI2:=EnsA.samT sT hps1 (hI1.same wI)
  refine⟨D0,sK,.ref o,rfl,SqL.of (sT.at hps1 hH1 λ_ z=>by cases z),by lia,rfl,?_⟩
  refine QY hG (λA A' h1 h2=>LamAt.same h1 h2) (qN k l ns es) sK [] [] H2 hLA ((ho.same s1).samT sT hps1) hEr hI2 (by simp only[aP,Iss]) λacc' H3 s3 hI3=>⟨(qN k l ns es).map (rkE k l ns),by simpa using hI3,λys p1 p2 D hD=>?_⟩
  obtain⟨zs,z1,z2,z3⟩:=Yt (hI2.same s3) hEr p1 p2
  have sD:=zf (o:=.lst (ys.map (·.2))) hD
  refine q D zs _ ((SamT.of s1).trans (sT.trans (SamT.of (s3.trans sD)))) (hT2.same (s3.trans sD)) ?_ ⟨z1,z2⟩ ⟨_,ze,z3.same sD⟩
  exact ((SamT.of s1).trans (sT.trans (SamT.of s3))).free (s3 _ _ hps2) hD
structure TMo(mg:oW->Option oQ):Prop where
 u:∃t,mg "MOST_USES_thinning" = sE (.int 40 t)
 s:∃t,mg "MOST_STEPS" = sE (.int 240 t)
 d:∃t,mg "MOST_SIDE_thinning" = sE (.int 60 t)
 p:∃t,mg "MOST_PASSES" = sE (.int 20 t)
structure BG(k:Nat)(l:List Nat)(ns:List Int)(bs:List Ent):Prop where
 n:bs.length<64
 e:∀e ∈ bs,EB l e
 lt:∀e ∈ bs,zK k l ns e.2.1 e.1=sG
theorem BG.ne{l:List Nat}(h:BG k l ns bs)(G:OG l ns k):NeL (zd bs):=λp hp=>by
 unfold zd at hp
 obtain⟨e,he,rfl⟩:=List.mem_map.mp hp
 exact WG G.nb (h.lt e he)
theorem BG.le{l:List Nat}(h:BG k l ns bs):∀p ∈ zd bs,p.1.length<=60/\p.2.length<=60:=λp hp=>by
 unfold zd at hp
 obtain⟨e,he,rfl⟩:=List.mem_map.mp hp
 exact⟨(h.e e he).a,(h.e e he).b⟩
theorem BG.mem{l:List Nat}(h:BG k l ns bs):∀p ∈ zd bs,∀c ∈ p.2,c ∈ l:=λp hp=>by
 unfold zd at hp
 obtain⟨e,he,rfl⟩:=List.mem_map.mp hp
 exact (h.e e he).mb
theorem jF{CF a:oP}{w:List Nat}(hA:LsA K H a (ps.map dR))(hN:NeL ps)(hpl:ps.length<=100)(hP:∀p ∈ ps,p.1.length<=60/\p.2.length<=60)(hw:w.length<=60)
  (h1:∀(i:Nat) (p S:oP) (H':Hp),zV ps w i->Same H H'->H' p=sE (.tup [.ref S,.str (tx (wAt ps w i))])->LsA K H' S ((sAt ps w i).map dG)->H S=sF->Q (.ref p) H') (h2:(∀i,¬ zV ps w i)->∀H',Same H H'->E (.ref CF) sF H'):wS K CF [.ref a,.str (tx w),.int 40] H Q E:=by
 have hP':∀p ∈ ps,p.1.length<=1000/\p.2.length<=1000:=λp hp=>by
  have:=hP p hp
  lia
 have len:∀j,j<=40->(wAt ps w j).length<=10000:=λj hj=>by
  have:=qh (l:=w) (m:=60) hN (λp hp=>(hP p hp).2) j
  lia
 rcases JJ ps w with ⟨i,hi⟩ | ⟨hL,hf⟩
 ·have hm:=hi.most
  exact⟨a,w,ps,40,i,rfl,hA,hN,hpl,hP',⟨hi.live,λj hj=>len j (by lia),by lia⟩,.inl ⟨hi.end_,by lia,λp S H' s' hp hL hS=>h1 i p S H' hi s' hp hL hS⟩⟩
 ·refine⟨a,w,ps,40,40,rfl,hA,hN,hpl,hP',⟨hL,λj hj=>len j hj,by decide⟩,.inr ⟨hf,rfl,h2 λi hi=>?_⟩⟩
  have hm:=hi.most
  by_cases e:i=40
  ·subst e
   exact hf hi.end_
  ·exact hL i (by lia) hi.end_
theorem Ju(us:List (Nat × Nat)):us.map dG=(stS us).map dSt:=by
 unfold stS
 rw[dD]
 rfl
theorem Ua(us:List (Nat × Nat)):(stS us).length=us.length:=by unfold stS;rw[af]
theorem zaF{w:List Nat}{i:Nat}(h:XV ps w i):∀u ∈ sAt ps w i,u.1<ps.length:=λu hu=>by
 unfold sAt at hu
 obtain⟨j,hj,rfl⟩:=List.mem_map.mp hu
 cases e:zF (wAt ps w j) ps with
 | none=>exact absurd e (h j (List.mem_range.mp hj))
 | some v =>
  obtain⟨p,h1,_⟩:=xm e
  exact (List.getElem?_eq_some_iff.mp h1).1
theorem Ja{w:List Nat}{i:Nat}(h:XV ps w i):∀u ∈ stS (sAt ps w i),0<=u.1/\u.1<ps.length:=λu hu=>by
 unfold stS at hu
 obtain⟨v,hv,rfl⟩:=List.mem_map.mp hu
 have:=zaF h v hv
 show 0<=(v.1:Int)/\(v.1:Int)<ps.length
 lia
theorem Kn{n:Int}(h:∀u ∈ ss,0<=u.1/\u.1<n):∀u ∈ yZ ss,0<=u.1/\u.1<n:=λu hu=>by
 unfold yZ at hu
 obtain⟨v,hv,rfl⟩:=List.mem_map.mp hu
 exact h v (List.mem_reverse.mp hv)
theorem zaH(h:∀e ∈ es,e.2.2.length<=600)(u:Stp):(XJ es u).length<=600:=by
 have hg:(es.getD u.1.toNat ([],[],[])).2.2.length<=600:=by
  rw[ac]
  cases e:es[u.1.toNat]? with
  | none=>exact aJ _
  | some r=>exact h r (ae e)
 unfold XJ
 rw[Xq]
 split
 ·exact hg
 ·rw[xM]
  exact hg
theorem KG(h:∀e ∈ es,e.2.2.length<=600):∀us:List Stp,(byL es us).length<=us.length * 600
 | []=>by simp [byL]
 | u::us=>by
  have e:byL es (u::us)=XJ es u ++ byL es us:=by simp [byL]
  have h1:=zaH h u
  have h2:=KG h us
  rw[e,am,aM,d8]
  lia
def jN(K:oO)(CF:oP):Sp:=λvs H Q E=>∃(a p s:oP) (k:Nat) (l:List Nat) (ns:List Int) (bs:List Ent) (e:Ent),vs=[.ref a,.ref p]/\OG l ns k/\Is K H (.lst (bs.map dE)) (.ref a)/\BG k l ns bs/\SqT K H p [.str (tx e.1),.str (tx e.2.1),.ref s]/\LsA K H s (e.2.2.map dSt)/\EB l e /\
 (∀i j H',zV (zd bs) e.1 i->zV (zd bs) e.2.1 j->wAt (zd bs) e.1 i=wAt (zd bs) e.2.1 j->Same H H'->Q .non H') /\
 (∀i j p' s' H',zV (zd bs) e.1 i->zV (zd bs) e.2.1 j->wAt (zd bs) e.1 i≠wAt (zd bs) e.2.1 j->Same H H'->H s'=sF->H' p'=sE (.tup [.str (tx (yY bs e i j).1),.str (tx (yY bs e i j).2.1),.ref s'])->LsA K H' s' ((yY bs e i j).2.2.map dSt)->Q (.ref p') H') /\
 ((∀i,¬ zV (zd bs) e.1 i)\/(∀j,¬ zV (zd bs) e.2.1 j)->∀H',Same H H'->E (.ref CF) sF H')
theorem Vp{a t:oP}{us:List Stp}(h1:Is K H (.lst (es.map dE)) (.ref a))(h2:Is K H (.lst (us.map dSt)) (.ref t))(h3:us.length<=100)(h4:∀e ∈ es,e.2.2.length<=600)(h5:∀u ∈ us,0<=u.1/\u.1<es.length)(h:∀(D:oP) (H':Hp),H D=sF->Same H H'->LsA K H' D ((byL es us).map dSt)->Q (.ref D) H'):VS K [.ref a,.ref t] H Q E:=⟨a,t,es,us,rfl,h1,h2,h3,h4,h5,h⟩
theorem gm:zr ["entries","entry","rules","one","other","steps"] ["entries","entry"] (zb yv):=⟨rfl,rfl,rfl,by decide +kernel,rfl,by decide +kernel,by decide +kernel⟩
theorem qZ{f CF:oP}{lu:rB}(B:Bt mg)(TM:TMo mg)(F:Fun K "brought_down" "brought_down" yv f fd)(gn:Df P w K mg base CX0 1 "pairs_of" ["entries"] [] (wj K))(ng:Df P w K mg base (CXx P w) 4 "gone" ["rules","word","most"] [] (wS K CF))(DD_gone:Df P w K mg base (CXx P w) 4 "gone" ["rules","word","most"] [.int 4000 lu] (wS K CF))(ln:Df P w K mg base CX0 2 "by_pacts" ["entries","steps"] [] (VS K))(mq:Df P w K mg base CX0 1 "back" ["steps"] [] (uc K)):yg P w K mg base (CXx P w) 5 f fd ["entries","entry"] (jN K CF):=by
 obtain⟨t9,g9⟩:=TM.u
 refine Fun.okX F gm (λvs H Q E h=>?_) (λcdv A outer s H vs Q E hr hx h=>?_)
 ·obtain⟨a,p,s,k,l,ns,bs,e,rfl,_⟩:=h
  rfl
 ·obtain⟨a,p,s,k,l,ns,bs,e,rfl,hG,hA,hB,hp,hs,hE,q1,q2,q3⟩:=h
  refine⟨_,(zi (zq (i:=2) gm.nd rfl (Or.inl rfl) (cl0 gn hr .nil rfl (za (pv 0) zc)))
   (zi (zq (i:=3) gm.nd rfl (Or.inl rfl) (clP hx ng hr .nil rfl (za (pv 2) (za (zx ix_tup (pv 1) zg (λ_ _=>rfl)) (za (xg (v:=.int 40) rfl g9 ⟨t9,rfl⟩) zc)))))
   (zi (zq (i:=4) gm.nd rfl (Or.inl rfl) (clP hx ng hr .nil rfl (za (pv 2) (za (zx ix_tup (pv 1) zg (λ_ _=>rfl)) (za (xg (v:=.int 40) rfl g9 ⟨t9,rfl⟩) zc)))))
   (zi (zW (zI uL (zx ix_tup (pv 3) zg (λ_ _=>rfl)) (zx ix_tup (pv 4) zg (λ_ _=>rfl)) (zL _))
    (zh (zv wK))
    zC)
   (zi (zq (i:=5) gm.nd rfl (Or.inl rfl) (zE Vx (zE Vx (cl0 ln hr .nil rfl (za (pv 0) (za (cl0 mq hr .nil rfl (za (zx ix_tup (pv 3) zg (λ_ _=>rfl)) zc)) zc))) (zx ix_tup (pv 1) zg (λ_ _=>rfl))) (cl0 ln hr .nil rfl (za (pv 0) (za (zx ix_tup (pv 4) zg (λ_ _=>rfl)) zc)))))
   (zh (zv (yh (za (zx ix_tup (pv 3) zg (λ_ _=>rfl)) (za (zx ix_tup (pv 4) zg (λ_ _=>rfl)) (za (pv 5) zc))))))))))),?_⟩
  have s16:=yk
  have hbl:=hB.n
  have hN:=hB.ne hG
  have hpl:=qj bs
  have hst:∀e ∈ bs,e.2.2.length<=600:=λe he=>(hB.e e he).s
  have hst3:∀e ∈ bs,e.2.2.length<=600:=λe he=>by have:=hst e he;lia
  refine zj (λσ H'=>Same H H'/\∃R:oP,LsA K H' R ((zd bs).map dR)/\σ=[sE (.ref a),sE (.ref p),sE (.ref R),sF,sF,sF]) ?_ ?_
  ·ac_rfl
   exact wJ hA (by lia) λD H' _ s' hL=>⟨s',D,hL,rfl⟩
  rintro σ H1 ⟨s1,R,hR,rfl⟩
  refine zj (λσ H'=>Same H1 H'/\∃(i:Nat),zV (zd bs) e.1 i/\∃p1:oP,(∃S1:oP,H' p1=sE (.tup [.ref S1,.str (tx (wAt (zd bs) e.1 i))])/\LsA K H' S1 ((sAt (zd bs) e.1 i).map dG))/\σ=[sE (.ref a),sE (.ref p),sE (.ref R),sE (.ref p1),sF,sF]) ?_ ?_
  ·ac_rfl
   refine⟨_,zm s1 hp,_,rfl,jF hR hN (by lia) hB.le hE.a (λi p1 S1 H' hi s' hp1 hL _=>⟨s',i,hi,p1,⟨S1,hp1,hL⟩,rfl⟩) λhno H' s'=>q3 (.inl hno) H' (s1.trans s')⟩
  rintro σ H2 ⟨s2,i,hi,p1,⟨S1,hp1,hS1⟩,rfl⟩
  have s12:=s1.trans s2
  refine zj (λσ H'=>Same H2 H'/\∃(j:Nat),zV (zd bs) e.2.1 j/\∃p2:oP,(∃S2:oP,H' p2=sE (.tup [.ref S2,.str (tx (wAt (zd bs) e.2.1 j))])/\LsA K H' S2 ((sAt (zd bs) e.2.1 j).map dG))/\σ=[sE (.ref a),sE (.ref p),sE (.ref R),sE (.ref p1),sE (.ref p2),sF]) ?_ ?_
  ·ac_rfl
   refine⟨_,zm s12 hp,_,rfl,jF (hR.same s2) hN (by lia) hB.le hE.b (λj p2 S2 H' hj s' hp2 hL _=>⟨s',j,hj,p2,⟨S2,hp2,hL⟩,rfl⟩) λhno H' s'=>q3 (.inr hno) H' (s12.trans s')⟩
  rintro σ H3 ⟨s3,j,hj,p2,⟨S2,hp2,hS2⟩,rfl⟩
  have s13:=s12.trans s3
  have hp1':=s3 _ _ hp1
  have hS1':=hS1.same s3
  refine zj (λσ H'=>H'=H3/\wAt (zd bs) e.1 i≠wAt (zd bs) e.2.1 j/\σ=[sE (.ref a),sE (.ref p),sE (.ref R),sE (.ref p1),sE (.ref p2),sF]) ?_ ?_
  ·ac_rfl
   refine⟨_,SqT.of hp1',_,rfl,_,SqT.of hp2,_,rfl,rfl,xp (λh=>?_) λh=>?_⟩
   ·exact q1 i j H3 hi hj (ju (by injection h)) s13
   ·exact λz=>h (by rw[z])
  rintro σ H4 ⟨rfl,hne,rfl⟩
  have him:=hi.most
  have hjm:=hj.most
  have hl1:(stS (sAt (zd bs) e.1 i)).length=i:=by rw[Ua,Yj]
  have hl2:(stS (sAt (zd bs) e.2.1 j)).length=j:=by rw[Ua,Yj]
  rw[Ju] at hS1' hS2
  have hA4:=Is.same s13 _ _ hA
  have hb1:=KG hst (yZ (stS (sAt (zd bs) e.1 i)))
  have hb2:=KG hst (stS (sAt (zd bs) e.2.1 j))
  rw[xM,hl1] at hb1
  rw[hl2] at hb2
  have hes:=hE.s
  refine zj (λσ H'=>Same H4 H'/\∃S:oP,H4 S=sF/\LsA K H' S ((yY bs e i j).2.2.map dSt)/\σ=[sE (.ref a),sE (.ref p),sE (.ref R),sE (.ref p1),sE (.ref p2),sE (.ref S)]) ?_ ?_
  ·ac_rfl
   refine⟨_,SqT.of hp1',_,rfl,ke hS1'.is (by lia) λB1 G1 _ t1 hB1=>Vp (Is.same t1 _ _ hA4) hB1.is (by rw[xM];lia) hst3 (by rw[<- hpl];exact Kn (Ja hi.live)) λC1 G2 hC1n t2 hC1=>?_⟩
   have t12:=t1.trans t2
   obtain⟨c1,hc1,ic1⟩:=id hC1
   obtain⟨es0,hs0,is0⟩:=hs.same (s13.trans t12)
   have lc1:=ic1.len
   have ls0:=is0.len
   rw[af] at lc1 ls0
   refine⟨_,zm (s13.trans t12) hp,_,rfl,C1,rfl,s,rfl,c1,hc1,es0,hs0,by lia,λM hM=>?_⟩
   have t3:=zf (o:=.lst (c1 ++ es0)) hM
   have t13:=t12.trans t3
   refine⟨_,SqT.of (t13 _ _ hp2),_,rfl,Vp (Is.same t13 _ _ hA4) (hS2.same t13).is (by lia) hst3 (by rw[<- hpl];exact Ja hj.live) λC2 G3 hC2n t4 hC2=>?_⟩
   obtain⟨c2,hc2,ic2⟩:=id hC2
   have lc2:=ic2.len
   rw[af] at lc2
   refine⟨C2,rfl,c1 ++ es0,t4 _ _ ze,c2,hc2,by rw[am];lia,λS hS=>?_⟩
   have t5:=zf (o:=.lst (c1 ++ es0 ++ c2)) hS
   refine⟨t13.trans (t4.trans t5),S,(t13.trans t4).free hS,⟨_,ze,?_⟩,rfl⟩
   show Iss K _ ((byL bs (yZ (stS (sAt (zd bs) e.1 i))) ++ e.2.2 ++ byL bs (stS (sAt (zd bs) e.2.1 j))).map dSt) _
   rw[aE,aE]
   exact Iss.append (Iss.append (Iss.same (t3.trans (t4.trans t5)) _ _ ic1) (Iss.same (t3.trans (t4.trans t5)) _ _ is0)) (Iss.same t5 _ _ ic2)
  rintro σ H5 ⟨s5,S,hSn,hS,rfl⟩
  ac_rfl
  refine⟨_,SqT.of (s5 _ _ hp1'),_,rfl,_,SqT.of (s5 _ _ hp2),_,rfl,by lia,λt ht=>?_⟩
  have st:=zf (o:=.tup [.str (tx (wAt (zd bs) e.1 i)),.str (tx (wAt (zd bs) e.2.1 j)),.ref S]) ht
  exact q2 i j t S _ hi hj hne (s13.trans (s5.trans st)) (s13.free hSn) ze (hS.same st)
def vI(K:oO)(CF:oP):Sp:=λvs H Q E=>∃(p s:oP) (e:Ent),vs=[.ref p]/\SqT K H p [.str (tx e.1),.str (tx e.2.1),.ref s]/\Is K H (.lst (e.2.2.map dSt)) (.ref s)/\e.1.length<=10000/\e.2.1.length<=10000/\(¬ ja e->Q .non H)/\(ja e->E (.ref CF) sF H)
theorem XL{CF p s:oP}(h1:SqT K H p [.str (tx e.1),.str (tx e.2.1),.ref s])(h2:Is K H (.lst (e.2.2.map dSt)) (.ref s))(h3:e.1.length<=10000)(h4:e.2.1.length<=10000)(h5:¬ ja e->Q .non H)(h6:ja e->E (.ref CF) sF H):vI K CF [.ref p] H Q E:=⟨p,s,e,rfl,h1,h2,h3,h4,h5,h6⟩
theorem uJ:zr ["entry"] ["entry"] (zb yf):=⟨rfl,rfl,rfl,by decide +kernel,rfl,by decide +kernel,by decide +kernel⟩
theorem uI{f CF:oP}(B:Bt mg)(T:K4 K mg CF)(TM:TMo mg)(F:Fun K "refuse_beyond" "refuse_beyond" yf f fd) : yg P w K mg base (CXx P w) 1 f fd ["entry"] (vI K CF):=by
 obtain⟨⟨t9,g9⟩,⟨t8,g8⟩⟩:=And.intro TM.s TM.d
 refine Fun.okX F uJ (λvs H Q E h=>?_) (λcdv A outer s H vs Q E hr hx h=>?_)
 ·obtain⟨p,s,e,rfl,_⟩:=h
  rfl
 ·obtain⟨p,s,e,rfl,hp,hs,ha,hb,q1,q2⟩:=h
  refine⟨_,(zi (zW (zI op_gt (zt yc rfl B.len aA (za (zx ix_tup (pv 0) zg (λ_ _=>rfl)) zc)) (xg (v:=.int 240) rfl g9 ⟨t9,rfl⟩) (zL _))
    (zh (yX hx rfl T.xi.toXC T.ini rfl T.g (za xB zc)))
    zC)
   (zh (zW (zI op_gt (zt (Wl rfl) rfl B.max uU (za (zt yc rfl B.len aA (za (zx ix_tup (pv 0) zg (λ_ _=>rfl)) zc)) (za (zt yc rfl B.len aA (za (zx ix_tup (pv 0) zg (λ_ _=>rfl)) zc)) zc))) (xg (v:=.int 60) rfl g8 ⟨t8,rfl⟩) (zL _))
    (zh (yX hx rfl T.xi.toXC T.ini rfl T.g (za xB zc)))
    zC))),?_⟩
  have s16:=yk
  simp only[Is] at hs
  obtain⟨_,zs,e0,hZ,hI⟩:=hs
  cases e0
  have hzl:=hI.len
  rw[af] at hzl
  refine zj (λσ H'=>H'=H/\e.2.2.length<=240/\σ=[sE (.ref p)]) ?_ ?_
  ·ac_rfl
   refine⟨_,hp,_,rfl,_,.inl ⟨_,hZ,rfl⟩,xp (λh=>⟨by lia,q2 (.inl (by lia))⟩) λh=>by lia⟩
  rintro σ H1 ⟨rfl,h1,rfl⟩
  ac_rfl
  refine⟨_,hp,_,rfl,_,⟨by rw[zR];lia,rfl⟩,_,hp,_,rfl,_,⟨by rw[zR];lia,rfl⟩,?_⟩
  rw[zR,zR]
  refine xp (λh=>⟨by lia,q2 ?_⟩) λh=>q1 ?_
  ·unfold ja
   split at h <;> lia
  ·unfold ja
   split at h <;> lia
theorem Uz{l:List Nat}{i j:Nat}(hB:BG k l ns bs)(hE:EB l e)(hF:¬ ja (yY bs e i j)):EB l (yY bs e i j):=by
 unfold ja at hF
 exact⟨by lia,by lia,by lia,uo hE.ma hB.mem i,uo hE.mb hB.mem j⟩
theorem BG.snoc{l:List Nat}{d:Ent}(h:BG k l ns bs)(hn:bs.length+1<64)(hd:EB l d)(hne:d.1≠d.2.1):BG k l ns (bs ++ [yx k l ns d]):=by
 refine⟨by rw[am];exact hn,λe he=>?_,λe he=>?_⟩
 ·rcases List.mem_append.mp he with he | he
  ·exact h.e e he
  ·rw[List.mem_singleton.mp he]
   exact hd.rule
 ·rcases List.mem_append.mp he with he | he
  ·exact h.lt e he
  ·rw[List.mem_singleton.mp he]
   exact qw hd hne
theorem U9{CF a p s:oP}{l:List Nat}(h1:OG l ns k)(h2:Is K H (.lst (bs.map dE)) (.ref a))(h3:BG k l ns bs)(h4:SqT K H p [.str (tx e.1),.str (tx e.2.1),.ref s])(h5:LsA K H s (e.2.2.map dSt))(h6:EB l e)
  (q1:∀i j H',zV (zd bs) e.1 i->zV (zd bs) e.2.1 j->wAt (zd bs) e.1 i=wAt (zd bs) e.2.1 j->Same H H'->Q .non H')
  (q2:∀i j p' s' H',zV (zd bs) e.1 i->zV (zd bs) e.2.1 j->wAt (zd bs) e.1 i≠wAt (zd bs) e.2.1 j->Same H H'->H s'=sF->H' p'=sE (.tup [.str (tx (yY bs e i j).1),.str (tx (yY bs e i j).2.1),.ref s'])->LsA K H' s' ((yY bs e i j).2.2.map dSt)->Q (.ref p') H')
  (q3:(∀i,¬ zV (zd bs) e.1 i)\/(∀j,¬ zV (zd bs) e.2.1 j)->∀H',Same H H'->E (.ref CF) sF H'):jN K CF [.ref a,.ref p] H Q E:=⟨a,p,s,k,l,ns,bs,e,rfl,h1,h2,h3,h4,h5,h6,q1,q2,q3⟩
theorem UU{l:List Nat}{i j:Nat}(hB:BG k l ns bs)(hG:OG l ns k)(hE:EB l e)(hi:i<=40)(hj:j<=40):(yY bs e i j).1.length<=10000/\(yY bs e i j).2.1.length<=10000:=by
 have h1:=qh (l:=e.1) (m:=60) (hB.ne hG) (λp hp=>(hB.le p hp).2) i
 have h2:=qh (l:=e.2.1) (m:=60) (hB.ne hG) (λp hp=>(hB.le p hp).2) j
 have h3:=hE.a
 have h4:=hE.b
 show (wAt (zd bs) e.1 i).length<=10000/\(wAt (zd bs) e.2.1 j).length<=10000
 lia
def u7(K:oO)(CO CR CW CF:oP):Sp:=λvs H Q E=>∃(o a:oP) (k:Nat) (l:List Nat) (ns:List Int) (zs:List Ent),vs=[.ref o,.ref a]/\OrdAt CO CR CW H o k l ns/\OG l ns k/\EnsL K H a zs/\zs.length<64/\(∀e ∈ zs,EB l e) /\
 (∀(bs:List Ent) (D:oP) (H':Hp),xF k l ns [] zs (sE bs)->BG k l ns bs->Same H H'->H D=sF->EnsM K H' D bs->Q (.ref D) H')/\(xF k l ns [] zs sF->∀H',Same H H'->E (.ref CF) sF H')
theorem WR{CO CR CW CF o a:oP}{l:List Nat}{zs:List Ent}(h1:OrdAt CO CR CW H o k l ns)(h2:OG l ns k)(h3:EnsL K H a zs)(h4:zs.length<64)(h5:∀e ∈ zs,EB l e)
  (q1:∀(bs:List Ent) (D:oP) (H':Hp),xF k l ns [] zs (sE bs)->BG k l ns bs->Same H H'->H D=sF->EnsM K H' D bs->Q (.ref D) H') (q2:xF k l ns [] zs sF->∀H',Same H H'->E (.ref CF) sF H'):u7 K CO CR CW CF [.ref o,.ref a] H Q E:=⟨o,a,k,l,ns,zs,rfl,h1,h2,h3,h4,h5,q1,q2⟩
def zbV(K:oO)(H1 H':Hp)(bs:List Ent)(e:Ent)(v:V):Prop:=∃i j,zV (zd bs) e.1 i/\zV (zd bs) e.2.1 j/\((wAt (zd bs) e.1 i=wAt (zd bs) e.2.1 j/\v=.non) \/
 (wAt (zd bs) e.1 i≠wAt (zd bs) e.2.1 j/\∃p s:oP,v=.ref p/\H1 s=sF/\H' p=sE (.tup [.str (tx (yY bs e i j).1),.str (tx (yY bs e i j).2.1),.ref s])/\LsA K H' s ((yY bs e i j).2.2.map dSt)))
def zcw(K:oO)(H:Hp)(D:oP)(k:Nat)(l:List Nat)(ns:List Int)(zs:List Ent)(i:Nat)(H':Hp):Prop:=∃(bs:List Ent) (sK:List V),Same H H'/\H' D=sE (.lst sK)/\EnsA K (jd D H') bs sK/\BG k l ns bs/\bs.length<=i/\∀r,xF k l ns bs (zs.drop i) r->xF k l ns [] zs r
theorem ij:zr ["order","entries","built","entry","lower"] ["order","entries"] (zb yN):=⟨rfl,rfl,rfl,by decide +kernel,rfl,by decide +kernel,by decide +kernel⟩
theorem kQ{f CO CR CW CF:oP}(B:Bt mg)(F:Fun K "built_anew" "built_anew" yN f fd)(ny:Df P w K mg base (CXx P w) 5 "brought_down" ["entries","entry"] [] (jN K CF))(nh:Df P w K mg base (CXx P w) 1 "refuse_beyond" ["entry"] [] (vI K CF))(mr:Df P w K mg base CX0 4 "as_rule" ["order","entry"] [] (xY K CO CR CW)):yg P w K mg base (CXx P w) 6 f fd ["order","entries"] (u7 K CO CR CW CF):=by
 refine Fun.okX F ij (λvs H Q E h=>?_) (λcdv A outer s H vs Q E hr hx h=>?_)
 ·obtain⟨o,a,k,l,ns,zs,rfl,_⟩:=h
  rfl
 ·obtain⟨o,a,k,l,ns,zs,rfl,ho,hG,hA,hz,hE,q1,q2⟩:=h
  refine⟨_,(zi (zq (i:=2) ij.nd rfl (Or.inl rfl) (vg zc))
   (zi (yA PassesOwn.leaving rfl (yF (pv 1)) (zB (i:=3) ij.nd rfl (Or.inl rfl))
    (zi (zq (i:=4) ij.nd rfl (Or.inl rfl) (clP hx ny hr .nil rfl (za (pv 2) (za (pv 3) zc))))
    (zh (zW (zI op_notN' (pv 4) wK (zL _))
     (zi (wz (clP hx nh hr .nil rfl (za (pv 4) zc)))
     (zh (wz (vt bO cf ci xH (pv 2) (za (cl0 mr hr .nil rfl (za (pv 0) (za (pv 4) zc))) zc)))))
     zC))))
   (zh (zv (pv 2))))),?_⟩
  have s16:=yk
  obtain⟨xs,hX,hI⟩:=id hA
  have hxl:=hI.len
  refine zj (λσ H'=>Same H H'/\∃D:oP,H D=sF/\H' D=sE (.lst [])/\σ=[sE (.ref o),sE (.ref a),sE (.ref D),sF,sF]) ?_ ?_
  ·ac_rfl
   exact⟨by lia,λp hp=>⟨zf hp,p,hp,ze,rfl⟩⟩
  rintro σ H0 ⟨s0,D,hD,hD0,rfl⟩
  refine zj (λσ H'=>zcw K H D k l ns zs zs.length H'/\∃(v3 v4:Option V),σ=[sE (.ref o),sE (.ref a),sE (.ref D),v3,v4]) ?_ ?_
  ·ac_rfl
   refine⟨⟨_,s0.seq hX⟩,ForL.by (xs:=xs) (λi σ H'=>zcw K H D k l ns zs i H'/\∃(v3 v4:Option V),σ=[sE (.ref o),sE (.ref a),sE (.ref D),v3,v4]) ⟨⟨[],[],s0,hD0,by simp only[EnsA],⟨by decide,λe he=>(nomatch he),λe he=>(nomatch he)⟩,aq _,λr h=>h⟩,sF,sF,rfl⟩ (λi σ H' _ ⟨⟨_,_,h,_⟩,_⟩=>h.seq hX) ?_ ?_⟩
   ·rintro i x σ H1 hx ⟨⟨bs,sK,s1,hH1,hI1,hB,hbi,hr⟩,v3,v4,rfl⟩
    have hix:=(List.getElem?_eq_some_iff.mp hx).1
    obtain⟨e,pe,se,hei,rfl,hqe,hse⟩:=hI.get hx
    have hEe:=hE e (ae hei)
    have hdrop:zs.drop i=e::zs.drop (i+1):=by
     obtain⟨h1,h2⟩:=List.getElem?_eq_some_iff.mp hei
     rw[aU h1,h2]
    rw[hdrop] at hr
    have hal:=hI1.len
    have hbn:=hB.n
    have hIs:Is K H1 (.lst (bs.map dE)) (.ref D):=by
     simp only[Is]
     exact⟨D,sK,rfl,SqL.of hH1,(hI1.same wI).iss⟩
    simp only[xu,bg,bf]
    refine zj (λσ H'=>Same H1 H'/\∃v:V,zbV K H1 H' bs e v/\σ=[sE (.ref o),sE (.ref a),sE (.ref D),sE (.ref pe),sE (v)]) ?_ ?_
    ·ac_rfl
     exact U9 hG hIs hB (zm s1 hqe) (hse.same s1) hEe (λi' j' H' a1 a2 a3 s'=>⟨s',i',j',a1,a2,.inl ⟨a3,rfl⟩⟩) (λi' j' p' s' H' a1 a2 a3 t' a4 a5 a6=>⟨t',i',j',a1,a2,.inr ⟨a3,p',s',rfl,a4,a5,a6⟩⟩) λh H' s'=>q2 (hr _ (.stuck h)) H' (s1.trans s')
    rintro σ H2 ⟨s2,v,⟨i',j',hi',hj',hc⟩,rfl⟩
    rcases hc with ⟨hw,rfl⟩ | ⟨hw,p',s',rfl,hsn,hp',hL'⟩
    ·ac_rfl
     exact⟨bs,sK,s1.trans s2,s2 _ _ hH1,hI1.same (wH s2),hB,by lia,λr h=>hr r (.same hi' hj' hw h)⟩
    ·ac_rfl
     rw[if_pos not_false]
     have hdl:=UU hB hG hEe hi'.most hj'.most
     refine zj (λσ H'=>H'=H2/\¬ ja (yY bs e i' j')/\σ=[sE (.ref o),sE (.ref a),sE (.ref D),sE (.ref pe),sE (.ref p')]) ?_ ?_
     ·ac_rfl
      exact XL (SqT.of hp') hL'.is hdl.1 hdl.2 (λh=>⟨rfl,h⟩) λh=>q2 (hr _ (.far hi' hj' hw h)) H2 (s1.trans s2)
     rintro σ H3 ⟨rfl,hF,rfl⟩
     have hEd:=Uz hB hEe hF
     have hH3:=s2 _ _ hH1
     have fin:∀(v:V) (H4:Hp),Same H3 H4->EnA K (jd D H4) (yx k l ns (yY bs e i' j')) v->zcw K H D k l ns zs (i+1) (upd H4 D (.lst (sK ++ [v]))):=λv H4 s4 hv=>by
      refine⟨bs ++ [yx k l ns (yY bs e i' j')],sK ++ [v],zG (s1.trans (s2.trans s4)) hD,ze,?_,hB.snoc (by lia) hEd hw,by rw[am];show bs.length+1<=i+1;lia,λr h=>hr r (.new hi' hj' hw hF h)⟩
      exact (hI1.same ((wH (s2.trans s4)).trans xJ)).snoc (hv.same xJ)
     ac_rfl
     refine⟨.inl ⟨_,SqL.of hH3⟩,jt (ho.same (s1.trans s2)) hG (SqT.of hp') hL'.is hEd (λer H4 s4=>⟨sK,s4 _ _ hH3,by lia,fin _ _ s4 ?_⟩) λp2 t2 H4 s4 htn hp2 hL2=>⟨sK,s4 _ _ hH3,by lia,fin _ _ s4 ?_⟩⟩
     ·rw[er]
      exact EnA.new (s4 _ _ hH3) (s4 _ _ hp') (hL'.same s4) (λz=>by rw[z,hH1] at hsn;cases hsn)
     ·exact EnA.new (s4 _ _ hH3) hp2 hL2 (λz=>by rw[z,hH3] at htn;cases htn)
   ·rintro σ H' ⟨h,v3,v4,rfl⟩
    rw[hxl] at h
    exact⟨h,_,_,rfl⟩
  rintro σ H2 ⟨⟨bs,sK,s2,hH2,hI2,hB,hbi,hr⟩,v3,v4,rfl⟩
  rw[d9] at hr
  ac_rfl
  exact q1 bs D H2 (hr _ (.nil bs)) hB s2 hD ⟨sK,hH2,hI2.same wI⟩
theorem Uq(rs ss:List zw):jc (rs.map dR) (ss.map dR)=decide (rs=ss):=by
 induction rs generalizing ss with
 | nil=>cases ss with
  | nil=>simp [jc]
  | cons s ss=>simp [jc]
 | cons r rs ih=>cases ss with
  | nil=>simp [jc]
  | cons s ss =>
   rw[az,az,jc,ih]
   have h:eqD (dR r) (dR s)=decide (r=s):=by
    obtain⟨a,b⟩:=r
    obtain⟨c,d⟩:=s
    have e1:∀x y:List Nat,eqD (dS x) (dS y)=decide (x=y):=λx y=>by
     have:eqD (dS x) (dS y)=decide (tx x=tx y):=by simp only[dS,eqD];rfl
     rw[this]
     exact decide_eq_decide.mpr ⟨ju,λh=>by rw[h]⟩
    simp only[dR,eqD,jc,e1]
    by_cases h1:a=c <;> by_cases h2:b=d <;> simp [h1,h2]
   rw[h]
   by_cases h1:r=s <;> by_cases h2:rs=ss <;> simp [h1,h2]
theorem Lined.eb{l:List Nat}{es zs:List Ent}(h:Lined k l ns es zs)(hE:∀e ∈ es,EB l e):∀e ∈ zs,EB l e:=λe he=>by
 have hm:=h.perm.mem_iff.mp he
 unfold qN at hm
 obtain⟨y,hy,rfl⟩:=List.mem_map.mp hm
 exact (hE y (List.mem_filter.mp hy).1).rule
theorem Lined.len{l:List Nat}{es zs:List Ent}(h:Lined k l ns es zs):zs.length<=es.length:=by
 rw[h.perm.length_eq]
 exact Ym k l ns es
def Yo(K:oO)(CO CR CW T CF:oP):Sp:=λvs H Q E=>∃(o a:oP) (k:Nat) (l:List Nat) (ns:List Int) (es:List Ent),vs=[.ref o,.ref a]/\OrdAt CO CR CW H o k l ns/\OG l ns k/\EnsL K H a es/\es.length<64/\(∀e ∈ es,EB l e)/\TabOk H T lp lq /\
 (∀(bs:List Ent) (D:oP) (H':Hp),ug k l ns 20 es (sE bs)->BG k l ns bs->SamT T H H'->TabOk H' T lp lq->EnsM K H' D bs->Q (.ref D) H')/\(ug k l ns 20 es sF->∀H',SamT T H H'->TabOk H' T lp lq->E (.ref CF) sF H')
def zcM(K:oO)(T:oP)(H:Hp)(k:Nat)(l:List Nat)(ns:List Int)(es:List Ent)(n:Nat)(H':Hp)(b:oP):Prop:=∃fs:List Ent,SamT T H H'/\TabOk H' T lp lq/\(∀r,ug k l ns n fs r->ug k l ns 20 es r)/\EnsL K H' b fs/\fs.length<64/\∀e ∈ fs,EB l e
theorem lr:zr ["order","entries","turn","lined_up"] ["order","entries"] (zb xV):=⟨rfl,rfl,rfl,by decide +kernel,rfl,by decide +kernel,by decide +kernel⟩
theorem Wg{f CO CR CW TB CF:oP}(B:Bt mg)(T:K4 K mg CF)(TM:TMo mg)(F:Fun K "thinned" "thinned" xV f fd)(nZ:Df P w K mg base CX0 6 "in_order" ["order","entries"] [] (qb K CO CR CW TB))(nL:Df P w K mg base (CXx P w) 6 "built_anew" ["order","entries"] [] (u7 K CO CR CW CF))(gn:Df P w K mg base CX0 1 "pairs_of" ["entries"] [] (wj K)):yg P w K mg base (CXx P w) 7 f fd ["order","entries"] (Yo K CO CR CW TB CF):=by
 obtain⟨t9,g9⟩:=TM.p
 refine Fun.okX F lr (λvs H Q E h=>?_) (λcdv A outer s H vs Q E hr hx h=>?_)
 ·obtain⟨o,a,k,l,ns,es,rfl,_⟩:=h
  rfl
 ·obtain⟨o,a,k,l,ns,es,rfl,ho,hG,hA,hz,hE,hTab,q1,q2⟩:=h
  refine⟨_,(zi (yA PassesOwn.leaving rfl (xo rfl B.range (za (xg (v:=.int 20) rfl g9 ⟨t9,rfl⟩) zc)) (zB (i:=2) lr.nd rfl (Or.inl rfl))
    (zi (zq (i:=3) lr.nd rfl (Or.inl rfl) (cl0 nZ hr .nil rfl (za (pv 0) (za (pv 1) zc))))
    (zi (zq (i:=1) lr.nd rfl (Or.inl rfl) (clP hx nL hr .nil rfl (za (pv 0) (za (pv 3) zc))))
    (zh (zW (zI (K9 (jP hr)) (cl0 gn hr .nil rfl (za (pv 1) zc)) (cl0 gn hr .nil rfl (za (pv 3) zc)) (zL _))
     (zh (zv (pv 1)))
     zC)))))
   (zh (yX hx rfl T.xi.toXC T.ini rfl T.g (za xB zc)))),?_⟩
  have s16:=yk
  obtain⟨ps0,hps0,_⟩:=id hTab
  refine zj (λσ H'=>∃b:oP,zcM K TB H k l ns es 0 H' b) ?_ ?_
  ·ac_rfl
   refine⟨by lia,by lia,ForR.by (λi σ H'=>∃(b:oP) (v2 v3:Option V),zcM K TB H k l ns es (20 - i) H' b/\σ=[sE (.ref o),sE (.ref b),v2,v3]) ⟨a,sF,sF,⟨es,SamT.of (Same.refl _),hTab,λr h=>h,hA,hz,hE⟩,rfl⟩ ?_ ?_⟩
   ·rintro i σ H1 hi ⟨b,v2,v3,⟨fs,s1,hT1,hr,hF,hfl,hFE⟩,rfl⟩
    have ho1:=ho.samT s1 hps0
    have hi20:i<20:=hi
    obtain⟨n,hn⟩:∃n,20 - i=n+1:=⟨20 - i - 1,by lia⟩
    rw[hn] at hr
    simp only[xu,bg,bf]
    refine zj (λσ H'=>SamT TB H1 H'/\TabOk H' TB lp lq/\∃(z:oP),(∃zs:List Ent,Lined k l ns fs zs/\EnsM K H' z zs)/\∃v2,σ=[sE (.ref o),sE (.ref b),v2,sE (.ref z)]) ?_ ?_
    ·ac_rfl
     exact Wo ho1 hG hF hfl hFE hT1 λD zs H' s' hT' _ hLn hM=>⟨s',hT',D,⟨zs,hLn,hM⟩,rfl⟩
    rintro σ H2 ⟨s2,hT2,z,⟨zs,hLn,hZ⟩,v2,rfl⟩
    have s12:=s1.trans s2
    have ho2:=ho.samT s12 hps0
    have hzE:=hLn.eb hFE
    have hzl:=hLn.len
    refine zj (λσ H'=>Same H2 H'/\∃(c:oP),(∃bs:List Ent,xF k l ns [] zs (sE bs)/\BG k l ns bs/\EnsM K H' c bs)/\σ=[sE (.ref o),sE (.ref c),v2,sE (.ref z)]) ?_ ?_
    ·ac_rfl
     exact WR ho2 hG hZ.l (by lia) hzE (λbs D H' hb hB s' _ hM=>⟨s',D,⟨bs,hb,hB,hM⟩,rfl⟩) λhb H' s'=>q2 (hr _ (.bad hLn hb)) H' (s12.trans (SamT.of s')) (hT2.same s')
    rintro σ H3 ⟨s3,c,⟨bs,hb,hB,hM⟩,rfl⟩
    have hbn:=hB.n
    ac_rfl
    refine wJ hM.l.is (by lia) λP1 H4 _ s4 hP1=>wJ ((hZ.same s3).same s4).l.is (by lia) λP2 H5 _ s5 hP2=>Kr (.inl ⟨(hP1.same s5).is,hP2.is⟩) (cK (zbn _) (by decide)) ?_
    rw[Uq]
    have s45:=s4.trans s5
    have s15:=s12.trans (SamT.of (s3.trans s45))
    have hT5:=hT2.same (s3.trans s45)
    refine⟨_,rfl,xp (λh=>?_) λh=>?_⟩
    ·exact q1 bs c H5 (hr _ (.done hLn hb (of_decide_eq_true h))) hB s15 hT5 (hM.same s45)
    ·have e:20 - (i+1)=n:=by lia
     rw[e]
     exact⟨bs,s15,hT5,λr h'=>hr r (.more hLn hb (λz=>h (decide_eq_true z)) h'),(hM.same s45).l,hbn,hB.e⟩
   ·rintro σ H' ⟨b,v2,v3,h,rfl⟩
    exact⟨b,h⟩
  rintro σ H2 ⟨b,fs,s2,hT2,hr,_⟩
  ac_rfl
  exact⟨by lia,q2 (hr _ (.out fs)) H2 s2 hT2⟩
def qf(K:oO):Sp:=λvs H Q _=>∃(a:oP) (ns:List Int) (k:Int),vs=[.ref a,.int k]/\SqL K H a (ns.map V.int)/\(∀z ∈ ns,uu z)/\0<=k/\∀c:Int,uu c->Q (.int c) H
theorem qd{k:Int}(hS:SqL K H a (ns.map V.int))(hB:∀z ∈ ns,uu z)(hk:0<=k)(h:∀c:Int,uu c->Q (.int c) H):qf K [.ref a,.int k] H Q E:=⟨a,ns,k,rfl,hS,hB,hk,h⟩
theorem Kv:zr ["_law_script","_law_k"] ["_law_script","_law_k"] (zb jj):=⟨rfl,rfl,rfl,by decide +kernel,rfl,by decide +kernel,by decide +kernel⟩
theorem J6(B:Bt mg)(F:Fun K "_law_cell" "_law_cell" jj f fd) : yg P w K mg base CX0 1 f fd ["_law_script","_law_k"] (qf K):=by
 refine F.ok Kv (λvs H Q E h=>?_) (λcdv A outer s H vs Q E hr h=>?_)
 ·obtain⟨a,ns,k,rfl,_⟩:=h
  rfl
 ·obtain⟨a,ns,k,rfl,hS,hB,hk,q⟩:=h
  refine⟨_,(zO (zW (zI za8 (pv 1) (zt yc rfl B.len aA (za (pv 0) zc)) (zL _))
    (zh (zv (zx WV (pv 0) (pv 1) (λ_ _=>rfl))))
    zC)
   (zh (zv zg))),?_⟩
  have s16:=yk
  rfl'
  refine⟨_,.inl ⟨_,hS,rfl⟩,xp (λc=>?_) (λc=>q 0 (by unfold uu;decide))⟩
  obtain⟨v,h1,h2⟩:=qY hk c
  rw[aH] at h2
  obtain⟨z,hz,rfl⟩:=Option.map_eq_some_iff.mp h2
  exact .inl ⟨_,hS,_,h1,q z (hB z (ae hz))⟩
def wk:Sp:=λvs H Q _=>∃(c t:Int),vs=[.int c,.int t]/\uu c/\0<=t/\t<=100/\∀z:Int,0<=z->Q (.int z) H
theorem wA{c t:Int}(hc:uu c)(h0:0<=t)(h1:t<=100)(q:∀z:Int,0<=z->Q (.int z) H):wk [.int c,.int t] H Q E:=⟨c,t,rfl,hc,h0,h1,q⟩
theorem lX:zr ["_law_cell_here","_law_turn","_law_step","_law_number"] ["_law_cell_here","_law_turn"] (zb vW):=⟨rfl,rfl,rfl,by decide +kernel,rfl,by decide +kernel,by decide +kernel⟩
theorem Qy(B:Bt mg)(F:Fun K "_law_mixed" "_law_mixed" vW f fd) : yg P w K mg base CX0 1 f fd ["_law_cell_here","_law_turn"] wk:=by
 refine F.ok lX (λvs H Q E h=>?_) (λcdv A outer s H vs Q E hr h=>?_)
 ·obtain⟨c,t,rfl,_⟩:=h
  rfl
 ·obtain⟨c,t,rfl,hc,h0,h1,q⟩:=h
  refine⟨_,(zi (zW (zI op_ge' (pv 0) (zE WU zg zg) (zL _))
    (zi (yA PassesOwn.never rfl (xo rfl B.range (za (zE op_add zg (zE xL (pv 1) zg)) zc)) (zB (i:=2) lX.nd rfl (Or.inl rfl))
     (zh (zq (i:=0) lX.nd rfl (Or.inl rfl) (zE wG (pv 0) (zE WU zg zg)))))
    (zh (zv (zE xL (pv 0) (zE WU zg zg)))))
    zC)
   (zi (zq (i:=3) lX.nd rfl (Or.inl rfl) (zE op_add (zE op_mul (zE UB (pv 0) (pv 0)) zg) (zE op_mul (zE op_mul (pv 0) zg) (zE op_add (pv 1) zg))))
   (zh (zv (zE wG (zE xL (zE op_mul (zE xL (zE op_add (pv 3) (zE op_mul (pv 1) zg)) zg) zg) zg) zg))))),?_⟩
  have s16:=yk
  have c6:zcg 10 6:=⟨by decide,by decide,by decide⟩
  have c12:zcg 10 12:=⟨by decide,by decide,by decide⟩
  have p6:(0:Int)<10 ^ Int.toNat 6/\(10:Int) ^ Int.toNat 6<1073741824:=by decide
  refine zj (λσ H'=>H'=H/\σ=[sE (.int c),sE (.int t),sF,sF]) ?_ ?_
  ·rfl'
   refine⟨c12,xp (λ_=>?_) (λ_=>trivial)⟩
   refine zj (λσ H'=>H'=H/\∃(z:Int) (v:Option V),σ=[sE (.int z),sE (.int t),v,sF]) ?_ ?_
   ·rfl'
    have e1:=bt t (b:=9) (by decide)
    have e2:=bu t (b:=9) (by decide)
    refine⟨by decide,by lia,by lia,ForR.by (λi σ H'=>H'=H/\∃(z:Int) (v:Option V),σ=[sE (.int z),sE (.int t),v,sF]) ⟨rfl,_,_,rfl⟩ ?_ λσ H' h=>h⟩
    rintro i σ H' hi ⟨rfl,z,v,rfl⟩
    rfl'
    exact⟨c6,p6.1,p6.2⟩
   rintro σ H1 ⟨rfl,z,v,rfl⟩
   rfl'
   exact⟨c6,p6.1,q _ (bt _ (by have:=p6.1;lia))⟩
  rintro σ H1 ⟨rfl,rfl⟩
  refine zj (λσ H'=>H'=H1/\∃z:Int,σ=[sE (.int c),sE (.int t),sF,sE (.int z)]) ?_ ?_
  ·rfl'
   exact⟨hc,hc,.inr ⟨by decide,by decide⟩,.inr ⟨by decide,by decide⟩,.inr ⟨by lia,by lia⟩⟩
  rintro σ H2 ⟨rfl,z,rfl⟩
  rfl'
  exact⟨.inr ⟨by decide,by decide⟩,by decide,.inr ⟨by decide,by decide⟩,by decide,⟨by decide,by decide⟩,q _ (Int.ediv_nonneg (bt _ (by decide)) (by decide))⟩
def w4:Sp:=λvs H Q _=>∃c m:Int,vs=[.int c,.int m]/\uu c/\0<=m/\m<=26/\∀l:List Nat,(l.length:Int)=m->l.Nodup->Yv l->Q (.str (tx l)) H
theorem Yn{c m:Int}(h:uu c)(h0:0<=m)(h1:m<=26)(q:∀l:List Nat,(l.length:Int)=m->l.Nodup->Yv l->Q (.str (tx l)) H):w4 [.int c,.int m] H Q E:=⟨c,m,rfl,h,h0,h1,q⟩
def zcN(c m:Int)(i:Nat)(σ:L2.St):Prop:=∃(left found:List Nat) (number:Int) (v5 v6:Option V),found.length=i/\(found ++ left).Perm alpha/\σ=[sE (.int c),sE (.int m),sE (.str (tx left)),sE (.int number),sE (.str (tx found)),v5,v6]
theorem fZ:zr ["_law_cell_here","_law_many","_law_left","_law_number","_law_letters_here","_law_k","_law_at"] ["_law_cell_here","_law_many"] (zb xZ):=⟨rfl,rfl,rfl,by decide +kernel,rfl,by decide +kernel,by decide +kernel⟩
theorem XB(B:Bt mg)(F:Fun K "_law_letters" "_law_letters" xZ f fd)(ir:Df P w K mg base CX0 1 "_law_mixed" ["_law_cell_here","_law_turn"] [] wk):yg P w K mg base CX0 2 f fd ["_law_cell_here","_law_many"] w4:=by
 refine F.ok fZ (λvs H Q E h=>?_) (λcdv A outer s H vs Q E hr h=>?_)
 ·obtain⟨c,m,rfl,_⟩:=h
  rfl
 ·obtain⟨c,m,rfl,hc,h0,h1,q⟩:=h
  refine⟨_,(zi (zq (i:=2) fZ.nd rfl (Or.inl rfl) xB)
   (zi (zq (i:=3) fZ.nd rfl (Or.inl rfl) (cl0 ir hr .nil rfl (za (pv 0) (za zg zc))))
   (zi (zq (i:=4) fZ.nd rfl (Or.inl rfl) xB)
   (zi (yA PassesOwn.never rfl (xo rfl B.range (za (pv 1) zc)) (zB (i:=5) fZ.nd rfl (Or.inl rfl))
    (zi (zq (i:=6) fZ.nd rfl (Or.inl rfl) (zE xL (pv 3) (zt yc rfl B.len aA (za (pv 2) zc))))
    (zi (zq (i:=3) fZ.nd rfl (Or.inl rfl) (zE wG (pv 3) (zt yc rfl B.len aA (za (pv 2) zc))))
    (zi (zq (i:=4) fZ.nd rfl (Or.inl rfl) (zE op_add_str (pv 4) (zx VY (pv 2) (pv 6) (λ_ _=>rfl))))
    (zh (zq (i:=2) fZ.nd rfl (Or.inl rfl) (zE op_add_str (yl wu (pv 2) xE (yj (pv 6))) (yl wu (pv 2) (yj (zE op_add (pv 6) zg)) xE))))))))
   (zh (zv (pv 4))))))),?_⟩
  have s16:=yk
  have ha:alpha.length=26:=rfl
  refine zj (λσ H'=>H'=H/\σ=[sE (.int c),sE (.int m),sE (.str (tx alpha)),sF,sF,sF,sF]) ?_ ?_
  ·rfl'
   exact VT
  rintro σ H1 ⟨rfl,rfl⟩
  refine zj (λσ H'=>H'=H1/\∃z:Int,σ=[sE (.int c),sE (.int m),sE (.str (tx alpha)),sE (.int z),sF,sF,sF]) ?_ ?_
  ·rfl'
   exact wA hc (by decide) (by decide) λz _=>⟨rfl,z,rfl⟩
  rintro σ H2 ⟨rfl,z,rfl⟩
  refine zj (λσ H'=>H'=H2/\σ=[sE (.int c),sE (.int m),sE (.str (tx alpha)),sE (.int z),sE (.str (tx [])),sF,sF]) ?_ ?_
  ·rfl'
   rfl
  rintro σ H3 ⟨rfl,rfl⟩
  refine zj (λσ H'=>H'=H3/\zcN c m m.toNat σ) ?_ ?_
  ·rfl'
   refine⟨by lia,by lia,ForR.by (λi σ H'=>H'=H3/\zcN c m i σ) ⟨rfl,alpha,[],z,sF,sF,rfl,.refl _,rfl⟩ ?_ λσ H' h=>h⟩
   rintro i σ H' hi ⟨rfl,left,found,number,v5,v6,hf,hp,rfl⟩
   have hpl:=hp.length_eq
   rw[am] at hpl
   have hl:left.length+i=26:=by lia
   have hm0:=bt number (b:=(left.length:Int)) (by lia)
   have hm1:=bu number (b:=(left.length:Int)) (by lia)
   generalize hz:number % (left.length:Int)=at_ at hm0 hm1
   obtain⟨v,e1,e2⟩:=qY hm0 hm1
   simp only[xu,bg,bf]
   refine zj (λσ H''=>H''=H'/\∃v5,σ=[sE (.int c),sE (.int m),sE (.str (tx left)),sE (.int number),sE (.str (tx found)),v5,sE (.int at_)]) ?_ ?_
   ·rfl'
    exact⟨by lia,by lia,hz⟩
   rintro σ G1 ⟨rfl,v5',rfl⟩
   refine zj (λσ H''=>H''=G1/\∃n v5,σ=[sE (.int c),sE (.int m),sE (.str (tx left)),sE (.int n),sE (.str (tx found)),v5,sE (.int at_)]) ?_ ?_
   ·rfl'
    exact⟨by lia,⟨by lia,by lia⟩⟩
   rintro σ G2 ⟨rfl,n,v5',rfl⟩
   refine zj (λσ H''=>H''=G2/\∃v5,σ=[sE (.int c),sE (.int m),sE (.str (tx left)),sE (.int n),sE (.str (tx (found ++ [v]))),v5,sE (.int at_)]) ?_ ?_
   ·rfl'
    exact⟨by lia,v,e1,by lia,rfl⟩
   rintro σ G3 ⟨rfl,v5',rfl⟩
   have hc1:=wB left sF (sE at_)
   have hc2:=wB left (sE (at_+1)) sF
   rfl'
   refine⟨by lia,by lia,by lia,_,_,_,_,_,by rw[am,hf];rfl,?_,rfl⟩
   rw[jr _ hm0,vA _ (by lia),ax]
   have e3:(at_+1).toNat=at_.toNat+1:=by lia
   rw[e3]
   exact ((V4 e2).append_left found).trans hp
  rintro σ H4 ⟨rfl,left,found,number,v5,v6,hf,hp,rfl⟩
  rfl'
  have hnd:(found ++ left).Nodup:=hp.nodup_iff.mpr (by decide)
  refine q found (by lia) (List.nodup_append.mp hnd).1 λc hc=>?_
  have h:c ∈ alpha:=hp.mem_iff.mp (bn _ hc)
  exact (by decide:∀c ∈ alpha,97<=c/\c<=122) c h
def qV:Sp:=λvs H Q _=>∃(ls:List Nat) (c m:Int),vs=[.int c,.str (tx ls),.int m]/\0<=c/\1<=ls.length/\ls.length<=26/\0<=m/\m<=100/\∀l:List Nat,(l.length:Int)<=m->(∀x ∈ l,x ∈ ls)->Q (.str (tx l)) H
theorem j9{ls:List Nat}{c m:Int}(h0:0<=c)(h1:1<=ls.length)(h2:ls.length<=26)(h3:0<=m)(h4:m<=100)(h:∀l:List Nat,(l.length:Int)<=m->(∀x ∈ l,x ∈ ls)->Q (.str (tx l)) H):qV [.int c,.str (tx ls),.int m] H Q E :=
 ⟨ls,c,m,rfl,h0,h1,h2,h3,h4,h⟩
theorem iI:zr ["_law_number","_law_letters_here","_law_most","_law_size","_law_word_here","_law_k"] ["_law_number","_law_letters_here","_law_most"] (zb jA):=⟨rfl,rfl,rfl,by decide +kernel,rfl,by decide +kernel,by decide +kernel⟩
theorem Kq(B:Bt mg)(F:Fun K "_law_word" "_law_word" jA f fd) : yg P w K mg base CX0 1 f fd ["_law_number","_law_letters_here","_law_most"] qV:=by
 refine F.ok iI (λvs H Q E h=>?_) (λcdv A outer s H vs Q E hr h=>?_)
 ·obtain⟨ls,c,m,rfl,_⟩:=h
  rfl
 ·obtain⟨ls,c,m,rfl,h0,h1,h2,h3,h4,q⟩:=h
  refine⟨_,(zO (zq (i:=3) iI.nd rfl (Or.inl rfl) (zE xL (pv 0) (zE op_add (pv 2) zg)))
   (zO (zq (i:=0) iI.nd rfl (Or.inl rfl) (zE wG (pv 0) (zE op_add (pv 2) zg)))
   (zO (zq (i:=4) iI.nd rfl (Or.inl rfl) xB)
   (zO (yA PassesOwn.never rfl (xo rfl B.range (za (pv 3) zc)) (zB (i:=5) iI.nd rfl (Or.inl rfl))
    (zO (zq (i:=4) iI.nd rfl (Or.inl rfl) (zE op_add_str (pv 4) (zx VY (pv 1) (zE xL (pv 0) (zt yc rfl B.len aA (za (pv 1) zc))) (λ_ _=>rfl))))
    (zh (zq (i:=0) iI.nd rfl (Or.inl rfl) (zE wG (pv 0) (zt yc rfl B.len aA (za (pv 1) zc)))))))
   (zh (zv (pv 4))))))),?_⟩
  have s16:=yk
  rfl'
  have m0:=bt c (b:=m+1) (by lia)
  have m1:=bu c (b:=m+1) (by lia)
  refine⟨by lia,⟨by lia,by lia⟩,by lia,by lia,ForR.by (λi σ H'=>H'=H/\∃(found:List Nat) (number:Int) (v5:Option V),σ=[sE (.int number),sE (.str (tx ls)),sE (.int m),sE (.int (c % (m+1))),sE (.str (tx found)),v5]/\found.length=i/\∀x ∈ found,x ∈ ls)
   ⟨rfl,[],_,sF,rfl,rfl,λx h=>(nomatch h)⟩ ?_ ?_⟩
  ·rintro i σ H' hi ⟨rfl,found,number,v5,rfl,hf,hm⟩
   rfl'
   have hm0:=bt number (b:=(ls.length:Int)) (by lia)
   have hm1:=bu number (b:=(ls.length:Int)) (by lia)
   obtain⟨v,e1,e2⟩:=qY hm0 hm1
   repeat (refine And.intro (by first | lia | decide | exact⟨by lia,by lia⟩ | assumption) ?_)
   refine⟨v,e1,?_⟩
   repeat (refine And.intro (by first | lia | decide | exact⟨by lia,by lia⟩ | assumption) ?_)
   refine⟨by rw[am,hf];rfl,λx hx=>?_⟩
   rcases List.mem_append.mp hx with h | h
   ·exact hm x h
   ·rw[List.mem_singleton.mp h]
    exact ae e2
  ·rintro σ H' ⟨rfl,found,number,v5,rfl,hf,hm⟩
   rfl'
   exact q found (by lia) hm
def qy:Sp:=λvs H Q _=>∃(ls:List Nat) (c m:Int),vs=[.int c,.str (tx ls),.int m]/\uu c/\1<=ls.length/\ls.length<=26/\0<=m/\m<=100/\∀(o n:List Nat) (p:oP),(o.length:Int)<=m->(n.length:Int)<=m->(∀x ∈ o,x ∈ ls)->(∀x ∈ n,x ∈ ls)->H p=sF->Q (.ref p) (upd H p (.tup [.str (tx o),.str (tx n)]))
theorem QB{ls:List Nat}{c m:Int}(h0:uu c)(h1:1<=ls.length)(h2:ls.length<=26)(h3:0<=m)(h4:m<=100)(h:∀(o n:List Nat) (p:oP),(o.length:Int)<=m->(n.length:Int)<=m->(∀x ∈ o,x ∈ ls)->(∀x ∈ n,x ∈ ls)->H p=sF->Q (.ref p) (upd H p (.tup [.str (tx o),.str (tx n)]))):qy [.int c,.str (tx ls),.int m] H Q E:=⟨ls,c,m,rfl,h0,h1,h2,h3,h4,h⟩
theorem KF:zr ["_law_cell_here","_law_letters_here","_law_most"] ["_law_cell_here","_law_letters_here","_law_most"] (zb jl):=⟨rfl,rfl,rfl,by decide +kernel,rfl,by decide +kernel,by decide +kernel⟩
theorem Js(B:Bt mg)(F:Fun K "_law_pair" "_law_pair" jl f fd)(ni:Df P w K mg base CX0 1 "_law_word" ["_law_number","_law_letters_here","_law_most"] [] qV)(ir:Df P w K mg base CX0 1 "_law_mixed" ["_law_cell_here","_law_turn"] [] wk):yg P w K mg base CX0 2 f fd ["_law_cell_here","_law_letters_here","_law_most"] qy:=by
 refine F.ok KF (λvs H Q E h=>?_) (λcdv A outer s H vs Q E hr h=>?_)
 ·obtain⟨ls,c,m,rfl,_⟩:=h
  rfl
 ·obtain⟨ls,c,m,rfl,hc,h1,h2,h3,h4,q⟩:=h
  refine⟨_,(zh (zv (yh (za (cl0 ni hr .nil rfl (za (cl0 ir hr .nil rfl (za (pv 0) (za zg zc))) (za (pv 1) (za (pv 2) zc)))) (za (cl0 ni hr .nil rfl (za (cl0 ir hr .nil rfl (za (pv 0) (za zg zc))) (za (pv 1) (za (pv 2) zc)))) zc))))),?_⟩
  have s16:=yk
  rfl'
  exact wA hc (by decide) (by decide) λz hz=>j9 hz h1 h2 h3 h4 λo ho mo=>wA hc (by decide) (by decide) λz hz=>j9 hz h1 h2 h3 h4 λn hn mn=>⟨by lia,λp hp=>q o n p ho hn mo mn hp⟩
structure zdk(K:oO):Prop where
 ii:aS K (.type "int") (.type "int")=sE sG
 ib:aS K (.type "int") (.type "bool")=sE sH
def uZ:Sp:=λvs H Q _=>∃i:Int,vs=[.int i]/\Q (.bl sG) H
theorem ZJ{i:Int}(h:Q (.bl sG) H):uZ [.int i] H Q E:=⟨i,rfl,h⟩
theorem U3:zr ["_law_found"] ["_law_found"] (zb ud):=⟨rfl,rfl,rfl,by decide +kernel,rfl,by decide +kernel,by decide +kernel⟩
theorem UH(B:Bt mg)(T:zdk K)(F:Fun K "_law_whole" "_law_whole" ud f fd):yg P w K mg base CX0 1 f fd ["_law_found"] uZ:=by
 refine F.ok U3 (λvs H Q E h=>?_) (λcdv A outer s H vs Q E hr h=>?_)
 ·obtain⟨a,rfl,_⟩:=h
  rfl
 ·obtain⟨i,rfl,q⟩:=h
  refine⟨_,(zh (zv (zbc (xD rfl B.isi (pv 0) rfl B.int PySem.Pv.boot_int) (zav (QJ (xD rfl B.isi (pv 0) rfl B.bool PySem.Pv.boot_bool)))))),?_⟩
  rfl'
  exact⟨_,.inl (.int _),sG,T.ii,zc1 ⟨_,.inl (.int _),sH,T.ib,q⟩⟩
structure TLs(K:oO):Prop where
 ll:aS K (.type "list") (.type "list")=sE sG
 tt:aS K (.type "tuple") (.type "tuple")=sE sG
 bb:aS K (.type "bool") (.type "bool")=sE sG
def jV(K:oO):Sp:=λvs H Q _=>∃(t:oP) (ss:List Stp),vs=[.ref t]/\Is K H (.lst (ss.map dSt)) (.ref t)/\Q (.bl sG) H
theorem nM:zr ["_law_found","_law_step"] ["_law_found"] (zb vZ):=⟨rfl,rfl,rfl,by decide +kernel,rfl,by decide +kernel,by decide +kernel⟩
theorem UK(B:Bt mg)(T:TLs K)(F:Fun K "_law_steps" "_law_steps" vZ f fd)(nY:Df P w K mg base CX0 1 "_law_whole" ["_law_found"] [] uZ):yg P w K mg base CX0 2 f fd ["_law_found"] (jV K):=by
 refine F.ok nM (λvs H Q E h=>?_) (λcdv A outer s H vs Q E hr h=>?_)
 ·obtain⟨t,ss,rfl,_⟩:=h
  rfl
 ·obtain⟨t,ss,rfl,hT,q⟩:=h
  refine⟨_,(zi (zW (yn (xn (xD rfl B.isi (pv 0) rfl B.list PySem.Pv.boot_list) (λ_=>rfl)))
    (zh (zv yG))
    zC)
   (zi (yA PassesOwn.never rfl (yF (pv 0)) (zB (i:=1) nM.nd rfl (Or.inl rfl))
    (zi (zW (PW.pt (kR (yn (xn (xD rfl B.isi (pv 1) rfl B.tuple PySem.Pv.boot_tuple) (λ_=>rfl))) (kR (zI XR (zt yc rfl B.len aA (za (pv 1) zc)) zg (zL _)) (ZL (yn (xn (xD rfl B.isi (zx ix_tup (pv 1) zg (λ_ _=>rfl)) rfl B.bool PySem.Pv.boot_bool) (λ_=>rfl)))))))
     (zh (zv yG))
     zC)
    (zh (zW (PW.pt (kR (yn (xn (cl0 nY hr .nil rfl (za (zx ix_tup (pv 1) zg (λ_ _=>rfl)) zc)) (λ_=>rfl))) (ZL (yn (xn (cl0 nY hr .nil rfl (za (zx ix_tup (pv 1) zg (λ_ _=>rfl)) zc)) (λ_=>rfl))))))
     (zh (zv yG))
     zC))))
   (zh (zv yG)))),?_⟩
  have s16:=yk
  simp only[Is] at hT
  obtain⟨_,ts,e,hTs,hJ⟩:=hT
  cases e
  refine zj (λσ H'=>H'=H/\σ=[sE (.ref t),sF]) ?_ ?_
  ·rfl'
   exact⟨_,.inr (.inr (.inl ⟨_,_,rfl,rfl,hTs⟩)),sG,T.ll,Uj trivial⟩
  rintro σ H1 ⟨rfl,rfl⟩
  refine zj (λσ H'=>H'=H1/\∃v1,σ=[sE (.ref t),v1]) ?_ ?_
  ·rfl'
   refine⟨⟨_,hTs⟩,ForL.by (xs:=ts) (λi σ H'=>H'=H1/\∃v1,σ=[sE (.ref t),v1]) ⟨rfl,_,rfl⟩ (λi σ H' _ h=>by rw[h.1];exact hTs) ?_ λσ H' h=>h⟩
   rintro i x σ H' hx ⟨rfl,v1,rfl⟩
   obtain⟨u,pu,hui,rfl,hqu⟩:=vL hJ hx
   simp only[xu,bg,bf]
   refine zj (λσ H''=>H''=H'/\σ=[sE (.ref t),sE (.ref pu)]) ?_ ?_
   ·rfl'
    exact⟨_,.inr (.inr (.inr ⟨_,_,rfl,rfl,hqu⟩)),sG,T.tt,Uj ⟨_,.inr ⟨_,hqu,rfl⟩,xp (λh=>absurd rfl h) λ_=>⟨_,hqu,_,rfl,_,.inl (.bl _),sG,T.bb,Uj trivial⟩⟩⟩
   rintro σ G ⟨rfl,rfl⟩
   rfl'
   exact⟨_,hqu,_,rfl,ZJ ⟨sG,rfl,Uj ⟨_,hqu,_,rfl,ZJ ⟨sG,rfl,Uj rfl⟩⟩⟩⟩
  rintro σ H2 ⟨rfl,v1,rfl⟩
  rfl'
  exact q
def vz(K:oO):Sp:=λvs H Q _=>∃(a t:oP) (rs:List zw) (w w':List Nat) (s:Stp),vs=[.ref a,.str (tx w),.ref t]/\Is K H (.lst (rs.map dR)) (.ref a)/\jz rs/\w.length<=100000/\SqT K H t [.int s.1,.int s.2.1,.bl s.2.2]/\yH rs w s=sE w'/\Q (.str (tx w')) H
theorem Zt{a t:oP}{w w':List Nat}{s:Stp}(h1:Is K H (.lst (rs.map dR)) (.ref a))(h2:jz rs)(h3:w.length<=100000)(h4:SqT K H t [.int s.1,.int s.2.1,.bl s.2.2])(h5:yH rs w s=sE w')(q:Q (.str (tx w')) H):vz K [.ref a,.str (tx w),.ref t] H Q E:=⟨a,t,rs,w,w',s,rfl,h1,h2,h3,h4,h5,q⟩
theorem lQ:zr ["_law_pacts","_law_word_here","_law_step","_law_old","_law_new"] ["_law_pacts","_law_word_here","_law_step"] (zb jq):=⟨rfl,rfl,rfl,by decide +kernel,rfl,by decide +kernel,by decide +kernel⟩
theorem KL(B:Bt mg)(F:Fun K "_law_used" "_law_used" jq f fd) : yg P w K mg base CX0 1 f fd ["_law_pacts","_law_word_here","_law_step"] (vz K):=by
 refine F.ok lQ (λvs H Q E h=>?_) (λcdv A outer s H vs Q E hr h=>?_)
 ·obtain⟨a,t,rs,w,w',s,rfl,_⟩:=h
  rfl
 ·obtain⟨a,t,rs,w,w',s,rfl,hR,ok,hw,ht,ha,q⟩:=h
  refine⟨_,(zi (zq (i:=3) lQ.nd rfl (Or.inl rfl) (zx ix_tup (zx ix_list (pv 0) (zx ix_tup (pv 2) zg (λ_ _=>rfl)) (λ_ _=>rfl)) zg (λ_ _=>rfl)))
   (zi (zq (i:=4) lQ.nd rfl (Or.inl rfl) (zx ix_tup (zx ix_list (pv 0) (zx ix_tup (pv 2) zg (λ_ _=>rfl)) (λ_ _=>rfl)) zg (λ_ _=>rfl)))
   (zi (zW (yn (xn (zx ix_tup (pv 2) zg (λ_ _=>rfl)) (λ_=>rfl)))
    (zO (zq (i:=3) lQ.nd rfl (Or.inl rfl) (zx ix_tup (zx ix_list (pv 0) (zx ix_tup (pv 2) zg (λ_ _=>rfl)) (λ_ _=>rfl)) zg (λ_ _=>rfl)))
    (zh (zq (i:=4) lQ.nd rfl (Or.inl rfl) (zx ix_tup (zx ix_list (pv 0) (zx ix_tup (pv 2) zg (λ_ _=>rfl)) (λ_ _=>rfl)) zg (λ_ _=>rfl)))))
    zC)
   (zh (zv (zE op_add_str (zE op_add_str (yl wu (pv 1) xE (yj (zx ix_tup (pv 2) zg (λ_ _=>rfl)))) (pv 4)) (yl wu (pv 1) (yj (zE op_add (zx ix_tup (pv 2) zg (λ_ _=>rfl)) (zt yc rfl B.len aA (za (pv 3) zc)))) xE))))))),?_⟩
  have s16:=yk
  simp only[Is] at hR
  obtain⟨_,xs,e,hX,hI⟩:=hR
  cases e
  have hb:0<=s.1/\s.1<rs.length:=de λhb=>by rw[wc hb] at ha;cases ha
  obtain⟨p,a1,_,hp⟩:=zch hI hb.1 hb.2
  have gl:=JW ok s.1.toNat
  rw[xj hb] at ha
  generalize rs.getD s.1.toNat ([],[])=r at *
  refine zj (λσ H'=>H'=H/\σ=[sE (.ref a),sE (.str (tx w)),sE (.ref t),sE (.str (tx r.1)),sF]) ?_ ?_
  ·rfl'
   exact⟨_,ht,_,rfl,_,_,rfl,hX,_,a1,_,rfl,_,hp,rfl⟩
  rintro σ H1 ⟨rfl,rfl⟩
  refine zj (λσ H'=>H'=H1/\σ=[sE (.ref a),sE (.str (tx w)),sE (.ref t),sE (.str (tx r.1)),sE (.str (tx r.2))]) ?_ ?_
  ·rfl'
   exact⟨_,ht,_,rfl,_,_,rfl,hX,_,a1,_,rfl,_,hp,rfl⟩
  rintro σ H2 ⟨rfl,rfl⟩
  refine zj (λσ H'=>H'=H2/\σ=[sE (.ref a),sE (.str (tx w)),sE (.ref t),sE (.str (tx (sdl r s.2.2).1)),sE (.str (tx (sdl r s.2.2).2))]) ?_ ?_
  ·rfl'
   refine⟨_,ht,_,rfl,_,rfl,xp (λh=>⟨_,ht,_,rfl,_,_,rfl,hX,_,a1,_,rfl,_,hp,_,rfl,_,ht,_,rfl,_,_,rfl,hX,_,a1,_,rfl,_,hp,_,rfl,?_⟩) λh=>?_⟩
   ·rw[h]
    exact⟨rfl,rfl⟩
   ·rw[Bool.not_eq_false] at h
    rw[h]
    exact⟨rfl,rfl⟩
  rintro σ H3 ⟨rfl,rfl⟩
  have hol:(sdl r s.2.2).1.length<=100:=by
   cases s.2.2
   ·exact gl.2
   ·exact gl.1
  have hnl:(sdl r s.2.2).2.length<=100:=by
   cases s.2.2
   ·exact gl.1
   ·exact gl.2
  generalize sdl r s.2.2=on at *
  have hst:zu w s.2.1 on.1=sG:=de λhst=>by rw[if_neg hst] at ha;cases ha
  rw[if_pos hst] at ha
  obtain⟨_,_,h0,h1⟩:=xt hst
  have c1:=wB w sF (sE s.2.1)
  have c2:=wB w (sE (s.2.1 + ↑on.1.length)) sF
  rfl'
  refine⟨_,ht,_,rfl,_,rfl,by lia,by lia,_,ht,_,rfl,by lia,_,rfl,by lia,?_,?_⟩
  ·rw[am]
   lia
  ·rw[Kw h0]
   cases ha
   exact q
theorem Xy{w o:List Nat}{n:Nat}(h:(n:Int)+o.length<=w.length):zu w (n:Int) o=decide (cut w (sE (n:Int)) (sE ((n:Int)+(o.length:Int)))=o):=by
 unfold zu
 rw[Z2 _ (by lia) (by lia) (by lia)]
 have e:((n:Int)+(o.length:Int) - (n:Int)).toNat=o.length:=by lia
 rw[e]
 exact decide_eq_decide.mpr ⟨λh=>h.2.2,λh'=>⟨by lia,by lia,h'⟩⟩
theorem Xe{a p:oP}{xs:List V}{ys zs:List V}(hp:H p=sE (.lst ys))(h:SqT K H a xs):SqT K (upd H p (.lst zs)) a xs:=by
 rcases h with (h | ⟨o,h⟩) | h
 ·exact .inl (.inl (by rw[zo (λe=>by rw[e,hp] at h;cases h)];exact h))
 ·exact .inl (.inr ⟨o,by rw[zo (λe=>by rw[e,hp] at h;cases h)];exact h⟩)
 ·exact .inr h
def kA(K:oO):Sp:=λvs H Q _=>∃(a:oP) (rs:List zw) (w:List Nat) (m:Int),vs=[.ref a,.str (tx w),.int m]/\Is K H (.lst (rs.map dR)) (.ref a)/\jz rs/\w.length<=900/\∀(D:oP) (H':Hp) (us:List Stp),H D=sF->Same H H'->LsA K H' D (us.map dSt)->us.length<=100000->(∀s ∈ us,Fit rs w m s)->Q (.ref D) H'
theorem UI{w:List Nat}{m:Int}(h1:Is K H (.lst (rs.map dR)) (.ref a))(h2:jz rs)(h3:w.length<=900)(h:∀(D:oP) (H':Hp) (us:List Stp),H D=sF->Same H H'->LsA K H' D (us.map dSt)->us.length<=100000->(∀s ∈ us,Fit rs w m s)->Q (.ref D) H'):kA K [.ref a,.str (tx w),.int m] H Q E:=⟨a,rs,w,m,rfl,h1,h2,h3,h⟩
theorem gN:zr ["_law_pacts","_law_word_here","_law_most","_law_found","_law_number","_law_pact","_law_forth","_law_old","_law_place","_law_step"] ["_law_pacts","_law_word_here","_law_most"] (zb jm):=⟨rfl,rfl,rfl,by decide +kernel,rfl,by decide +kernel,by decide +kernel⟩
theorem KH(B:Bt mg)(F:Fun K "_law_uses" "_law_uses" jm f fd)(nN:Df P w K mg base CX0 1 "_law_used" ["_law_pacts","_law_word_here","_law_step"] [] (vz K)):yg P w K mg base CX0 2 f fd ["_law_pacts","_law_word_here","_law_most"] (kA K):=by
 refine F.ok gN (λvs H Q E h=>?_) (λcdv A outer s H vs Q E hr h=>?_)
 ·obtain⟨a,rs,w,m,rfl,_⟩:=h
  rfl
 ·obtain⟨a,rs,w,m,rfl,hR,ok,hw,q⟩:=h
  refine⟨_,(zi (zq (i:=3) gN.nd rfl (Or.inl rfl) (vg zc))
   (zi (yA PassesOwn.never rfl (wd rfl B.enum (za (pv 0) zc)) (uA (n:=2) rfl (yd (zB (i:=4) gN.nd rfl (Or.inl rfl)) (yd (zB (i:=5) gN.nd rfl (Or.inl rfl)) wy)))
    (zh (yA PassesOwn.never rfl (Q6 (yh (za yG (za yG zc)))) (zB (i:=6) gN.nd rfl (Or.inl rfl))
     (zi (zq (i:=7) gN.nd rfl (Or.inl rfl) (zx ix_tup (pv 5) zg (λ_ _=>rfl)))
     (zi (zW (yn (xn (pv 6) (λ_=>rfl)))
      (zh (zq (i:=7) gN.nd rfl (Or.inl rfl) (zx ix_tup (pv 5) zg (λ_ _=>rfl))))
      zC)
     (zh (yA PassesOwn.never rfl (xo rfl B.range (za (zE qL (zE uF (zt yc rfl B.len aA (za (pv 1) zc)) (zt yc rfl B.len aA (za (pv 7) zc))) zg) zc)) (zB (i:=8) gN.nd rfl (Or.inl rfl))
      (zi (zq (i:=9) gN.nd rfl (Or.inl rfl) (yh (za (pv 4) (za (pv 8) (za (pv 6) zc)))))
      (zh (zW (PW.pt (QT (zI uL (yl QQ (pv 1) (yj (pv 8)) (yj (zE qL (pv 8) (zt yc rfl B.len aA (za (pv 7) zc))))) (pv 7) (zL _)) (WN (zI vK (zt yc rfl B.len aA (za (cl0 nN hr .nil rfl (za (pv 0) (za (pv 1) (za (pv 9) zc)))) zc)) (pv 2) (zL _)))))
       (zh (wz (vt bO cf ci xH (pv 3) (za (pv 9) zc))))
       zC))))))))))
   (zh (zv (pv 3))))),?_⟩
  have s16:=yk
  have hR':=hR
  simp only[Is] at hR'
  obtain⟨_,xs,e,hX,hI⟩:=hR'
  cases e
  have hxl:=hI.len
  rw[af] at hxl
  have okl:=ok.1
  refine zj (λσ H'=>∃D:oP,H D=sF/\Same H H'/\LsA K H' D []/\σ=[sE (.ref a),sE (.str (tx w)),sE (.int m),sE (.ref D),sF,sF,sF,sF,sF,sF]) ?_ ?_
  ·rfl'
   exact⟨by lia,λD hD=>⟨D,hD,zf hD,LsA.nil,rfl⟩⟩
  rintro σ H1 ⟨D,hD,s1,hL1,rfl⟩
  refine zj (λσ H'=>∃us:List Stp,Same H H'/\LsA K H' D (us.map dSt)/\us.length<=100000/\(∀s ∈ us,Fit rs w m s)/\∃v4 v5 v6 v7 v8 v9,σ=[sE (.ref a),sE (.str (tx w)),sE (.int m),sE (.ref D),v4,v5,v6,v7,v8,v9]) ?_ ?_
  ·rfl'
   refine⟨⟨_,s1.seq hX⟩,ForEL.by (xs:=xs) (λi σ H'=>∃us:List Stp,Same H H'/\LsA K H' D (us.map dSt)/\us.length<=i * 2002/\(∀s ∈ us,Fit rs w m s)/\∃v4 v5 v6 v7 v8 v9,σ=[sE (.ref a),sE (.str (tx w)),sE (.int m),sE (.ref D),v4,v5,v6,v7,v8,v9]) ⟨[],s1,hL1,aJ _,λs h=>(nomatch h),_,_,_,_,_,_,rfl⟩ ?_ ?_ ?_⟩
   ·rintro i σ H' _ ⟨us,hs,_⟩
    exact hs.seq hX
   ·rintro i x σ H' p hx ⟨us,hs,hL,hl,hf,v4,v5,v6,v7,v8,v9,rfl⟩ hp
    obtain⟨r,pr,hri,rfl,hqr⟩:=hI.getR hx
    have hi:=(List.getElem?_eq_some_iff.mp hri).1
    have b:=ok.2 r (ae hri)
    have er:rs.getD i ([],[])=r:=by rw[ac,hri];rfl
    rfl'
    refine⟨_,SqT.of ze,rfl,_,_,rfl,_,_,rfl,rfl,?_⟩
    refine⟨by lia,λp2 hp2=>?_⟩
    have hs3:Same H' (upd (upd H' p (.tup [.int (i:Nat),.ref pr])) p2 (.tup [.bl sG,.bl sH])):=(zf hp).trans (zf hp2)
    have hp3:(upd (upd H' p (.tup [.int (i:Nat),.ref pr])) p2 (.tup [.bl sG,.bl sH])) p2=sE (.tup [.bl sG,.bl sH]):=ze
    generalize upd (upd H' p (.tup [.int (i:Nat),.ref pr])) p2 (.tup [.bl sG,.bl sH])=H3 at *
    have hD3:p2≠D:=λe=>by
     obtain⟨ys,hY,_⟩:=hL.same hs3
     rw[e,hY] at hp3
     cases hp3
    refine⟨⟨_,SqT.of hp3⟩,ForT.by (xs:=[.bl sG,.bl sH]) (λj σ H4=>H4 p2=sE (.tup [.bl sG,.bl sH])/\Same H H4/\∃us:List Stp,LsA K H4 D (us.map dSt)/\us.length<=i * 2002+j * 1001/\(∀s ∈ us,Fit rs w m s)/\∃v6 v7 v8 v9,σ=[sE (.ref a),sE (.str (tx w)),sE (.int m),sE (.ref D),sE (.int (i:Nat)),sE (.ref pr),v6,v7,v8,v9]) ⟨hp3,hs.trans hs3,us,hL.same hs3,by lia,hf,_,_,_,_,rfl⟩ (λj σ H4 _ h=>SqT.of h.1) ?_ ?_⟩
    ·rintro j y σ H4 hy ⟨hp4,hs4,us,hL4,hl4,hf4,v6,v7,v8,v9,rfl⟩
     obtain⟨f,rfl⟩:∃f:Bool,y=.bl f:=by
      match j,hy with
      | 0,hy=>exact⟨_,(Option.some.inj hy).symm⟩
      | 1,hy=>exact⟨_,(Option.some.inj hy).symm⟩
      | j+2,hy=>simp at hy
     rfl'
     refine zj (λσ H'=>H'=H4/\σ=[sE (.ref a),sE (.str (tx w)),sE (.int m),sE (.ref D),sE (.int (i:Nat)),sE (.ref pr),sE (.bl f),sE (.str (tx r.1)),v8,v9]) ?_ ?_
     ·rfl'
      exact⟨_,zm hs4 hqr,rfl⟩
     rintro σ H5 ⟨rfl,rfl⟩
     refine zj (λσ H'=>H'=H5/\σ=[sE (.ref a),sE (.str (tx w)),sE (.int m),sE (.ref D),sE (.int (i:Nat)),sE (.ref pr),sE (.bl f),sE (.str (tx (sdl r f).1)),v8,v9]) ?_ ?_
     ·rfl'
      refine xp (λh=>⟨_,zm hs4 hqr,?_⟩) λh=>?_
      ·rw[h]
       rfl
      ·rw[Bool.not_eq_false] at h
       rw[h]
       rfl
     rintro σ H6 ⟨rfl,rfl⟩
     have bo:(sdl r f).1.length<=100/\(sdl r f).2.length<=100:=by
      unfold sdl
      split
      ·exact b
      ·exact⟨b.2,b.1⟩
     have aft:∀n:Nat,(n:Int)+(sdl r f).1.length<=w.length->cut w (sE (n:Int)) (sE ((n:Int)+((sdl r f).1.length:Int)))=(sdl r f).1->∃w',yH rs w (((i:Nat):Int),((n:Nat):Int),f)=sE w'/\w'.length<=1000:=λn hn hc=>by
      have hst:zu w (n:Int) (sdl r f).1=sG:=by
       rw[Xy hn]
       exact decide_eq_true hc
      refine⟨yV w (n:Int) (sdl r f).1 (sdl r f).2,?_,?_⟩
      ·rw[xj (by show (0:Int)<=(i:Int)/\(i:Int)<rs.length;lia)]
       simp only
       rw[show ((i:Nat):Int).toNat=i from rfl,er,if_pos hst]
      ·have:=Qr (n:=(sdl r f).2) hst
       lia
     generalize sdl r f=o at *
     rfl'
     refine⟨by lia,by lia,by lia,by lia,ForR.by (λn σ H4=>H4 p2=sE (.tup [.bl sG,.bl sH])/\Same H H4/\∃us:List Stp,LsA K H4 D (us.map dSt)/\us.length<=i * 2002+j * 1001+n/\(∀s ∈ us,Fit rs w m s)/\∃v8 v9,σ=[sE (.ref a),sE (.str (tx w)),sE (.int m),sE (.ref D),sE (.int (i:Nat)),sE (.ref pr),sE (.bl f),sE (.str (tx o.1)),v8,v9]) ⟨hp4,hs4,us,hL4,hl4,hf4,_,_,rfl⟩ ?_ ?_⟩
     ·rintro n σ H7 hn ⟨hp7,hs7,us,hL7,hl7,hf7,v8,v9,rfl⟩
      rw[show (0:Int)+(n:Int)=(n:Int) by lia]
      obtain⟨ys,hY,hJ⟩:=hL7
      have hyl:=hJ.len
      rw[af] at hyl
      have hj2:j<2:=(List.getElem?_eq_some_iff.mp hy).1
      simp only[xu,bg,bf]
      refine zj (λσ H''=>∃t:oP,Same H7 H''/\H'' t=sE (.tup [.int (i:Nat),.int (n:Nat),.bl f])/\σ=[sE (.ref a),sE (.str (tx w)),sE (.int m),sE (.ref D),sE (.int (i:Nat)),sE (.ref pr),sE (.bl f),sE (.str (tx o.1)),sE (.int (n:Nat)),sE (.ref t)]) ?_ ?_
      ·rfl'
       exact⟨by lia,λt ht=>⟨zf ht,ze⟩⟩
      rintro σ H8 ⟨t,s8,ht8,rfl⟩
      have hY8:=s8 _ _ hY
      have hJ8:=Iss.same s8 _ _ hJ
      rfl'
      refine⟨by lia,by lia,xp (λhc=>?_) λ_=>⟨s8 _ _ hp7,hs7.trans s8,us,⟨ys,hY8,hJ8⟩,by lia,hf7⟩⟩
      obtain⟨w',ha,hwl⟩:=aft n (by lia) hc
      refine Zt (s:=(((i:Nat):Int),((n:Nat):Int),f)) (Is.same (hs7.trans s8) _ _ hR) ok (by lia) (SqT.of ht8) ha ?_
      rfl'
      refine⟨by lia,xp (λhm=>⟨.inl ⟨_,SqL.of hY8⟩,ys,hY8,by lia,?_,zG (hs7.trans s8) hD,us ++ [(((i:Nat):Int),((n:Nat):Int),f)],?_,by rw[am];simp only[aM,cb];lia,λs hs'=>?_⟩) λ_=>⟨s8 _ _ hp7,hs7.trans s8,us,⟨ys,hY8,hJ8⟩,by lia,hf7⟩⟩
      ·rw[zo hD3]
       exact s8 _ _ hp7
      ·rw[aE]
       exact LsA.snoc hY8 hJ8 (wE _) (by simp only[dSt,xv,zZ,and_self]) (kT (SqT.of ht8))
      ·rcases List.mem_append.mp hs' with h | h
       ·exact hf7 s h
       ·rw[List.mem_singleton.mp h]
        exact⟨w',ha,hm⟩
     ·rintro σ H7 ⟨hp7,hs7,us,hL7,hl7,hf7,v8,v9,rfl⟩
      exact⟨hp7,hs7,us,hL7,by lia,hf7,_,_,_,_,rfl⟩
    ·rintro σ H4 ⟨_,hs4,us,hL4,hl4,hf4,v6,v7,v8,v9,rfl⟩
     exact⟨hs4,us,hL4,by simp only[aM,cb] at hl4;lia,hf4,_,_,_,_,_,_,rfl⟩
   ·rintro σ H' ⟨us,hs,hL,hl,hf,v4,v5,v6,v7,v8,v9,rfl⟩
    exact⟨hs,us,hL,by lia,hf,_,_,_,_,_,_,rfl⟩
  rintro σ H2 ⟨us,s2,hL,hl,hf,v4,v5,v6,v7,v8,v9,rfl⟩
  rfl'
  exact q D H2 us hD s2 hL hl hf
theorem zcQ{X:Cx}{k j:Nat}{C:oP}{ps:List oW}{sp:Sp}{e:oZ}{es:List oZ}{t:TA}{pos p:pR}{x:oW}(hx:XE X E)(D:DMk X.prog X.w X.K X.mg X.base (CXx X.prog X.w) k C ps sp)(hr:Room j X.A)(hg:Gl X x)(hm:X.mg x=sE (.ref C))(ha:PA X (e::es) t)(hdb:(x == ("__debug__" : oW))=sH:=by decide)(he:oM (e::es) X.env=(sH,eval e X.env)::oM es X.env:=by rfl)
  (hpl:(pj pos (oM es X.env)).any (·.1)=sH:=by rfl) (hj:k+1<=j:=by decide):PE X (.Call (.Name x p) (e::es) [] pos) (Us C sp [] E t):=by
 obtain⟨f,fd,M,F,hb⟩:=D.ex
 exact Vb M F (hr.mono hj) hg hm hb .nil (Xn hx) ha hdb he hpl
def jU(K:oO)(CO CR CW:oP):Sp:=λvs H Q _=>∃(z:Int) (l:List Nat) (D:oP) (ws:List Int),vs=[.int z,.str (tx l),.ref D]/\0<=z/\z<3/\j4 l=sG/\H D=sE (.lst (ws.map V.int))/\ws.length=l.length/\(∀n ∈ ws,1<=n/\n<=1000000)/\∀(o:oP) (H':Hp),Same H H'->OrdAt CO CR CW H' o z.toNat l ws->Q (.ref o) H'
theorem Qp:zr ["_law_kind","_law_letters_here","_law_weights"] ["_law_kind","_law_letters_here","_law_weights"] (zb vT):=⟨rfl,rfl,rfl,by decide +kernel,rfl,by decide +kernel,by decide +kernel⟩
theorem Uu{f CO CR CW:oP}(B:Bt mg)(T:TWS P w K mg base CO CR CW)(F:Fun K "_law_order" "_law_order" vT f fd) : yg P w K mg base CX0 6 f fd ["_law_kind","_law_letters_here","_law_weights"] (jU K CO CR CW):=by
 refine F.ok Qp (λvs H Q E h=>?_) (λcdv A outer s H vs Q E hr h=>?_)
 ·obtain⟨z,l,D,ws,rfl,_⟩:=h
  rfl
 ·obtain⟨z,l,D,ws,rfl,z0,z3,hg,hD,hwl,hwb,q⟩:=h
  refine⟨_,(zO (zW (zI uL (pv 0) zg (zL _))
    (zh (zv (mkC T.mR hr rfl T.gR (za (pv 1) zc))))
    zC)
   (zO (zW (zI uL (pv 0) zg (zL _))
    (zh (zv (zcQ xe0 T.mW hr rfl T.gW (za (pv 1) (za (wN xN rfl B.list PySem.Pv.boot_list (za (pv 2) zc)) zc)))))
    zC)
   (zh (zv (mkC T.mO hr rfl T.gO (za (pv 1) zc)))))),?_⟩
  have s16:=yk
  ac_rfl
  refine xp (λh1=>?_) λh1=>xp (λh2=>?_) λh2=>?_
  ·intro x dx hx hdx hne
   have sd:=zf (o:=.own x) hdx
   refine⟨x,CR,dx,l,rfl,hg,T.cR,T.lR,ze,rfl,q x _ (λb o' e=>?_) ⟨dx,.inr (.inl ⟨by rw[h1];rfl,ze⟩)⟩⟩
   rw[zo (zH e hx),zo (zH e hx)]
   exact sd _ _ e
  ·refine⟨_,.inl (SqL.of hD),λE1 hE=>?_⟩
   have se:=zf (o:=.lst (ws.map V.int)) hE
   intro x dx hx hdx hne
   have sd:=zf (o:=.own x) hdx
   have k1:∀b o',(upd H E1 (.lst (ws.map V.int))) b=sE o'->(upd (upd (upd H E1 (.lst (ws.map V.int))) dx (.own x)) x (.ins CW dx [])) b=sE o':=λb o' e=>by
    rw[zo (zH e hx)]
    exact sd _ _ e
   exact⟨x,dx,E1,l,ws,rfl,hg,SqL.of (k1 _ _ ze),hwl,hwb,ze,λw H' hw hwx kp ht hx'=>⟨rfl,q x _ (λb o' e=>kp b o' (zH (se _ _ e) hx) (k1 b o' (se _ _ e))) ⟨dx,.inr (.inr ⟨by lia,hwl,w,hx',ht⟩)⟩⟩⟩
  ·intro x dx hx hdx hne
   have sd:=zf (o:=.own x) hdx
   refine⟨x,CO,dx,l,rfl,hg,T.cO,T.lO,ze,rfl,q x _ (λb o' e=>?_) ⟨dx,.inl ⟨by lia,ze⟩⟩⟩
   rw[zo (zH e hx),zo (zH e hx)]
   exact sd _ _ e
theorem WB:∀ws:List (List Nat),Str.join (tx []) (ws.map tx)=tx ws.flatten
 | []=>rfl
 | [w]=>by
  show tx w=_
  simp
 | w::v::r=>by
  have ih:=WB (v::r)
  show tx w ++ tx [] ++ Str.join (tx []) ((v::r).map tx)=_
  rw[ih,x0,x0]
  simp
theorem Ux{ws:List (List Nat)}(h:ws.flatten.length<=100000):JoinOk (tx []) (ws.map tx)=sG:=by
 have s16:=yk
 have hf:∀(l:List (List Nat)) (n:Nat),(l.map tx).foldl (λa y=>a+y.length+0) n=n+l.flatten.length:=λl=>by
  induction l with
  | nil=>intro n;rfl
  | cons c r ih =>
   intro n
   rw[az,List.foldl_cons,ih,zR,dn,am]
   lia
 have e:JoinOk (tx []) (ws.map tx)=!PySem.Builtin.Str.tooLong ((ws.map tx).foldl (λa y=>a+y.length+0) 0):=by
  unfold JoinOk
  rw[List.foldl_toArray]
  rfl
 rw[e,hf]
 unfold PySem.Builtin.Str.tooLong
 rw[dZ,decide_eq_false_iff_not]
 lia
structure KXs(K:oO):Prop where
 ss:aS K (.type "str") (.type "str")=sE sG
def Z6(K:oO):Sp:=λvs H Q _=>∃(a:oP) (es:List Ent),vs=[.ref a]/\Is K H (.lst (es.map dE)) (.ref a)/\Q (.bl sG) H
theorem nj:zr ["_law_found","_law_entry"] ["_law_found"] (zb xU):=⟨rfl,rfl,rfl,by decide +kernel,rfl,by decide +kernel,by decide +kernel⟩
theorem XM(B:Bt mg)(T:TLs K)(TX:KXs K)(F:Fun K "_law_entries" "_law_entries" xU f fd)(ou:Df P w K mg base CX0 2 "_law_steps" ["_law_found"] [] (jV K)):yg P w K mg base CX0 3 f fd ["_law_found"] (Z6 K):=by
 refine F.ok nj (λvs H Q E h=>?_) (λcdv A outer s H vs Q E hr h=>?_)
 ·obtain⟨a,es,rfl,_⟩:=h
  rfl
 ·obtain⟨a,es,rfl,hA,q⟩:=h
  refine⟨_,(zi (zW (yn (xn (xD rfl B.isi (pv 0) rfl B.list PySem.Pv.boot_list) (λ_=>rfl)))
    (zh (zv yG))
    zC)
   (zi (yA PassesOwn.never rfl (yF (pv 0)) (zB (i:=1) nj.nd rfl (Or.inl rfl))
    (zi (zW (PW.pt (kR (yn (xn (xD rfl B.isi (pv 1) rfl B.tuple PySem.Pv.boot_tuple) (λ_=>rfl))) (kR (zI XR (zt yc rfl B.len aA (za (pv 1) zc)) zg (zL _)) (ZL (yn (xn (cl0 ou hr .nil rfl (za (zx ix_tup (pv 1) zg (λ_ _=>rfl)) zc)) (λ_=>rfl)))))))
     (zh (zv yG))
     zC)
    (zh (zW (PW.pt (kR (yn (xn (xD rfl B.isi (zx ix_tup (pv 1) zg (λ_ _=>rfl)) rfl B.str PySem.Pv.boot_str) (λ_=>rfl))) (ZL (yn (xn (xD rfl B.isi (zx ix_tup (pv 1) zg (λ_ _=>rfl)) rfl B.str PySem.Pv.boot_str) (λ_=>rfl))))))
     (zh (zv yG))
     zC))))
   (zh (zv yG)))),?_⟩
  have s16:=yk
  simp only[Is] at hA
  obtain⟨_,xs,e,hX,hI⟩:=hA
  cases e
  refine zj (λσ H'=>H'=H/\σ=[sE (.ref a),sF]) ?_ ?_
  ·rfl'
   exact⟨_,.inr (.inr (.inl ⟨_,_,rfl,rfl,hX⟩)),sG,T.ll,Uj trivial⟩
  rintro σ H1 ⟨rfl,rfl⟩
  refine zj (λσ H'=>H'=H1/\∃v1,σ=[sE (.ref a),v1]) ?_ ?_
  ·rfl'
   refine⟨⟨_,hX⟩,ForL.by (xs:=xs) (λi σ H'=>H'=H1/\∃v1,σ=[sE (.ref a),v1]) ⟨rfl,_,rfl⟩ (λi σ H' _ h=>by rw[h.1];exact hX) ?_ λσ H' h=>h⟩
   rintro i x σ H' hx ⟨rfl,v1,rfl⟩
   obtain⟨e,pe,se,hei,rfl,hqe,hse⟩:=Y8 hI hx
   simp only[xu,bg,bf]
   refine zj (λσ H''=>H''=H'/\σ=[sE (.ref a),sE (.ref pe)]) ?_ ?_
   ·rfl'
    exact⟨_,.inr (.inr (.inr ⟨_,_,rfl,rfl,hqe⟩)),sG,T.tt,Uj ⟨_,.inr ⟨_,hqe,rfl⟩,xp (λh=>absurd rfl h) λ_=>⟨_,hqe,_,rfl,se,e.2.2,rfl,hse,sG,rfl,Uj rfl⟩⟩⟩
   rintro σ G ⟨rfl,rfl⟩
   rfl'
   exact⟨_,hqe,_,rfl,_,.inl (.str _),sG,TX.ss,Uj ⟨_,hqe,_,rfl,_,.inl (.str _),sG,TX.ss,Uj trivial⟩⟩
  rintro σ H2 ⟨rfl,v1,rfl⟩
  rfl'
  exact q
def vx:Sp:=λvs H Q _=>∃(k:Int) (l:List Nat) (W:oP) (ws:List Int) (w:List Nat),vs=[.int k,.str (tx l),.ref W,.str (tx w)]/\0<=k/\k<3/\j4 l=sG/\H W=sE (.lst (ws.map V.int))/\ws.length=l.length/\(∀n ∈ ws,1<=n/\n<=1000000)/\w.length<=1000/\(∀x ∈ w,x ∈ l)/\∀(p q:oP) (H':Hp),Same H H'->H' p=sE (.tup [.int (zk k.toNat l ws w),.ref q])->H' q=sE (.lst ((xQ k.toNat l w).map V.int))->Q (.ref p) H'
theorem vw{k:Int}{l:List Nat}{W:oP}{w:List Nat}(k0:0<=k)(k3:k<3)(hg:j4 l=sG)(hD:H W=sE (.lst (ws.map V.int)))(hwl:ws.length=l.length)(hwb:∀n ∈ ws,1<=n/\n<=1000000)(hw:w.length<=1000)(hm:∀x ∈ w,x ∈ l)(q:∀(p q:oP) (H':Hp),Same H H'->H' p=sE (.tup [.int (zk k.toNat l ws w),.ref q])->H' q=sE (.lst ((xQ k.toNat l w).map V.int))->Q (.ref p) H'):vx [.int k,.str (tx l),.ref W,.str (tx w)] H Q E:=⟨k,l,W,ws,w,rfl,k0,k3,hg,hD,hwl,hwb,hw,hm,q⟩
theorem lS:zr ["_law_kind","_law_letters_here","_law_weights","_law_word_here","_law_seen","_law_weight"] ["_law_kind","_law_letters_here","_law_weights","_law_word_here"] (zb vE):=⟨rfl,rfl,rfl,by decide +kernel,rfl,by decide +kernel,by decide +kernel⟩
theorem JH(B:Bt mg)(F:Fun K "_law_rank" "_law_rank" vE f fd) : yg P w K mg base CX0 1 f fd ["_law_kind","_law_letters_here","_law_weights","_law_word_here"] vx:=by
 refine F.ok lS (λvs H Q E h=>?_) (λcdv A outer s H vs Q E hr h=>?_)
 ·obtain⟨k,l,W,ws,w,rfl,_⟩:=h
  rfl
 ·obtain⟨k,l,W,ws,w,rfl,k0,k3,hg,hW,hwl,hwb,hw,hm,q⟩:=h
  refine⟨_,(zi (zq (i:=4) lS.nd rfl (Or.inl rfl) (pv 3))
   (zi (zq (i:=5) lS.nd rfl (Or.inl rfl) (zt yc rfl B.len aA (za (pv 3) zc)))
   (zi (zW (zI uL (pv 0) zg (zL _))
    (zh (zq (i:=4) lS.nd rfl (Or.inl rfl) (vt bq PySem.F.slot_str_join PySem.F.type_str_join za3 xB (za (xh (own:=["_law_k"]) (caps:=["_law_word_here"]) (ix:=[3]) (tt:=wx) (te:=(tOp (rIx K) (yS 1) (tOp (rI0 λi j=>.int (i - j)) (tOp (rI0 λi j=>.int (i - j)) (tCB (KR K) (zN (yS 1) ww)) (tC (.int 1))) (yS 0)))) rfl (zP (sc:=zb vE) rfl (by decide +kernel) (by decide +kernel) (by decide +kernel) rfl (by decide +kernel) (by decide +kernel) rfl) (xo rfl B.range (za (zt yc rfl B.len aA (za (pv 3) zc)) zc)) (λ_ _ _ _ _ _=>zB (i:=0) (show List.Nodup [_,_] by decide) rfl (Or.inl rfl)) (λ_ _ _ _ _ _=>yE) (λ_ _ _ _ _ _=>(zx WV (pv 1) (zE uF (zE uF (zt yc rfl B.len aA (za (pv 1) zc)) zg) (pv 0)) (λ_ _=>rfl)))) zc))))
    zC)
   (zi (zW (zI uL (pv 0) zg (zL _))
    (zh (zq (i:=5) lS.nd rfl (Or.inl rfl) (zt (zaV rfl) rfl B.sum eU (za (xh (own:=["_law_sign"]) (caps:=["_law_weights","_law_letters_here"]) (ix:=[2,1]) (tt:=wx) (te:=(tOp (rIx K) (yS 1) (tBM K "str" Uo (yS 2) (zN (yS 0) ww)))) rfl (zP (sc:=zb vE) rfl (by decide +kernel) (by decide +kernel) (by decide +kernel) rfl (by decide +kernel) (by decide +kernel) rfl) (Zw (pv 3)) (λ_ _ _ _ _ _=>zB (i:=0) (show List.Nodup [_,_,_] by decide) rfl (Or.inl rfl)) (λ_ _ _ _ _ _=>yE) (λ_ _ _ _ _ _=>(zx WV (pv 1) (vt bq cS cT Jj (pv 2) (za (pv 0) zc)) (λ_ _=>rfl)))) zc))))
    zC)
   (zh (zv (yh (za (pv 5) (za (xh (own:=["_law_sign"]) (caps:=["_law_letters_here"]) (ix:=[1]) (tt:=wx) (te:=(tBM K "str" Uo (yS 1) (zN (yS 0) ww))) rfl (zP (sc:=zb vE) rfl (by decide +kernel) (by decide +kernel) (by decide +kernel) rfl (by decide +kernel) (by decide +kernel) rfl) (Zw (pv 4)) (λ_ _ _ _ _ _=>zB (i:=0) (show List.Nodup [_,_] by decide) rfl (Or.inl rfl)) (λ_ _ _ _ _ _=>yE) (λ_ _ _ _ _ _=>(vt bq cS cT Jj (pv 1) (za (pv 0) zc)))) zc))))))))),?_⟩
  have s16:=yk
  have s16:=yk
  obtain⟨l1,l6,lsm,lnd⟩:=of_decide_eq_true hg
  refine zj (λσ H'=>H'=H/\σ=[sE (.int k),sE (.str (tx l)),sE (.ref W),sE (.str (tx w)),sE (.str (tx w)),sF]) ?_ ?_
  ·rfl'
  rintro σ H1 ⟨rfl,rfl⟩
  refine zj (λσ H'=>H'=H1/\σ=[sE (.int k),sE (.str (tx l)),sE (.ref W),sE (.str (tx w)),sE (.str (tx w)),sE (.int (w.length:Nat))]) ?_ ?_
  ·rfl'
   lia
  rintro σ H2 ⟨rfl,rfl⟩
  refine zj (λσ H'=>Same H2 H'/\σ=[sE (.int k),sE (.str (tx l)),sE (.ref W),sE (.str (tx w)),sE (.str (tx (yw k.toNat w))),sE (.int (w.length:Nat))]) ?_ ?_
  ·rfl'
   refine xp (λhk=>⟨by lia,by lia,by lia,λD hD=>CompR.by (λi sK H'=>Same H2 H'/\H' D=sE (.lst sK)/\sK=(((w.reverse.take i).map λc=>[c]).map tx).map V.str) ⟨zf hD,ze,rfl⟩ ?_ ?_⟩) λhk=>?_
   ·rintro i sK H' hi ⟨hs,hH,rfl⟩
    rw[aO] at hi
    have hr:w.reverse[i]? = sE (w[w.length - 1 - i]'(by lia)):=by
     rw[bx hi,ak (by lia)]
    have ha:atI w ((w.length:Int) - 1 - (0+(i:Int)))=sE (w[w.length - 1 - i]'(by lia)):=by
     rw[show (w.length:Int) - 1 - (0+(i:Int))=((w.length - 1 - i:Nat):Int) by lia]
     exact Ye (ak (by lia))
    simp only[wx]
    rfl'
    refine⟨xl,by lia,by lia,_,ha,hH,by simp only[af,aK,cq];lia,CNx.mk (by rw[aO];exact hi) ⟨zG hs hD,ze,?_⟩⟩
    rw[zU hr,aE,aE,aE]
    rfl
   ·rintro sK H' ⟨hs,hH,rfl⟩
    rw[aO,<- cq,aQ] at hH
    have hfl:(w.reverse.map λc=>[c]).flatten=w.reverse:=by
     induction w.reverse with
     | nil=>rfl
     | cons a r ih=>rw[az,dn,ih];rfl
    refine⟨tx [],D,(w.reverse.map λc=>[c]).map tx,rfl,rfl,SqL.of hH,Ux (by rw[hfl,cq];lia),?_⟩
    have e:Txt.join (tx []) ((w.reverse.map λc=>[c]).map tx)=Str.join (tx []) ((w.reverse.map λc=>[c]).map tx):=StrLaws.glued_eq_join _ _
    rw[e,WB,hfl]
    refine⟨hs,?_⟩
    rw[hk]
    rfl
   ·refine⟨Same.refl _,?_⟩
    unfold yw
    rw[if_neg (by lia)]
  rintro σ H3 ⟨s3,rfl⟩
  have hW3:=s3 _ _ hW
  refine zj (λσ H'=>Same H3 H'/\σ=[sE (.int k),sE (.str (tx l)),sE (.ref W),sE (.str (tx w)),sE (.str (tx (yw k.toNat w))),sE (.int (zk k.toNat l ws w))]) ?_ ?_
  ·rfl'
   refine xp (λhk=>λD hD=>CompS.by (λi sK H'=>Same H3 H'/\H' D=sE (.lst sK)/\sK=((w.take i).map λc=>ws.getD (l.idxOf c) 0).map V.int) ⟨zf hD,ze,rfl⟩ ?_ ?_) λhk=>?_
   ·rintro i c sK H' hc ⟨hs,hH,rfl⟩
    have hci:=(List.getElem?_eq_some_iff.mp hc).1
    have hcl:=hm c (ae hc)
    have hlt:=bC hcl
    have ea:atI (ws.map V.int) ((l.idxOf c:Nat):Int)=sE (.int (ws.getD (l.idxOf c) 0)):=by
     refine Ye ?_
     rw[aH,ac,ak (by lia)]
     rfl
    simp only[wx]
    rfl'
    refine⟨xl,.inl ⟨_,SqL.of (hs _ _ hW3),_,by rw[Vi hcl];exact ea,hH,by simp only[af,aK];lia,CNx.mk hci ⟨zG hs hD,ze,?_⟩⟩⟩
    rw[zU hc,aE,aE]
    rfl
   ·rintro sK H' ⟨hs,hH,rfl⟩
    rw[aQ] at hH
    refine⟨D,_,rfl,SqL.of hH,hs,congrArg V.int ?_⟩
    have e2:=kz (ls:=l) (ns:=ws) lnd hwl (w:=w) hm
    unfold Qz at e2
    unfold zk
    rw[if_pos (by lia),<- e2]
    rfl
   ·refine⟨Same.refl _,?_⟩
    unfold zk
    rw[if_neg (by lia)]
  rintro σ H4 ⟨s4,rfl⟩
  rfl'
  intro D hD
  have hsm:∀c ∈ yw k.toNat w,c ∈ l:=λc hc=>by
   unfold yw at hc
   split at hc
   ·exact hm c (List.mem_reverse.mp hc)
   ·exact hm c hc
  have hsl:(yw k.toNat w).length<=1000:=by
   unfold yw
   split
   ·rw[cq];exact hw
   ·exact hw
  refine CompS.by (λi sK H'=>Same H4 H'/\H' D=sE (.lst sK)/\sK=(uC l ((yw k.toNat w).take i)).map V.int) ⟨zf hD,ze,rfl⟩ ?_ ?_
  ·rintro i c sK H' hc ⟨hs,hH,rfl⟩
   have hci:=(List.getElem?_eq_some_iff.mp hc).1
   have hcl:=hsm c (ae hc)
   simp only[wx]
   rfl'
   rw[Vi hcl]
   refine⟨xl,hH,by rw[af];unfold uC;rw[af,aK];lia,CNx.mk hci ⟨zG hs hD,ze,?_⟩⟩
   unfold uC
   rw[zU hc,aE,aE]
   rfl
  ·rintro sK H' ⟨hs,hH,rfl⟩
   rw[aQ] at hH
   exact⟨by lia,λp hp=>q p D _ (s3.trans (s4.trans (hs.trans (zf hp)))) ze (zf hp _ _ hH)⟩
theorem ThinL.pairs{l:List Nat}{zs bs:List Ent}(h:ThinL k l ns zs)(hp:zd bs=zd zs)(hE:∀e ∈ bs,EB l e):ThinL k l ns bs:=by
 have key:∀(i:Nat) (a:Ent),bs[i]? = sE a->∃z,zs[i]? = sE z/\z.1=a.1/\z.2.1=a.2.1:=λi a ha=>by
  have h1:(zd bs)[i]? = sE (a.1,a.2.1):=by unfold zd;rw[aH,ha];rfl
  rw[hp] at h1
  unfold zd at h1
  rw[aH] at h1
  obtain⟨z,hz,e⟩:=Option.map_eq_some_iff.mp h1
  exact⟨z,hz,(Prod.ext_iff.mp e).1,(Prod.ext_iff.mp e).2⟩
 refine⟨⟨hE,λe he=>?_⟩,λi j a b ha hb hij=>?_,λi j a b ha hb hij=>?_,λi j a b ha hb=>?_⟩
 ·obtain⟨i,hi⟩:=List.mem_iff_getElem?.mp he
  obtain⟨z,hz,e1,e2⟩:=key i e hi
  rw[<- e1,<- e2]
  exact h.rl.lt z (ae hz)
 all_goals
  obtain⟨x,hx,e1,e2⟩:=key i a ha
  obtain⟨y,hy,f1,f2⟩:=key j b hb
  rw[<- f1]
 ·rw[<- e1]
  exact h.up i j x y hx hy hij
 ·rw[<- e1]
  exact h.no1 i j x y hx hy hij
 ·rw[<- e2]
  exact h.no2 i j x y hx hy
theorem UJ{l:List Nat}{u v:List Nat}{p p' r r':oP}(hp:H p=sE (.tup [.int (zk k l ws u),.ref p']))(hp':H p'=sE (.lst ((xQ k l u).map V.int)))(hr:H r=sE (.tup [.int (zk k l ws v),.ref r']))(hr':H r'=sE (.lst ((xQ k l v).map V.int)))(q:Q (.bl (zK k l ws u v)) H):zbr K (.ref p) (.ref r) H Q:=by
 refine WK (ue hp hp') (ue hr hr') (by simp only[dpD,uK,j3];decide) (by simp only[okD,jk];exact⟨trivial,vJ _ _,trivial⟩) ?_
 rw[YA]
 exact q
abbrev zcz(mg:oW->Option oQ):Prop:=mg "any" = sF
def RkAt(H:Hp)(R:oP)(k:Nat)(l:List Nat)(ws:List Int)(u:List Nat):Prop:=∃R':oP,H R=sE (.tup [.int (zk k l ws u),.ref R'])/\H R'=sE (.lst ((xQ k l u).map V.int))
theorem RkAt.same{H H':Hp}{R:oP}{l:List Nat}{u:List Nat}(h:RkAt H R k l ws u)(s:Same H H'):RkAt H' R k l ws u:=let ⟨R',a,b⟩:=h; ⟨R',s _ _ a,s _ _ b⟩
theorem RkAt.lt{R R2:oP}{l:List Nat}{u v:List Nat}(h:RkAt H R k l ws u)(h2:RkAt H R2 k l ws v)(q:Q (.bl (zK k l ws u v)) H):zbr K (.ref R) (.ref R2) H Q:=by
 obtain⟨R',a,b⟩:=h
 obtain⟨R2',a2,b2⟩:=h2
 exact UJ a b a2 b2 q
structure TNT(K:oO)(mg:oW->Option oQ)(C:oP):Prop where
 xi:XI K C
 g:mg "NotTurned" = sE (.ref C)
 na:NoAttr K C "number"
theorem um:zr ["self","number"] ["self","number"] (zb z9):=⟨rfl,rfl,rfl,by decide +kernel,rfl,by decide +kernel,by decide +kernel⟩
theorem uf{f C:oP}(T:TNT K mg C)(F:Fun K "__init__" "NotTurned.__init__" z9 f fd):yg P w K mg base CX0 1 f fd ["self","number"] (vG C "number"):=by
 refine F.ok um (λvs H Q E h=>?_) (λcdv A outer s H vs Q E hr h=>?_)
 ·obtain⟨x,v,rfl,_⟩:=h
  rfl
 ·obtain⟨x,v,rfl,hx,q⟩:=h
  refine⟨_,(zh (W6 (pv 0) (pv 1) rfl)),?_⟩
  simp only[KJ]
  rfl'
  exact⟨C,hx,T.xi.toXC,T.na,q⟩
structure DNT(P:oV)(w:oX)(K:oO)(mg:oW->Option oQ)(base:pb)(C:oP):Prop extends TNT K mg C where
 ini:∃f fd,ah K (.ref C) "__init__" = sE (sE (.ref f))/\bc K (.ref f)=sG/\yg P w K mg base CX0 1 f fd ["self","number"] (vG C "number")/\Binds K fd ["self","number"] []
structure zah(K:oO)(mg:oW->Option oQ)(CH:oP):Prop where
 cl:Cls K CH
 g:mg "System" = sE (.ref CH)
 no:NoAttr K CH "order"
 nr:NoAttr K CH "rules"
noncomputable def wU(k:Nat)(l:List Nat)(ns:List Int):List zw->Nat->Option Nat
 | [],_=>sF
 | r::rs,i=>if zK k l ns r.2 r.1=sG then wU k l ns rs (i+1) else sE i
theorem Y7{l:List Nat}:∀{ps:List zw} {j i:Nat} {r:zw},(∀(m:Nat) (p:zw),m<i->ps[m]? = sE p->zK k l ns p.2 p.1=sG)->ps[i]? = sE r->zK k l ns r.2 r.1=sH->wU k l ns ps j=sE (j+i)
 | [],_,_,_,_,h,_=>by simp at h
 | p::ps,j,0,r,_,h,hl=>by
  cases h
  rw[wU,hl,if_neg aG]
  rfl
 | p::ps,j,i+1,r,hb,h,hl=>by
  rw[wU,if_pos (hb 0 p (Nat.succ_pos _) rfl),Y7 (i:=i) (λm q hm e=>hb (m+1) q (by lia) e) h hl]
  congr 1
  lia
theorem vY{l:List Nat}:∀{ps:List zw} {j:Nat},(∀(m:Nat) (p:zw),ps[m]? = sE p->zK k l ns p.2 p.1=sG)->wU k l ns ps j=sF
 | [],_,_=>rfl
 | p::ps,j,hb=>by
  rw[wU,if_pos (hb 0 p rfl)]
  exact vY λm q e=>hb (m+1) q e
def InL(l:List Nat)(ps:List zw):Prop:=∀p ∈ ps,p.1.length<=1000/\p.2.length<=1000/\(∀c ∈ p.1,c ∈ l)/\∀c ∈ p.2,c ∈ l
def qe(K:oO)(CO CR CW CT CH:oP):Sp:=λvs H Q E=>∃(x dx o a:oP) (k:Nat) (l:List Nat) (ns:List Int) (ps:List zw) (xs:List V),vs=[.ref x,.ref o,.ref a]/\H x=sE (.ins CH dx [])/\OrdAt CO CR CW H o k l ns/\OG l ns k/\H a=sE (.lst xs)/\Iss K H (ps.map dR) xs/\InL l ps /\
 (∀i,wU k l ns ps 0=sE i->∀H1,Same H H1->∀d H',zcp H1 d "number" (.int (i:Nat)) H'->E (.ref CT) (sE d) H') /\
 (wU k l ns ps 0=sF->∀(q:oP) (H':Hp),(∀b o',b≠x->H b=sE o'->H' b=sE o')->H' x=sE (.ins CH dx [("order",.ref o),("rules",.ref q)])->H' q=sE (.lst xs)->H q=sF->Q .non H')
theorem iJ:zr ["self","order","rules","number","rule"] ["self","order","rules"] (zb yB):=⟨rfl,rfl,rfl,by decide +kernel,rfl,by decide +kernel,by decide +kernel⟩
theorem jh{f CO CR CW CT CH:oP}(B:Bt mg)(T:DNT P w K mg base CT)(TS:zah K mg CH)(DBk:DB P w K mg base CO CR CW)(F:Fun K "__init__" "System.__init__" yB f fd) : yg P w K mg base (CXx P w) 5 f fd ["self","order","rules"] (qe K CO CR CW CT CH):=by
 obtain⟨fi,fdi,hi,hfn,Fi,Bi⟩:=T.ini
 refine Fun.okX F iJ (λvs H Q E h=>?_) (λcdv A outer s H vs Q E hr hx h=>?_)
 ·obtain⟨x,dx,o,a,k,l,ns,ps,xs,rfl,_⟩:=h
  rfl
 ·obtain⟨x,dx,o,a,k,l,ns,ps,xs,rfl,hx0,ho,hG,hA,hI,hP,q1,q2⟩:=h
  refine⟨_,(zi (yA PassesOwn.leaving rfl (wd rfl B.enum (za (pv 2) zc)) (uA (n:=2) rfl (yd (zB (i:=3) iJ.nd rfl (Or.inl rfl)) (yd (zB (i:=4) iJ.nd rfl (Or.inl rfl)) wy)))
    (zh (zW (yn (xn (K6 DBk hr (pv 1) (za (zx ix_tup (pv 4) zg (λ_ _=>rfl)) (za (zx ix_tup (pv 4) zg (λ_ _=>rfl)) zc))) (λ_=>rfl)))
     (zh (Zf hx rfl T.xi.toXC hi hfn Fi (hr.mono (by decide)) Bi rfl T.g (za (pv 3) zc)))
     zC)))
   (zi (YT (pv 0) (pv 1) rfl)
   (zh (YT (pv 0) (wN xN rfl B.list PySem.Pv.boot_list (za (pv 2) zc)) rfl)))),?_⟩
  have s16:=yk
  refine zj (λσ H'=>Same H H'/\wU k l ns ps 0=sF/\∃v3 v4,σ=[sE (.ref x),sE (.ref o),sE (.ref a),v3,v4]) ?_ ?_
  ·ac_rfl
   refine⟨⟨_,SqL.of hA⟩,ForEL.by (xs:=xs) (λi σ H'=>Same H H'/\(∀(j:Nat) (p:zw),j<i->ps[j]? = sE p->zK k l ns p.2 p.1=sG)/\∃v3 v4,σ=[sE (.ref x),sE (.ref o),sE (.ref a),v3,v4]) ⟨Same.refl _,λj p h=>absurd h (cz j),_,_,rfl⟩ ?_ ?_ ?_⟩
   ·rintro i σ H' _ ⟨hs,_⟩
    exact SqL.of (hs _ _ hA)
   ·rintro i y σ H' p hy ⟨hs,hb,v3,v4,rfl⟩ hpn
    obtain⟨r,pr,hri,rfl,hqr⟩:=hI.getR hy
    have hm:=hP r (ae hri)
    have s2:=hs.trans (zf (o:=.tup [.int (i:Nat),.ref pr]) hpn)
    have ho2:=ho.same s2
    have hq2:=zm s2 hqr
    obtain⟨C,dy,fs,hf,hoC,hn,_⟩:=ho2.fam
    have hn1:fs.lookup ("before" : oW)=sF:=hn _ (by decide) (by decide)
    ac_rfl
    refine⟨_,SqT.of ze,rfl,_,_,rfl,_,_,rfl,rfl,C,hf,dy,fs,hoC,hn1,_,rfl,_,hq2,_,rfl,_,rfl,_,hq2,_,rfl,o,k,l,ns,r.2,r.1,rfl,ho2,hG,hm.2.1,hm.1,hm.2.2.2,hm.2.2.1,λH3 s3=>?_⟩
    have s16:=yk
    refine⟨_,rfl,xp (λe=>⟨by lia,Wm (q1 i (by have:=Y7 (j:=0) hb hri e;simpa using this) H3 (s2.trans s3))⟩) λe=>⟨s2.trans s3,λj p' hj hp'=>?_⟩⟩
    by_cases hj':j<i
    ·exact hb j p' hj' hp'
    ·have:j=i:=by lia
     rw[this,hri] at hp'
     cases hp'
     simpa using e
   ·rintro σ H' ⟨hs,hb,v3,v4,rfl⟩
    have hxl:=hI.len
    rw[af] at hxl
    exact⟨hs,vY λm p e=>hb m p (by have:=(List.getElem?_eq_some_iff.mp e).1;lia) e,v3,v4,rfl⟩
  rintro σ H1 ⟨s1,hf,v3,v4,rfl⟩
  refine zj (λσ H'=>H'=upd H1 x (.ins CH dx [("order",.ref o)])/\σ=[sE (.ref x),sE (.ref o),sE (.ref a),v3,v4]) ?_ ?_
  ·ac_rfl
   exact⟨_,_,_,s1 _ _ hx0,TS.cl,TS.no,by decide,rfl⟩
  rintro σ H2 ⟨rfl,rfl⟩
  ac_rfl
  have hax:a≠x:=λe=>by rw[e,hx0] at hA;cases hA
  refine⟨xs,.inl (SqL.of (by rw[zo hax];exact s1 _ _ hA)),λq hq=>?_⟩
  have hqx:q≠x:=λe=>by rw[e,ze] at hq;cases hq
  rw[zo hqx] at hq
  have hqH:H q=sF:=by
   cases e:H q with
   | none=>rfl
   | some o'=>rw[s1 _ _ e] at hq;cases hq
  refine⟨CH,dx,_,by rw[zo hqx.symm,ze],TS.cl,TS.nr,by show 1<1000;decide,q2 hf q _ (λb o' hb e=>?_) ze (by rw[zo hqx,ze]) hqH⟩
  rw[zo hb,zo (λz=>by rw[z,hqH] at e;cases e),zo hb]
  exact s1 _ _ e
def UP(K:oO)(CH:oP)(H:Hp)(y o q:oP)(ps:List zw):Prop:=∃dx xs,H y=sE (.ins CH dx [("order",.ref o),("rules",.ref q)])/\H q=sE (.lst xs)/\Iss K H (ps.map dR) xs
noncomputable def y0(l m:List Nat)(k:Nat):Bool:=decide ((l.drop k).take m.length=m.take (l.length - k))
noncomputable def lf(rs:List zw)(i:Nat):List Nat:=(rs.getD i ([],[])).1
theorem wv{i:Nat}{r:zw}(h:rs[i]? = sE r):lf rs i=r.1:=by unfold lf;rw[ac,h];rfl
noncomputable def ZP(rs:List zw)(i j n:Nat):List N3:=((aX n).filter λk=>(decide (i≠j) || decide (k≠0)) && y0 (lf rs i) (lf rs j) k).map λk=>(i,j,k)
noncomputable def ovI(rs:List zw)(i m:Nat):List N3:=(aX m).flatMap λj=>ZP rs i j (lf rs i).length
noncomputable def ovA(rs:List zw)(m:Nat):List N3:=(aX m).flatMap λi=>ovI rs i rs.length
theorem qH(rs:List zw)(i j n:Nat):ZP rs i j (n+1)=ZP rs i j n ++ (if ((decide (i≠j) || decide (n≠0)) && y0 (lf rs i) (lf rs j) n)=sG then [(i,j,n)] else []):=by
 unfold ZP
 rw[cL,cM,aE]
 congr 1
 simp only[et,df]
 split <;> rfl
theorem uO(rs:List zw)(i m:Nat):ovI rs i (m+1)=ovI rs i m ++ ZP rs i m (lf rs i).length:=by
 unfold ovI
 rw[cL,cZ]
 simp
theorem jL(rs:List zw)(m:Nat):ovA rs (m+1)=ovA rs m ++ ovI rs m rs.length:=by
 unfold ovA
 rw[cL,cZ]
 simp
theorem uN(rs:List zw)(i j n:Nat):(ZP rs i j n).length<=n:=by
 unfold ZP
 rw[af]
 have:=cQ (λk=>(decide (i≠j) || decide (k≠0)) && y0 (lf rs i) (lf rs j) k) (aX n)
 rw[dq] at this
 exact this
theorem zaa(h:jz rs)(i:Nat):(lf rs i).length<=100:=by
 cases e:rs[i]? with
 | none=>unfold lf;rw[ac,e];exact aJ _
 | some r=>rw[wv e];exact (h.2 r (ae e)).1
theorem Yz(h:jz rs)(i m:Nat):(ovI rs i m).length<=m * 100:=by
 induction m with
 | zero=>exact aJ _
 | succ m ih =>
  rw[uO,am]
  have h1:=uN rs i m (lf rs i).length
  have h2:=zaa h i
  lia
theorem WI(h:jz rs)(m:Nat):(ovA rs m).length<=m * 3000:=by
 induction m with
 | zero=>exact aJ _
 | succ m ih =>
  rw[jL,am]
  have h1:=Yz h m rs.length
  have h2:=h.1
  lia
theorem XF(l m:List Nat)(k:Nat):y0 l m k=sG ↔ ∀j,j<m.length->k+j<l.length->l[k+j]? = m[j]?:=by
 unfold y0
 rw[decide_eq_true_eq]
 constructor
 ·intro h j hj hk
  have h1:((l.drop k).take m.length)[j]? = (m.take (l.length - k))[j]?:=by rw[h]
  rw[bv hj,fm,bv (by lia)] at h1
  exact h1
 ·intro h
  refine List.ext_getElem? λj=>?_
  by_cases hj:j<m.length
  ·rw[bv hj,fm]
   by_cases hk:k+j<l.length
   ·rw[bv (by lia)]
    exact h j hj hk
   ·rw[bz (by lia),bz (by rw[aK];lia)]
  ·rw[bz (by rw[aK];lia),bz (by rw[aK];lia)]
def uT:Sp:=λvs H Q _=>∃(l m:List Nat) (k:Nat),vs=[.str (tx l),.str (tx m),.int (k:Nat)]/\l.length<=1000/\m.length<=1000/\k<=l.length/\Q (.bl (y0 l m k)) H
theorem Zx{l m:List Nat}(h1:l.length<=1000)(h2:m.length<=1000)(h3:k<=l.length)(h:Q (.bl (y0 l m k)) H):uT [.str (tx l),.str (tx m),.int (k:Nat)] H Q E:=⟨l,m,k,rfl,h1,h2,h3,h⟩
theorem UW:zr ["one","other","place"] ["one","other","place"] (zb ub):=⟨rfl,rfl,rfl,by decide +kernel,rfl,by decide +kernel,by decide +kernel⟩
theorem QD(B:Bt mg)(F:Fun K "agree" "agree" ub f fd) : yg P w K mg base CX0 1 f fd ["one","other","place"] uT:=by
 refine F.ok UW (λvs H Q E h=>?_) (λcdv A outer s H vs Q E hr h=>?_)
 ·obtain⟨l,m,k,rfl,_⟩:=h
  rfl
 ·obtain⟨l,m,k,rfl,hl,hm,hk,q⟩:=h
  refine⟨_,(zh (zv (vv uL (yl wu (pv 0) (yj (pv 2)) (yj (zE op_add (pv 2) (zt yc rfl B.len aA (za (pv 1) zc))))) (yl wu (pv 1) xE (yj (zE uF (zt yc rfl B.len aA (za (pv 0) zc)) (pv 2)))) (zL _)))),?_⟩
  have s16:=yk
  rfl'
  refine⟨by lia,by lia,by lia,by lia,?_⟩
  rw[QU _ (by lia) (by lia),jr _ (by lia)]
  have e1:((k:Int)+(m.length:Int) - (k:Int)).toNat=m.length:=by lia
  have e2:((l.length:Int) - (k:Int)).toNat=l.length - k:=by lia
  rw[e1,e2]
  exact q
def wl(K:oO):Sp:=λvs H Q _=>∃(a:oP) (rs:List zw),vs=[.ref a]/\Is K H (.lst (rs.map dR)) (.ref a)/\jz rs/\∀D H',H D=sF->Same H H'->LsA K H' D ((ovA rs rs.length).map d3)->Q (.ref D) H'
theorem ZE(h1:Is K H (.lst (rs.map dR)) (.ref a))(h2:jz rs)(h:∀D H',H D=sF->Same H H'->LsA K H' D ((ovA rs rs.length).map d3)->Q (.ref D) H'):wl K [.ref a] H Q E:=⟨a,rs,rfl,h1,h2,h⟩
theorem gu:zr ["rules","found","i","one","j","other","place"] ["rules"] (zb xy):=⟨rfl,rfl,rfl,by decide +kernel,rfl,by decide +kernel,by decide +kernel⟩
theorem Yq(B:Bt mg)(F:Fun K "overlaps" "overlaps" xy f fd)(ow:Df P w K mg base CX0 1 "agree" ["one","other","place"] [] uT):yg P w K mg base CX0 2 f fd ["rules"] (wl K):=by
 refine F.ok gu (λvs H Q E h=>?_) (λcdv A outer s H vs Q E hr h=>?_)
 ·obtain⟨a,rs,rfl,_⟩:=h
  rfl
 ·obtain⟨a,rs,rfl,hR,ok,q⟩:=h
  refine⟨_,(zO (zq (i:=1) gu.nd rfl (Or.inl rfl) (vg zc))
   (zO (yA PassesOwn.never rfl (wd rfl B.enum (za (pv 0) zc)) (uA (n:=2) rfl (yd (zB (i:=2) gu.nd rfl (Or.inl rfl)) (yd (zB (i:=3) gu.nd rfl (Or.inl rfl)) wy)))
    (zh (yA PassesOwn.never rfl (wd rfl B.enum (za (pv 0) zc)) (uA (n:=2) rfl (yd (zB (i:=4) gu.nd rfl (Or.inl rfl)) (yd (zB (i:=5) gu.nd rfl (Or.inl rfl)) wy)))
     (zh (yA PassesOwn.never rfl (V8 rfl B.range (za (kP (zI uL (pv 2) (pv 4) (zL _)) zg zg) (za (zt yc rfl B.len aA (za (zx ix_tup (pv 3) zg (λ_ _=>rfl)) zc)) zc))) (zB (i:=6) gu.nd rfl (Or.inl rfl))
      (zh (zW (xn (cl0 ow hr .nil rfl (za (zx ix_tup (pv 3) zg (λ_ _=>rfl)) (za (zx ix_tup (pv 5) zg (λ_ _=>rfl)) (za (pv 6) zc)))) (λ_=>rfl))
       (zh (wz (vt bO cf ci xH (pv 1) (za (yh (za (pv 2) (za (pv 4) (za (pv 6) zc)))) zc))))
       zC)))))))
   (zh (zv (pv 1))))),?_⟩
  have s16:=yk
  rfl'
  simp only[Is] at hR
  obtain⟨_,xs,e,hX,hI⟩:=hR
  cases e
  refine⟨by lia,λD hD=>⟨⟨_,(zf hD).seq hX⟩,ForEL.by (xs:=xs) (λi σ H'=>∃v2 v3 v4 v5 v6,σ=[sE (.ref a),sE (.ref D),v2,v3,v4,v5,v6]/\Same H H'/\LsA K H' D ((ovA rs i).map d3)) ⟨sF,sF,sF,sF,sF,rfl,zf hD,LsA.nil⟩ ?_ ?_ ?_⟩⟩
  ·rintro i σ H' hi ⟨v2,v3,v4,v5,v6,rfl,hs,_⟩
   exact hs.seq hX
  ·rintro i x σ H' p hx ⟨v2,v3,v4,v5,v6,rfl,hs,hL⟩ hp
   obtain⟨r,pr,hri,rfl,hqr⟩:=hI.getR hx
   have er:=wv hri
   have hr1:=(ok.2 r (ae hri)).1
   rfl'
   refine⟨_,SqT.of ze,rfl,_,_,rfl,_,_,rfl,rfl,⟨_,((hs.trans (zf hp)).seq hX)⟩,ForEL.by (xs:=xs) (λj σ H''=>∃v4 v5 v6,σ=[sE (.ref a),sE (.ref D),sE (.int (i:Nat)),sE (.ref pr),v4,v5,v6]/\Same H H''/\LsA K H'' D ((ovA rs i ++ ovI rs i j).map d3)) ⟨v4,v5,v6,rfl,hs.trans (zf hp),by rw[show ovI rs i 0=[] from rfl,aV];exact hL.same (zf hp)⟩ ?_ ?_ ?_⟩
   ·rintro j σ H2 hj ⟨v4,v5,v6,rfl,hs2,_⟩
    exact hs2.seq hX
   ·rintro j y σ H2 p2 hy ⟨v4,v5,v6,rfl,hs2,hL2⟩ hp2
    obtain⟨r2,pr2,hri2,rfl,hqr2⟩:=hI.getR hy
    have er2:=wv hri2
    have hr2:=(ok.2 r2 (ae hri2)).1
    have hs3:=hs2.trans (zf (o:=.tup [.int (j:Nat),.ref pr2]) hp2)
    have hq1:=zm hs3 hqr
    have el:(tx r.1).length=r.1.length:=zR _
    rfl'
    refine⟨_,SqT.of ze,rfl,_,_,rfl,_,_,rfl,rfl,rfl,xp (λh=>?_) λh=>?_⟩
    ·have hij:i=j:=by injection h with h;lia
     have z0:ZP rs i j (1+0)=[]:=by
      subst hij
      rw[show 1+0=0+1 from rfl,qH]
      simp [ZP]
     have zn:ZP rs i j (1+((r.1.length:Int) - 1).toNat)=ZP rs i j r.1.length:=by
      by_cases h0:r.1.length=0
      ·rw[h0]
       exact z0
      ·rw[show 1+((r.1.length:Int) - 1).toNat=r.1.length by lia]
     refine⟨_,hq1,_,rfl,_,⟨by lia,rfl⟩,by decide,by decide,by lia,by lia,ForR.by (λt σ H3=>∃v6,σ=[sE (.ref a),sE (.ref D),sE (.int (i:Nat)),sE (.ref pr),sE (.int (j:Nat)),sE (.ref pr2),v6]/\Same H H3/\LsA K H3 D ((ovA rs i ++ ovI rs i j ++ ZP rs i j (1+t)).map d3)) ⟨v6,rfl,hs3,(by rw[z0,aV];exact hL2.same (zf hp2))⟩ ?_ ?_⟩
     ·rintro n σ H3 hn ⟨v6,rfl,hs4,hL4⟩
      have hn':1+n<r.1.length:=by lia
      have en:((1:Int)+(n:Int))=((1+n:Nat):Int):=by lia
      rw[en]
      obtain⟨ys,hY,hJ⟩:=hL4
      have hlen:=hJ.len
      have l1:=WI ok i
      have l2:=Yz ok i j
      have l3:=uN rs i j (1+n)
      have i1:=(List.getElem?_eq_some_iff.mp hri).1
      have i2:=(List.getElem?_eq_some_iff.mp hri2).1
      have i3:=ok.1
      simp only[af,am] at hlen
      have es:=qH rs i j (1+n)
      have etest:(decide (i≠j) || decide (1+n≠0))=sG:=by rw[show decide (1+n≠0)=sG from decide_eq_true (by lia),dC]
      rw[etest,Bool.true_and,er,er2] at es
      rfl'
      refine⟨_,zm hs4 hqr,_,rfl,_,zm hs4 hqr2,_,rfl,Zx (by lia) (by lia) (by lia) ⟨_,rfl,xp (λhb=>⟨.inl ⟨_,SqL.of hY⟩,by lia,λt ht=>⟨_,zf ht _ _ hY,by lia,zG (hs4.trans (zf ht)) hD,?_⟩⟩) λhb=>⟨hs4,ys,hY,?_⟩⟩⟩
      ·rw[hb,if_pos rfl] at es
       rw[show 1+(n+1)=1+n+1 by lia,es,<- ax,aE]
       exact LsA.pushT hY hJ ht K8 (YO _) (by simp only[zZ,xv,and_self])
      ·have hb':y0 r.1 r2.1 (1+n)=sH:=by simpa using hb
       rw[hb',if_neg aG,aV] at es
       rw[show 1+(n+1)=1+n+1 by lia,es]
       exact hJ
     ·rintro σ H3 ⟨v6,rfl,hs4,hL4⟩
      refine⟨⟨_,_,_,rfl⟩,hs4,?_⟩
      rw[uO,er,<- ax]
      rw[el,zn] at hL4
      exact hL4
    ·have hij:i≠j:=λz=>h (by rw[z])
     refine⟨_,hq1,_,rfl,_,⟨by lia,rfl⟩,by decide,by decide,by lia,by lia,ForR.by (λt σ H3=>∃v6,σ=[sE (.ref a),sE (.ref D),sE (.int (i:Nat)),sE (.ref pr),sE (.int (j:Nat)),sE (.ref pr2),v6]/\Same H H3/\LsA K H3 D ((ovA rs i ++ ovI rs i j ++ ZP rs i j (0+t)).map d3)) ⟨v6,rfl,hs3,(by rw[show ZP rs i j (0+0)=[] from rfl,aV];exact hL2.same (zf hp2))⟩ ?_ ?_⟩
     ·rintro n σ H3 hn ⟨v6,rfl,hs4,hL4⟩
      have hn':0+n<r.1.length:=by lia
      have en:((0:Int)+(n:Int))=((0+n:Nat):Int):=by lia
      rw[en]
      obtain⟨ys,hY,hJ⟩:=hL4
      have hlen:=hJ.len
      have l1:=WI ok i
      have l2:=Yz ok i j
      have l3:=uN rs i j (0+n)
      have i1:=(List.getElem?_eq_some_iff.mp hri).1
      have i2:=(List.getElem?_eq_some_iff.mp hri2).1
      have i3:=ok.1
      simp only[af,am] at hlen
      have es:=qH rs i j (0+n)
      have etest:(decide (i≠j) || decide (0+n≠0))=sG:=by rw[show decide (i≠j)=sG from decide_eq_true hij,Bool.true_or]
      rw[etest,Bool.true_and,er,er2] at es
      rfl'
      refine⟨_,zm hs4 hqr,_,rfl,_,zm hs4 hqr2,_,rfl,Zx (by lia) (by lia) (by lia) ⟨_,rfl,xp (λhb=>⟨.inl ⟨_,SqL.of hY⟩,by lia,λt ht=>⟨_,zf ht _ _ hY,by lia,zG (hs4.trans (zf ht)) hD,?_⟩⟩) λhb=>⟨hs4,ys,hY,?_⟩⟩⟩
      ·rw[hb,if_pos rfl] at es
       rw[show 0+(n+1)=0+n+1 by lia,es,<- ax,aE]
       exact LsA.pushT hY hJ ht K8 (YO _) (by simp only[zZ,xv,and_self])
      ·have hb':y0 r.1 r2.1 (0+n)=sH:=by simpa using hb
       rw[hb',if_neg aG,aV] at es
       rw[show 0+(n+1)=0+n+1 by lia,es]
       exact hJ
     ·rintro σ H3 ⟨v6,rfl,hs4,hL4⟩
      refine⟨⟨_,_,_,rfl⟩,hs4,?_⟩
      rw[uO,er,<- ax]
      rw[el,show 0+((r.1.length:Int) - 0).toNat=r.1.length by lia] at hL4
      exact hL4
   ·rintro σ H2 ⟨v4,v5,v6,rfl,hs2,hL2⟩
    have e:=hI.len
    rw[af] at e
    rw[e,<- jL] at hL2
    exact⟨⟨_,_,_,_,_,rfl⟩,hs2,hL2⟩
  ·rintro σ H' ⟨v2,v3,v4,v5,v6,rfl,hs,hL⟩
   have e:=hI.len
   rw[af] at e
   rw[e] at hL
   rfl'
   exact q D H' hD hs hL
noncomputable def yb(l m:List Nat)(k:Nat):List Nat:=l ++ m.drop (l.length - k)
theorem wL(l m:List Nat)(k:Nat)(hk:k<=l.length):(yb l m k).length=max l.length (k+m.length):=by
 unfold yb
 rw[am,ba]
 lia
theorem jE(l m:List Nat)(k:Nat):zu (yb l m k) 0 l=sG:=by
  unfold zu yb
  refine decide_eq_true ⟨by decide,by rw[am];lia,?_⟩
  rw[show (0:Int).toNat=0 from rfl,dO,aT (aq _),aQ]
theorem qB{l m:List Nat}(hk:k<=l.length)(h:y0 l m k=sG):zu (yb l m k) (k:Nat) m=sG:=by
 unfold y0 at h
 rw[decide_eq_true_eq] at h
 have hl:=wL l m k hk
 unfold zu
 refine decide_eq_true ⟨by lia,by lia,?_⟩
 rw[show ((k:Nat):Int).toNat=k from rfl]
 unfold yb
 rw[bK hk]
 by_cases hm:m.length<=l.length - k
 ·rw[aT (by rw[ba];lia),h,bp hm]
 ·rw[bp (by rw[ba];lia)] at h
  rw[h,bw,aQ]
theorem U1{i j n:Nat}{t:N3}(h:t ∈ ZP rs i j n):t.1=i/\t.2.1=j/\t.2.2<n/\y0 (lf rs i) (lf rs j) t.2.2=sG:=by
 unfold ZP at h
 obtain⟨k,hk,rfl⟩:=List.mem_map.mp h
 rw[List.mem_filter,eV,cE] at hk
 exact⟨rfl,rfl,hk.1,hk.2.2⟩
theorem vX{t:N3}(h:t ∈ ovA rs rs.length):t.1<rs.length/\t.2.1<rs.length/\t.2.2<(lf rs t.1).length/\y0 (lf rs t.1) (lf rs t.2.1) t.2.2=sG:=by
 unfold ovA ovI at h
 obtain⟨i,hi,h⟩:=List.mem_flatMap.mp h
 obtain⟨j,hj,h⟩:=List.mem_flatMap.mp h
 obtain⟨e1,e2,e3,e4⟩:=U1 h
 rw[e1,e2]
 exact⟨List.mem_range.mp hi,List.mem_range.mp hj,e3,e4⟩
def qJ(K:oO):Sp:=λvs H Q _=>∃(a t:oP) (rs:List zw) (i j k:Nat) (r r2:zw),vs=[.ref a,.ref t]/\Is K H (.lst (rs.map dR)) (.ref a)/\SqT K H t [.int (i:Nat),.int (j:Nat),.int (k:Nat)]/\jz rs/\rs[i]? = sE r/\rs[j]? = sE r2/\k<=r.1.length/\y0 r.1 r2.1 k=sG /\
 ∀p H',H p=sF->Same H H'->H' p=sE (.tup [.str (tx (yb r.1 r2.1 k)),.str (tx (yV (yb r.1 r2.1 k) 0 r.1 r.2)),.str (tx (yV (yb r.1 r2.1 k) (k:Nat) r2.1 r2.2))])->Q (.ref p) H'
theorem YK{a t:oP}{i j k:Nat}{r r2:zw}(h1:Is K H (.lst (rs.map dR)) (.ref a))(h2:SqT K H t [.int (i:Nat),.int (j:Nat),.int (k:Nat)])(h3:jz rs)(h4:rs[i]? = sE r)(h5:rs[j]? = sE r2)(h6:k<=r.1.length)(h7:y0 r.1 r2.1 k=sG)
 (h:∀p H',H p=sF->Same H H'->H' p=sE (.tup [.str (tx (yb r.1 r2.1 k)),.str (tx (yV (yb r.1 r2.1 k) 0 r.1 r.2)),.str (tx (yV (yb r.1 r2.1 k) (k:Nat) r2.1 r2.2))])->Q (.ref p) H'):qJ K [.ref a,.ref t] H Q E:=⟨a,t,rs,i,j,k,r,r2,rfl,h1,h2,h3,h4,h5,h6,h7,h⟩
theorem W7{CU:oP}{l o n:List Nat}{k:Int}(h1:l.length<=10000)(h2:o.length<=10000)(h3:n.length<=10000)(hs:zu l k o=sG)(q:Q (.str (tx (yV l k o n))) H):ZF CU [.str (tx l),.int k,.str (tx o),.str (tx n)] H Q E:=⟨l,o,n,k,rfl,h1,h2,h3,λ_=>q,λh=>by rw[hs] at h;cases h⟩
theorem lT:zr ["rules","overlap","one","other","place","word"] ["rules","overlap"] (zb jn):=⟨rfl,rfl,rfl,by decide +kernel,rfl,by decide +kernel,by decide +kernel⟩
theorem JR{f CU:oP}(B:Bt mg)(F:Fun K "peak" "peak" jn f fd)(nI:Df P w K mg base (CXx P w) 3 "put" ["word","place","old","new"] [] (ZF CU)):yg P w K mg base CX0 4 f fd ["rules","overlap"] (qJ K):=by
 refine F.ok lT (λvs H Q E h=>?_) (λcdv A outer s H vs Q E hr h=>?_)
 ·obtain⟨a,t,rs,i,j,k,r,r2,rfl,_⟩:=h
  rfl
 ·obtain⟨a,t,rs,i,j,k,r,r2,rfl,hR,ht,ok,hr1,hr2,hk,hag,q⟩:=h
  refine⟨_,(zi (zq (i:=2) lT.nd rfl (Or.inl rfl) (zx ix_list (pv 0) (zx ix_tup (pv 1) zg (λ_ _=>rfl)) (λ_ _=>rfl)))
   (zi (zq (i:=3) lT.nd rfl (Or.inl rfl) (zx ix_list (pv 0) (zx ix_tup (pv 1) zg (λ_ _=>rfl)) (λ_ _=>rfl)))
   (zi (zq (i:=4) lT.nd rfl (Or.inl rfl) (zx ix_tup (pv 1) zg (λ_ _=>rfl)))
   (zi (zq (i:=5) lT.nd rfl (Or.inl rfl) (zE op_add_str (zx ix_tup (pv 2) zg (λ_ _=>rfl)) (yl QQ (zx ix_tup (pv 3) zg (λ_ _=>rfl)) (yj (zE uF (zt yc rfl B.len aA (za (zx ix_tup (pv 2) zg (λ_ _=>rfl)) zc)) (pv 4))) xE)))
   (zh (zv (yh (za (pv 5) (za (clP xe0 nI hr .nil rfl (za (pv 5) (za zg (za (zx ix_tup (pv 2) zg (λ_ _=>rfl)) (za (zx ix_tup (pv 2) zg (λ_ _=>rfl)) zc))))) (za (clP xe0 nI hr .nil rfl (za (pv 5) (za (pv 4) (za (zx ix_tup (pv 3) zg (λ_ _=>rfl)) (za (zx ix_tup (pv 3) zg (λ_ _=>rfl)) zc))))) zc)))))))))),?_⟩
  have s16:=yk
  simp only[Is] at hR
  obtain⟨_,xs,e,hX,hI⟩:=hR
  cases e
  obtain⟨p1,a1,q1⟩:=zcc hI hr1
  obtain⟨p2,a2,q2⟩:=zcc hI hr2
  have b1:=ok.2 r (ae hr1)
  have b2:=ok.2 r2 (ae hr2)
  refine zj (λσ H'=>H'=H/\σ=[sE (.ref a),sE (.ref t),sE (.ref p1),sF,sF,sF]) ?_ ?_
  ·rfl'
   exact⟨_,ht,_,rfl,_,_,rfl,hX,a1⟩
  rintro σ H1 ⟨rfl,rfl⟩
  refine zj (λσ H'=>H'=H1/\σ=[sE (.ref a),sE (.ref t),sE (.ref p1),sE (.ref p2),sF,sF]) ?_ ?_
  ·rfl'
   exact⟨_,ht,_,rfl,_,_,rfl,hX,a2⟩
  rintro σ H2 ⟨rfl,rfl⟩
  refine zj (λσ H'=>H'=H2/\σ=[sE (.ref a),sE (.ref t),sE (.ref p1),sE (.ref p2),sE (.int (k:Nat)),sF]) ?_ ?_
  ·rfl'
   exact⟨_,ht,rfl⟩
  rintro σ H3 ⟨rfl,rfl⟩
  refine zj (λσ H'=>H'=H3/\σ=[sE (.ref a),sE (.ref t),sE (.ref p1),sE (.ref p2),sE (.int (k:Nat)),sE (.str (tx (yb r.1 r2.1 k)))]) ?_ ?_
  ·rfl'
   refine⟨_,q1,_,rfl,_,q2,_,rfl,_,q1,_,rfl,_,⟨by rw[zR];lia,rfl⟩,.inr ⟨_,rfl,by rw[zR];lia,_,rfl,?_,?_⟩⟩
   ·rw[zR,X2]
    have:=wB r2.1 (sE ((r.1.length:Int) - (k:Int))) sF
    lia
   ·rw[zR,X2,x0,vA _ (by lia),show ((r.1.length:Int) - (k:Int)).toNat=r.1.length - k by lia]
    rfl
  rintro σ H4 ⟨rfl,rfl⟩
  have hw:=wL r.1 r2.1 k hk
  rfl'
  exact⟨_,q1,_,rfl,_,q1,_,rfl,W7 (by lia) (by lia) (by lia) (jE _ _ _) ⟨_,q2,_,rfl,_,q2,_,rfl,W7 (by lia) (by lia) (by lia) (qB hk hag) ⟨by lia,λp hp=>q p _ hp (zf hp) ze⟩⟩⟩
def FmOk(ps:List zw)(most:Int)(m:oW->Option V):Prop:=∀k v,m k=sE v->∃(w:List Nat) (J:Nat),k=tx w/\v=.str (tx (wAt ps w J))/\XV ps w J/\zF (wAt ps w J) ps=sF/\(J:Int)<=most
theorem FmOk.get{most:Int}{m:oW->Option V}(h:FmOk ps most m){w:List Nat}{v:V}(e:m (tx w)=sE v){J:Nat}(hl:XV ps w J)(hf:zF (wAt ps w J) ps=sF):v=.str (tx (wAt ps w J)):=by
 obtain⟨w',J',e1,e2,e3,e4,_⟩:=h _ _ e
 have e5:=ju e1
 subst e5
 rw[e2,Qs e3 e4 hl hf]
theorem FmOk.put{most:Int}{m:oW->Option V}(h:FmOk ps most m){w:List Nat}{J:Nat}(hl:XV ps w J)(hf:zF (wAt ps w J) ps=sF)(hJ:(J:Int)<=most):FmOk ps most (λx=>if x=tx w then sE (.str (tx (wAt ps w J))) else m x):=λk v e=>by
 by_cases hk:k=tx w
 ·simp only[hk,if_true] at e
  cases e
  exact⟨w,J,hk,rfl,hl,hf,hJ⟩
 ·simp only[hk,if_false] at e
  exact h k v e
def kK(P:oV)(w:oX)(K:oO)(CF:oP):Sp:=λvs H Q E=>∃(a F:oP) (l:List Nat) (ps:List zw) (m:Int) (J n:Nat) (mp:oW->Option V),vs=[.ref a,.str (tx l),.int m,.ref F]/\LsA K H a (ps.map dR)/\NeL ps/\ps.length<=100/\(∀p ∈ ps,p.1.length<=1000/\p.2.length<=1000)/\Rd ps l J/\H F=sE (jb P w F mp n)/\FmOk ps m mp/\n<=10000 /\
 ((zF (wAt ps l J) ps=sF/\(J:Int)<=m/\∀(mp':oW->Option V) (n':Nat) (H':Hp),SamT F H H'->H' F=sE (jb P w F mp' n')->FmOk ps m mp'->n'<=n+1->Q (.str (tx (wAt ps l J))) H') \/
  (zF (wAt ps l J) ps≠sF/\(J:Int)=m/\∀H',Same H H'->E (.ref CF) sF H'))
theorem XA:zr ["rules","word","most","forms"] ["rules","word","most","forms"] (zb wa):=⟨rfl,rfl,rfl,by decide +kernel,rfl,by decide +kernel,by decide +kernel⟩
theorem XD{f CF:oP}{lu:rB}(B:Bt mg)(F:Fun K "form_of" "form_of" wa f fd)(ng:Df P w K mg base (CXx P w) 4 "gone" ["rules","word","most"] [] (wS K CF))(DD_gone:Df P w K mg base (CXx P w) 4 "gone" ["rules","word","most"] [.int 4000 lu] (wS K CF)):yg P w K mg base (CXx P w) 5 f fd ["rules","word","most","forms"] (kK P w K CF):=by
 refine Fun.okX F XA (λvs H Q E h=>?_) (λcdv A outer s H vs Q E hr hx h=>?_)
 ·obtain⟨a,F0,l,ps,m,J,n,mp,rfl,_⟩:=h
  rfl
 ·obtain⟨a,F0,l,ps,m,J,n,mp,rfl,hA,hN,hpl,hP,hR,hF,hM,hn,hq⟩:=h
  refine⟨_,(zi (zW (zI UY (pv 1) (pv 3) (by with_unfolding_all rfl))
    (zh (zas (zx ix_tup (clP hx ng hr .nil rfl (za (pv 0) (za (pv 1) (za (pv 2) zc)))) zg (λ_ _=>rfl)) (zaL (pv 3) (pv 1) Um (by intro _;rfl))))
    zC)
   (zh (zv (zx Ku (pv 3) (pv 1) (λ_ _=>rfl))))),?_⟩
  have s16:=yk
  have s16:=yk
  refine zj (λσ H'=>SamT F0 H H'/\zF (wAt ps l J) ps=sF/\(J:Int)<=m/\(∃(mp':oW->Option V) (n':Nat),H' F0=sE (jb P w F0 mp' n')/\FmOk ps m mp'/\n'<=n+1/\mp' (tx l)=sE (.str (tx (wAt ps l J))))/\σ=[sE (.ref a),sE (.str (tx l)),sE (.int m),sE (.ref F0)]) ?_ ?_
  ·rfl'
   refine⟨F0,mp,n,tx l,rfl,rfl,hF,_,rfl,xp (λhnone=>⟨a,l,ps,m,J,rfl,hA,hN,hpl,hP,hR,?_⟩) λhsome=>?_⟩
   ·rcases hq with ⟨hf,hJ,_⟩ | h
    ·refine .inl ⟨hf,hJ,λp S H' s' hp _ _=>⟨p,rfl,_,SqT.of hp,_,rfl,?_⟩⟩
     simp only[zcK]
     rfl'
     exact⟨F0,mp,n,tx l,rfl,rfl,s' _ _ hF,by lia,λb o hb e=>by rw[zo hb];exact s' _ _ e,hf,hJ,_,_,ze,hM.put hR.live hf hJ,aq _,if_pos rfl⟩
    ·exact .inr h
   ·cases hv:mp (tx l) with
    | none=>rw[hv] at hsome;exact absurd rfl hsome
    | some v =>
     obtain⟨w',J',e1,e2,e3,e4,e5⟩:=hM _ _ hv
     have e6:=ju e1
     subst e6
     rcases hq with ⟨hf,hJ,_⟩ | ⟨hf,hJ,_⟩
     ·exact⟨λb o _ e=>e,hf,hJ,mp,n,hF,hM,by lia,by rw[hM.get hv hR.live hf] at hv;exact hv⟩
     ·exfalso
      rcases ee J' J with h | h
      ·exact hR.live J' h e4
      ·have:J'=J:=by lia
       subst this
       exact hf e4
  rintro σ H1 ⟨s1,hf,hJ,⟨mp',n',h1,h2,h3,h4⟩,rfl⟩
  rfl'
  refine⟨F0,mp',n',tx l,_,rfl,rfl,h1,h4,?_⟩
  rcases hq with ⟨_,_,q⟩ | ⟨h,_⟩
  ·exact q mp' n' H1 s1 h1 h2 h3
  ·exact absurd hf h
noncomputable def pkA(ps:List zw)(t:N3):List Nat:=yV (yb (lf ps t.1) (lf ps t.2.1) t.2.2) 0 (lf ps t.1) (ps.getD t.1 ([],[])).2
noncomputable def pkB(ps:List zw)(t:N3):List Nat:=yV (yb (lf ps t.1) (lf ps t.2.1) t.2.2) (t.2.2:Nat) (lf ps t.2.1) (ps.getD t.2.1 ([],[])).2
inductive K3(ps:List zw)(m:Int)(l:List Nat):Option Nat->Prop where
 | yes {J:Nat} (h:Rd ps l J) (h1:zF (wAt ps l J) ps=sF) (h2:(J:Int)<=m):K3 ps m l (sE J)
 | no {J:Nat} (h:Rd ps l J) (h1:zF (wAt ps l J) ps≠sF) (h2:(J:Int)=m):K3 ps m l sF
def uV(P:oV)(w:oX)(K:oO)(CF:oP):Sp:=λvs H Q E=>∃(a t F:oP) (ps:List zw) (tr:N3) (m:Int) (n:Nat) (mp:oW->Option V) (g1 g2:Option Nat),vs=[.ref a,.ref t,.int m,.ref F]/\LsA K H a (ps.map dR)/\NeL ps/\jz ps/\SqT K H t [.int (tr.1:Nat),.int (tr.2.1:Nat),.int (tr.2.2:Nat)]/\tr ∈ ovA ps ps.length/\H F=sE (jb P w F mp n)/\FmOk ps m mp/\n<=9000/\K3 ps m (pkA ps tr) g1/\K3 ps m (pkB ps tr) g2 /\
 (∀(J1 J2:Nat) (mp':oW->Option V) (n':Nat) (H':Hp),g1=sE J1->g2=sE J2->SamT F H H'->H' F=sE (jb P w F mp' n')->FmOk ps m mp'->n'<=n+2->Q (.bl (decide (wAt ps (pkA ps tr) J1=wAt ps (pkB ps tr) J2))) H') /\
 ((g1=sF\/g2=sF)->∀H',SamT F H H'->E (.ref CF) sF H')
theorem Y1{P:oV}{w:oX}{CF a F:oP}{l:List Nat}{m:Int}{n:Nat}{mp:oW->Option V}{g:Option Nat}(hA:LsA K H a (ps.map dR))(hN:NeL ps)(hok:jz ps)(hF:H F=sE (jb P w F mp n))(hM:FmOk ps m mp)(hn:n<=10000)(hg:K3 ps m l g)
  (h1:∀(J:Nat) (mp':oW->Option V) (n':Nat) (H':Hp),g=sE J->SamT F H H'->H' F=sE (jb P w F mp' n')->FmOk ps m mp'->n'<=n+1->Q (.str (tx (wAt ps l J))) H') (h2:g=sF->∀H',Same H H'->E (.ref CF) sF H'):kK P w K CF [.ref a,.str (tx l),.int m,.ref F] H Q E:=by
 have hP:∀p ∈ ps,p.1.length<=1000/\p.2.length<=1000:=λp hp=>by have:=hok.2 p hp;lia
 have hl:ps.length<=100:=by have:=hok.1;lia
 cases hg with
 | yes h e1 e2=>exact⟨a,F,l,ps,m,_,n,mp,rfl,hA,hN,hl,hP,h,hF,hM,hn,.inl ⟨e1,e2,λmp' n' H' a1 a2 a3 a4=>h1 _ mp' n' H' rfl a1 a2 a3 a4⟩⟩
 | no h e1 e2=>exact⟨a,F,l,ps,m,_,n,mp,rfl,hA,hN,hl,hP,h,hF,hM,hn,.inr ⟨e1,e2,h2 rfl⟩⟩
theorem qA{F t:oP}{H H':Hp}{P:oV}{w:oX}{mp:oW->Option V}{n:Nat}{xs:List V}(s:SamT F H H')(hF:H F=sE (jb P w F mp n))(h:SqT K H t xs):SqT K H' t xs:=by
 rcases h with (h | ⟨o,h⟩) | h
 ·exact .inl (.inl (s _ _ (λz=>by rw[z,hF] at h;cases h) h))
 ·exact .inl (.inr ⟨o,s _ _ (λz=>by rw[z,hF] at h;cases h) h⟩)
 ·exact .inr h
theorem YL{F a:oP}{H H':Hp}{P:oV}{w:oX}{mp:oW->Option V}{n:Nat}(s:SamT F H H')(hF:H F=sE (jb P w F mp n))(h:LsA K H a (ps.map dR)):LsA K H' a (ps.map dR):=by
 obtain⟨xs,h1,h2⟩:=h
 refine⟨xs,s _ _ (λz=>by rw[z,hF] at h1;cases h1) h1,?_⟩
 have key:∀(qs:List zw) (vs:List V),Iss K H (qs.map dR) vs->Iss K H' (qs.map dR) vs:=by
  intro qs
  induction qs with
  | nil=>intro vs h;simp only[aP,Iss] at h ⊢;exact h
  | cons q qs ih =>
   intro vs h
   simp only[az,Iss] at h ⊢
   obtain⟨v,r,e,h3,h4⟩:=h
   obtain⟨p,rfl,h5⟩:=zbe h3
   exact⟨_,r,e,zbZ (qA s hF h5),ih r h4⟩
 exact key ps xs h2
theorem lM:zr ["rules","overlap","most","forms","sides","one","other"] ["rules","overlap","most","forms"] (zb w9):=⟨rfl,rfl,rfl,by decide +kernel,rfl,by decide +kernel,by decide +kernel⟩
theorem V6{f CF:oP}(B:Bt mg)(F:Fun K "is_met" "is_met" w9 f fd)(nO:Df P w K mg base CX0 4 "peak" ["rules","overlap"] [] (qJ K))(nC:Df P w K mg base (CXx P w) 5 "form_of" ["rules","word","most","forms"] [] (kK P w K CF)):yg P w K mg base (CXx P w) 6 f fd ["rules","overlap","most","forms"] (uV P w K CF):=by
 refine Fun.okX F lM (λvs H Q E h=>?_) (λcdv A outer s H vs Q E hr hx h=>?_)
 ·obtain⟨a,t,F0,ps,tr,m,n,mp,g1,g2,rfl,_⟩:=h
  rfl
 ·obtain⟨a,t,F0,ps,tr,m,n,mp,g1,g2,rfl,hA,hN,hok,ht,htr,hF,hM,hn,hg1,hg2,q1,q2⟩:=h
  refine⟨_,(zi (zq (i:=4) lM.nd rfl (Or.inl rfl) (cl0 nO hr .nil rfl (za (pv 0) (za (pv 1) zc))))
   (zi (zq (i:=5) lM.nd rfl (Or.inl rfl) (clP hx nC hr .nil rfl (za (pv 0) (za (zx ix_tup (pv 4) zg (λ_ _=>rfl)) (za (pv 2) (za (pv 3) zc))))))
   (zi (zq (i:=6) lM.nd rfl (Or.inl rfl) (clP hx nC hr .nil rfl (za (pv 0) (za (zx ix_tup (pv 4) zg (λ_ _=>rfl)) (za (pv 2) (za (pv 3) zc))))))
   (zh (zv (vv uL (pv 5) (pv 6) (zL _))))))),?_⟩
  have s16:=yk
  have s16:=yk
  obtain⟨i1,i2,i3,i4⟩:=vX htr
  obtain⟨r,hr⟩:∃r,ps[tr.1]? = sE r:=⟨_,ak i1⟩
  obtain⟨r2,hr2⟩:∃r,ps[tr.2.1]? = sE r:=⟨_,ak i2⟩
  have l1:=wv hr
  have l2:=wv hr2
  have d1:ps.getD tr.1 ([],[])=r:=by rw[ac,hr];rfl
  have d2:ps.getD tr.2.1 ([],[])=r2:=by rw[ac,hr2];rfl
  have eA:pkA ps tr=yV (yb r.1 r2.1 tr.2.2) 0 r.1 r.2:=by unfold pkA;rw[l1,l2,d1]
  have eB:pkB ps tr=yV (yb r.1 r2.1 tr.2.2) (tr.2.2:Nat) r2.1 r2.2:=by unfold pkB;rw[l1,l2,d2]
  rw[l1] at i3
  rw[l1,l2] at i4
  refine zj (λσ H'=>Same H H'/\∃p:oP,(∃x,H' p=sE (.tup [x,.str (tx (pkA ps tr)),.str (tx (pkB ps tr))]))/\σ=[sE (.ref a),sE (.ref t),sE (.int m),sE (.ref F0),sE (.ref p),sF,sF]) ?_ ?_
  ·rfl'
   exact YK hA.is ht hok hr hr2 (by lia) i4 λp H' _ s' hp=>⟨s',p,⟨_,by rw[eA,eB];exact hp⟩,rfl⟩
  rintro σ H1 ⟨s1,p,⟨x,hp⟩,rfl⟩
  have hF1:=s1 _ _ hF
  refine zj (λσ H'=>SamT F0 H1 H'/\∃(J1:Nat),g1=sE J1/\(∃mp' n',H' F0=sE (jb P w F0 mp' n')/\FmOk ps m mp'/\n'<=n+1)/\σ=[sE (.ref a),sE (.ref t),sE (.int m),sE (.ref F0),sE (.ref p),sE (.str (tx (wAt ps (pkA ps tr) J1))),sF]) ?_ ?_
  ·rfl'
   refine⟨_,SqT.of hp,_,rfl,Y1 (hA.same s1) hN hok hF1 hM (by lia) hg1 (λJ mp' n' H' e a1 a2 a3 a4=>?_) λe H' s'=>q2 (.inl e) H' (SamT.of (s1.trans s'))⟩
   exact⟨a1,J,e,⟨mp',n',a2,a3,a4⟩,rfl⟩
  rintro σ H2 ⟨s2,J1,e1,⟨mp1,n1,hF2,hM2,hn2⟩,rfl⟩
  have s12:SamT F0 H H2:=(SamT.of s1).trans s2
  have hpF:p≠F0:=λz=>by rw[z,hF1] at hp;cases hp
  refine zj (λσ H'=>SamT F0 H2 H'/\∃(J2:Nat),g2=sE J2/\(∃mp' n',H' F0=sE (jb P w F0 mp' n')/\FmOk ps m mp'/\n'<=n+2)/\σ=[sE (.ref a),sE (.ref t),sE (.int m),sE (.ref F0),sE (.ref p),sE (.str (tx (wAt ps (pkA ps tr) J1))),sE (.str (tx (wAt ps (pkB ps tr) J2)))]) ?_ ?_
  ·rfl'
   exact⟨_,SqT.of (s2 _ _ hpF hp),_,rfl,Y1 (YL s2 hF1 (hA.same s1)) hN hok hF2 hM2 (by lia) hg2 (λJ mp' n' H' e a1 a2 a3 a4=>⟨a1,J,e,⟨mp',n',a2,a3,by lia⟩,rfl⟩) λe H' s'=>q2 (.inr e) H' (s12.trans (SamT.of s'))⟩
  rintro σ H3 ⟨s3,J2,e2,⟨mp2,n2,hF3,hM3,hn3⟩,rfl⟩
  rfl'
  exact q1 J1 J2 mp2 n2 H3 e1 e2 (s12.trans s3) hF3 hM3 hn3
def kd(K:oO)(CH:oP):Sp:=λvs H Q _=>∃(y o q:oP) (ps:List zw),vs=[.ref y]/\UP K CH H y o q ps/\∀(r:oP) (H':Hp),Same H H'->LsA K H' r (ps.map dR)->H r=sF->Q (.ref r) H'
theorem vc:zr ["self"] ["self"] (zb zQ):=⟨rfl,rfl,rfl,by decide +kernel,rfl,by decide +kernel,by decide +kernel⟩
theorem vb{f CH:oP}(B:Bt mg)(TS:zah K mg CH)(F:Fun K "rules_told" "System.rules_told" zQ f fd) : yg P w K mg base CX0 1 f fd ["self"] (kd K CH):=by
 refine F.ok vc (λvs H Q E h=>?_) (λcdv A outer s H vs Q E hr h=>?_)
 ·obtain⟨y,o,q,ps,rfl,_⟩:=h
  rfl
 ·obtain⟨y,o,q,ps,rfl,hy,k⟩:=h
  refine⟨_,(zh (zv (wN xN rfl B.list PySem.Pv.boot_list (za (YE (pv 0) rfl) zc)))),?_⟩
  have s16:=yk
  rfl'
  obtain⟨dx,xs,h1,h2,h3⟩:=hy
  exact⟨_,_,_,h1,TS.cl,TS.nr,_,rfl,_,rfl,_,.inl (SqL.of h2),λr hr'=>k r _ (zf hr') ⟨xs,ze,Iss.same (zf hr') _ _ h3⟩ hr'⟩
noncomputable def goJ(ps:List zw)(m:Nat)(v:List Nat):Option Nat:=(aX (m+1)).find? λj=>(zF (wAt ps v j) ps).isNone
theorem UQ{m:Nat}{v:List Nat}{i:Nat}(e:goJ ps m v=sE i):i<=m/\XV ps v i/\zF (wAt ps v i) ps=sF:=by
 unfold goJ at e
 have h1:=dF e
 have h2:zF (wAt ps v i) ps=sF:=Option.isNone_iff_eq_none.mp h1
 have hm:=List.mem_range.mp (d6 e)
 refine⟨by lia,λn hn hno=>?_,h2⟩
 obtain⟨_,as,bs,e2,h3⟩:=List.find?_eq_some_iff_append.mp e
 have hlen:as.length=i:=by
  have:=congrArg (λl=>l[as.length]?) e2
  simp only[bR (aq _),Nat.sub_self,eF] at this
  obtain⟨h7,h8⟩:=List.getElem?_eq_some_iff.mp this
  rw[fo] at h8
  exact h8
 have h9:(aX (m+1))[n]? = as[n]?:=by rw[e2,bX (by lia)]
 have h10:n<(aX (m+1)).length:=by rw[dq];lia
 rw[ak h10,fo] at h9
 have:=h3 n (ae h9.symm)
 rw[hno] at this
 cases this
theorem U2{m:Nat}{v:List Nat}(e:goJ ps m v=sF):∀j,j<=m->zF (wAt ps v j) ps≠sF:=λj hj hno=>by
 unfold goJ at e
 have:=List.find?_eq_none.mp e j (List.mem_range.mpr (by lia))
 rw[hno] at this
 exact this rfl
theorem WT{m:Nat}{v:List Nat}(hl:∀j,j<=m->(wAt ps v j).length<=10000)(hm:m<=10000):K3 ps (m:Int) v (goJ ps m v):=by
 cases e:goJ ps m v with
 | some i =>
  obtain⟨h1,h2,h3⟩:=UQ e
  exact .yes ⟨h2,λj hj=>hl j (by lia),by lia⟩ h3 (by lia)
 | none =>
  have h:=U2 e
  exact .no (J:=m) ⟨λi hi=>h i (by lia),λj hj=>hl j hj,hm⟩ (h m (aq _)) rfl
noncomputable def K0(ps:List zw)(m:Nat)(v:List Nat):List Nat:=wAt ps v ((goJ ps m v).getD 0)
noncomputable def Ui(ps:List zw)(m:Nat)(t:N3):Bool:=decide (K0 ps m (pkA ps t)=K0 ps m (pkB ps t))
def OkG(ps:List zw)(m:Nat)(t:N3):Prop:=(goJ ps m (pkA ps t)).isSome=sG/\(goJ ps m (pkB ps t)).isSome=sG
def zcL(ps:List zw)(m:Nat):Prop:=m<=10000/\∀t ∈ ovA ps ps.length,(∀j,j<=m->(wAt ps (pkA ps t) j).length<=10000)/\∀j,j<=m->(wAt ps (pkB ps t) j).length<=10000
theorem JU{t:N3}{m J1 J2:Nat}(e1:goJ ps m (pkA ps t)=sE J1)(e2:goJ ps m (pkB ps t)=sE J2):decide (wAt ps (pkA ps t) J1=wAt ps (pkB ps t) J2)=Ui ps m t:=by
 unfold Ui K0
 rw[e1,e2]
 rfl
theorem za0{m:Nat}{t:N3}(h:goJ ps m (pkA ps t)=sF\/goJ ps m (pkB ps t)=sF):¬ OkG ps m t:=λho=>by
 obtain⟨h1,h2⟩:=ho
 rcases h with h | h
 ·rw[h] at h1
  cases h1
 ·rw[h] at h2
  cases h2
theorem FmOk.nil{m:Int}:FmOk ps m λ_=>sF:=λk v e=>by cases e
theorem Zb{F:oP}{H H':Hp}{P:oV}{w:oX}{mp:oW->Option V}{n:Nat}(s:SamT F H H')(hF:H F=sE (jb P w F mp n)):∀{ts:List N3} {vs:List V},Iss K H (ts.map d3) vs->Iss K H' (ts.map d3) vs
 | [],vs,h=>by simp only[aP,Iss] at h ⊢;exact h
 | t::ts,vs,h=>by
  simp only[az,Iss] at h ⊢
  obtain⟨v,r,e,h3,h4⟩:=h
  refine⟨v,r,e,?_,Zb s hF h4⟩
  simp only[d3,Is] at h3 ⊢
  obtain⟨a,xs,e1,e2,e3⟩:=h3
  refine⟨a,xs,e1,qA s hF e2,?_⟩
  simp only[Iss,Is] at e3 ⊢
  exact e3
noncomputable def unG(ps:List zw)(m:Nat):List N3:=(ovA ps ps.length).filter λt=>!Ui ps m t
def vP(K:oO)(CH CF:oP):Sp:=λvs H Q E=>∃(y o q:oP) (ps:List zw) (m:Nat),vs=[.ref y,.int (m:Nat)]/\UP K CH H y o q ps/\NeL ps/\jz ps/\(ovA ps ps.length).length<=4000/\zcL ps m /\
 ((∀t ∈ ovA ps ps.length,OkG ps m t)->∀D H',Same H H'->H D=sF->LsA K H' D ((unG ps m).map d3)->Q (.ref D) H')/\(∀t ∈ ovA ps ps.length,¬ OkG ps m t->∀H',Same H H'->E (.ref CF) sF H')
theorem mQ:zr ["system","most","rules","forms"] ["system","most"] (zb xP):=⟨rfl,rfl,rfl,by decide +kernel,rfl,by decide +kernel,by decide +kernel⟩
theorem UL{f CF CH:oP}{dV:oQ}(B:Bt mg)(TS:zah K mg CH)(F:FunD K "unmet" "unmet" xP dV f fd)(oa:Df P w K mg base CX0 2 "overlaps" ["rules"] [] (wl K))(oq:Df P w K mg base (CXx P w) 6 "is_met" ["rules","overlap","most","forms"] [] (uV P w K CF))(M_system_rules_told:DM P w K mg base CX0 1 CH "rules_told" ["self"] (kd K CH)):yg P w K mg base (CXx P w) 7 f fd ["system","most"] (vP K CH CF):=by
 refine FunD.okX F mQ (λvs H Q E h=>?_) (λcdv A outer s H vs Q E hr hx h=>?_)
 ·obtain⟨y,o,q,ps,m,rfl,_⟩:=h
  rfl
 ·obtain⟨y,o,q,ps,m,rfl,hy,hN,hok,hlen,hE,k1,k2⟩:=h
  refine⟨_,(zi (zq (i:=2) mQ.nd rfl (Or.inr rfl) (me0 M_system_rules_told TS.cl hr (pv 0)))
   (zi (zq (i:=3) mQ.nd rfl (Or.inr rfl) Kh)
   (zh (zv (VV (EX:=E) (own:=["overlap"]) (caps:=["rules","most","forms"]) (ix:=[2,1,3]) (tt:=(zbq (tBl (qi (uV P w K CF) [] E (zN (yS 1) (zN (yS 0) (zN (yS 2) (zN (yS 3) ww)))))))) (te:=(yS 0)) rfl (zP (sc:=zb xP) rfl (by decide +kernel) (by decide +kernel) (by decide +kernel) rfl (by decide +kernel) (by decide +kernel) rfl) ⟨rfl,rfl⟩ hx (yF (cl0 oa hr .nil rfl (za (pv 2) zc))) (λ_ _ _ _ _ _=>zB (i:=0) (show List.Nodup [_,_,_,_] by decide) rfl (Or.inl rfl)) (λ_ _ _ _ _ _ _ hx'=>(WQ (yn (xn (clP hx' oq hr .nil rfl (za (pv 1) (za (pv 0) (za (pv 2) (za (pv 3) zc))))) (λ_=>rfl))))) (λ_ _ _ _ _ _ _ _=>(pv 0))))))),?_⟩
  have s16:=yk
  have s16:=yk
  obtain⟨dx,xs0,h1,h2,h3⟩:=id hy
  refine zj (λσ H'=>Same H H'/\∃r:oP,LsA K H' r (ps.map dR)/\σ=[sE (.ref y),sE (.int (m:Nat)),sE (.ref r),sF]) ?_ ?_
  ·rfl'
   exact⟨_,_,h1,rfl,y,o,q,ps,rfl,hy,λr H1 s1 hA hr'=>⟨s1,r,hA,rfl⟩⟩
  rintro σ H1 ⟨s1,r,hA,rfl⟩
  refine zj (λσ H'=>Same H H'/\LsA K H' r (ps.map dR)/\∃F:oP,H F=sF/\H' F=sE (jb P w F (λ_=>sF) 0)/\σ=[sE (.ref y),sE (.int (m:Nat)),sE (.ref r),sE (.ref F)]) ?_ ?_
  ·rfl'
   simp only[za5]
   intro F hF
   have s2:=zf (o:=jb P w F (λ_=>sF) 0) hF
   rfl'
   exact⟨s1.trans s2,hA.same s2,F,s1.free hF,ze,rfl⟩
  rintro σ H2 ⟨s2,hA2,F,hF0,hF,rfl⟩
  rfl'
  refine ZE hA2.is hok λO H3 hO s3 hL=>⟨O,rfl,?_,λD hD=>?_⟩
  ·obtain⟨xs,hX,_⟩:=hL
   exact⟨_,SqL.of hX⟩
  obtain⟨xs,hX,hI⟩:=hL
  have hxl:=hI.len
  rw[af] at hxl
  have hF3:=s3 _ _ hF
  have s03:=s2.trans s3
  have hDF:D≠F:=λz=>by rw[z,hF3] at hD;cases hD
  have hOF:O≠F:=λz=>by rw[z,hF3] at hX;cases hX
  have back:∀{G:Hp},SamT F H3 G->Same H G:=λ{G} sT b o' e=>sT b o' (λz=>by rw[z,hF0] at e;cases e) (s03 b o' e)
  refine CompL.by (xs:=xs) (λi sK H'=>SamT F H3 H'/\H' D=sE (.lst sK)/\(∃(mp:oW->Option V) (n:Nat),H' F=sE (jb P w F mp n)/\FmOk ps (m:Nat) mp/\n<=2 * i)/\Iss K H3 ((((ovA ps ps.length).take i).filter λt=>!Ui ps m t).map d3) sK/\∀t ∈ (ovA ps ps.length).take i,OkG ps m t) ⟨SamT.of (zf hD),ze,⟨_,0,by rw[zo (λz=>hDF z.symm)];exact hF3,FmOk.nil,by lia⟩,by simp only[bI,df,aP,Iss],λt ht=>by simp at ht⟩ (λi sK H' _ h=>SqL.of (h.1 _ _ hOF hX)) ?_ ?_
  ·rintro i x sK H' hx ⟨sT,hH,⟨mp,n,hFm,hM,hn⟩,hI',hle⟩
   have hil:=(List.getElem?_eq_some_iff.mp hx).1
   obtain⟨t,p,ht,rfl,hp⟩:=hI.get3 hx
   have htm:=ae ht
   have hE':=hE.2 t htm
   have hal:sK.length<=i:=by
    have:=hI'.len
    rw[af] at this
    have h5:=cQ (λt=>!Ui ps m t) ((ovA ps ps.length).take i)
    rw[aK] at h5
    lia
   simp only[zbq,tBl]
   rfl'
   refine⟨xl,r,p,F,ps,t,(m:Nat),n,mp,_,_,rfl,YL sT hF3 (hA2.same s3),hN,hok,qA sT hF3 hp,htm,hFm,hM,by lia,WT hE'.1 hE.1,WT hE'.2 hE.1,λJ1 J2 mp' n' H5 e1 e2 s5 hF5 hM5 hn5=>?_,λh H5 s5=>k2 t htm (za0 h) H5 (back (sT.trans s5))⟩
   have hle':∀t' ∈ (ovA ps ps.length).take (i+1),OkG ps m t':=λt' ht'=>by
    rw[zU ht] at ht'
    rcases List.mem_append.mp ht' with h | h
    ·exact hle t' h
    ·rw[List.mem_singleton.mp h]
     exact⟨by rw[e1];rfl,by rw[e2];rfl⟩
   rw[JU e1 e2]
   have hcase:∀b,Ui ps m t=b->(!b)=sG->Iss K H3 ((((ovA ps ps.length).take (i+1)).filter λt=>!Ui ps m t).map d3) (sK ++ [.ref p]):=λb hb hb'=>by
    rw[zU ht,cM,aE]
    refine Iss.append hI' ?_
    rw[et,hb,if_pos hb']
    simp only[df,az,aP,Iss]
    refine⟨_,[],rfl,?_,rfl⟩
    simp only[d3,Is,Iss]
    exact⟨p,_,rfl,hp,_,_,rfl,rfl,_,_,rfl,rfl,_,_,rfl,rfl,rfl⟩
   refine⟨_,rfl,?_⟩
   cases hb:Ui ps m t with
   | false =>
    rw[if_pos rfl]
    refine⟨s5 _ _ hDF hH,by lia,CNx.mk hil ⟨λb o' hbF e=>?_,ze,⟨mp',n',by rw[zo (λz=>hDF z.symm)];exact hF5,hM5,by lia⟩,hcase _ hb rfl,hle'⟩⟩
    rw[zo (λz=>by rw[z,hD] at e;cases e)]
    exact s5 b o' hbF (sT b o' hbF e)
   | true =>
    rw[if_neg (by decide)]
    refine CNx.mk hil ⟨sT.trans s5,s5 _ _ hDF hH,⟨mp',n',hF5,hM5,by lia⟩,?_,hle'⟩
    rw[zU ht,cM,et,hb]
    simp only[Bool.not_true,bM,if_false,df,aV]
    exact hI'
  ·rintro sK H' ⟨sT,hH,_,hI',hle⟩
   rw[hxl,aQ] at hI' hle
   exact k1 hle D H' (back sT) (s03.free hD) ⟨sK,hH,Zb sT hF3 hI'⟩
theorem zbx{p:oP}{a b:V}{i j:Nat}{σ:L2.St}{R:L2.St->Hp->Prop}(h:SqT K H p [a,b])(k:R ((σ.set i (sE a)).set j (sE b)) H):K5 K 2 (kN (xu i) (kN (xu j) K2)) (.ref p) σ H R:=by
 simp only[K5,kN,xu,K2]
 first
 | exact⟨_,_,rfl,h,rfl,_,_,rfl,_,_,rfl,rfl,k⟩
 | exact⟨_,_,rfl,.inr h,rfl,_,_,rfl,_,_,rfl,rfl,k⟩
theorem EnsA.app{fs:List Ent}{us:List V}(hf:EnsA K H fs us):∀{es:List Ent} {vs:List V},EnsA K H es vs->EnsA K H (es ++ fs) (vs ++ us)
 | [],vs,h=>by
  simp only[EnsA] at h
  subst h
  exact hf
 | e::es,vs,h=>by
  simp only[EnsA] at h
  obtain⟨x,r,rfl,hx,hr⟩:=h
  simp only[bE,EnsA]
  exact⟨x,r ++ us,rfl,hx,hf.app hr⟩
abbrev MkS(P:oV)(w:oX)(K:oO)(mg:oW->Option oQ)(base:pb)(CO CR CW CT CH:oP):Prop:=DMk P w K mg base (CXx P w) 5 CH ["self","order","rules"] (qe K CO CR CW CT CH)
theorem Kj{Q:oP->Hp->Prop}{CO CR CW CT CH o a:oP}{l:List Nat}(ho:OrdAt CO CR CW H o k l ns)(hG:OG l ns k)(hA:LsA K H a (ps.map dR))(hin:InL l ps)(hf:wU k l ns ps 0=sF)(q:∀(y qa:oP) (H':Hp),Same H H'->UP K CH H' y o qa ps->Q y H'):∀x dx,H x=sF->H dx=sF->dx≠x->qe K CO CR CW CT CH [.ref x,.ref o,.ref a] (upd (upd H dx (.own x)) x (.ins CH dx [])) (λv H'=>v=.non/\Q x H') E0:=by
 intro x dx hx hdx hne
 obtain⟨xs,hX,hI⟩:=hA
 have sd:=zf (o:=.own x) hdx
 have k1:Same H (upd (upd H dx (.own x)) x (.ins CH dx [])):=λb' o' e=>by
  rw[zo (zH e hx)]
  exact sd _ _ e
 refine⟨x,dx,o,a,k,l,ns,ps,xs,rfl,ze,ho.same k1,hG,k1 _ _ hX,Iss.same k1 _ _ hI,hin,(λi e=>by rw[hf] at e;cases e),λ_ q1 H'' kp hx' hq' hqn=>⟨rfl,?_⟩⟩
 have k3:Same H H'':=λb' o' e=>kp b' o' (λz=>by rw[z,hx] at e;cases e) (k1 _ _ e)
 exact q x q1 H'' k3 ⟨dx,xs,hx',hq',Iss.same k3 _ _ hI⟩
theorem BG.inL{l:List Nat}(h:BG k l ns bs):InL l (zd bs):=λp hp=>by
 obtain⟨e,he,rfl⟩:=List.mem_map.mp hp
 have b:=h.e e he
 exact⟨aR b.a (by decide),aR b.b (by decide),b.ma,b.mb⟩
theorem BG.fault{l:List Nat}(h:BG k l ns bs):wU k l ns (zd bs) 0=sF:=vY λm p e=>by
 obtain⟨e',he,rfl⟩:=List.mem_map.mp (ae e)
 exact h.lt e' he
def jM(K:oO)(CO CR CW CH:oP):Sp:=λvs H Q _=>∃(o a:oP) (k:Nat) (l:List Nat) (ns:List Int) (bs:List Ent),vs=[.ref o,.ref a]/\OrdAt CO CR CW H o k l ns/\OG l ns k/\EnsL K H a bs/\BG k l ns bs/\∀(y qa:oP) (H':Hp),Same H H'->UP K CH H' y o qa (zd bs)->Q (.ref y) H'
theorem Zh:zr ["order","entries"] ["order","entries"] (zb xb):=⟨rfl,rfl,rfl,by decide +kernel,rfl,by decide +kernel,by decide +kernel⟩
theorem Za{f CO CR CW CT CH:oP}(B:Bt mg)(TS:zah K mg CH)(MS:MkS P w K mg base CO CR CW CT CH)(F:Fun K "system_by" "system_by" xb f fd)(gn:Df P w K mg base CX0 1 "pairs_of" ["entries"] [] (wj K)):yg P w K mg base CX0 7 f fd ["order","entries"] (jM K CO CR CW CH):=by
 refine F.ok Zh (λvs H Q E h=>?_) (λcdv A outer s H vs Q E hr h=>?_)
 ·obtain⟨o,a,k,l,ns,bs,rfl,_⟩:=h
  rfl
 ·obtain⟨o,a,k,l,ns,bs,rfl,ho,hG,hA,hB,q⟩:=h
  refine⟨_,(zh (zv (zcQ xe0 MS hr rfl TS.g (za (pv 0) (za (cl0 gn hr .nil rfl (za (pv 1) zc)) zc))))),?_⟩
  have s16:=yk
  ac_rfl
  refine wJ hA.is (by have:=hB.n;lia) λD H' _ s' hL=>?_
  exact Kj (ho.same s') hG hL hB.inL hB.fault λy qa H'' s'' hy=>q y qa H'' (s'.trans s'') hy
noncomputable def fE(i:Nat)(p:zw):Ent:=(p.1,p.2,[((i:Int),(0:Int),sG)])
noncomputable def fEs(rs:List zw):Nat->List Ent
 | 0=>[]
 | n+1=>fEs rs n ++ ((rs[n]?).map (fE n)).toList
theorem US{n:Nat}{p:zw}(h:rs[n]? = sE p):fEs rs (n+1)=fEs rs n ++ [fE n p]:=by
 show fEs rs n ++ ((rs[n]?).map (fE n)).toList=_
 rw[h]
 rfl
theorem Vg(rs:List zw):∀n,(fEs rs n).length<=n
 | 0=>aq _
 | n+1=>by
  have:=Vg rs n
  show (fEs rs n ++ ((rs[n]?).map (fE n)).toList).length<=_
  rw[am]
  cases rs[n]? with
  | none=>simp;lia
  | some p=>simp;lia
theorem j5:∀{n:Nat} {e:Ent},e ∈ fEs rs n->∃i p,i<n/\rs[i]? = sE p/\e=fE i p
 | 0,e,h=>(nomatch h)
 | n+1,e,h=>by
  have h':e ∈ fEs rs n ++ ((rs[n]?).map (fE n)).toList:=h
  rcases List.mem_append.mp h' with h | h
  ·obtain⟨i,p,hi,hp,he⟩:=j5 h
   exact⟨i,p,by lia,hp,he⟩
  ·cases hn:rs[n]? with
   | none=>rw[hn] at h;simp at h
   | some p =>
    rw[hn] at h
    exact⟨n,p,by lia,hn,by simpa using h⟩
def jT(K:oO):Sp:=λvs H Q _=>∃(a:oP) (rs:List zw),vs=[.ref a]/\LsA K H a (rs.map dR)/\rs.length<=20/\∀(D:oP) (H':Hp),Same H H'->H D=sF->EnsM K H' D (fEs rs rs.length)->Q (.ref D) H'
theorem uH:zr ["pacts"] ["pacts"] (zb zY):=⟨rfl,rfl,rfl,by decide +kernel,rfl,by decide +kernel,by decide +kernel⟩
theorem uG(B:Bt mg)(F:Fun K "first_entries" "first_entries" zY f fd) : yg P w K mg base CX0 1 f fd ["pacts"] (jT K):=by
 refine F.ok uH (λvs H Q E h=>?_) (λcdv A outer s H vs Q E hr h=>?_)
 ·obtain⟨a,rs,rfl,_⟩:=h
  rfl
 ·obtain⟨a,rs,rfl,hA,hrl,q⟩:=h
  refine⟨_,(zh (zv (xh (g:=K5 K 2 (kN (xu 0) (kN (xu 1) K2))) (own:=["number","pact"]) (caps:=[]) (ix:=[]) (tt:=wx) (te:=(UN (zN (tOp (qI K) (yS 1) (tC (.int 0))) (zN (tOp (qI K) (yS 1) (tC (.int 1))) (zN (zbw (zN (UN (zN (yS 0) (zN (tC (.int 0)) (zN (tC (.bl sG)) ww)))) ww)) ww))))) rfl (zP (sc:=zb zY) rfl (by decide +kernel) (by decide +kernel) (by decide +kernel) rfl (by decide +kernel) (by decide +kernel) rfl) (wd rfl B.enum (za (pv 0) zc)) (λ_ _ _ _ _ _=>uA (n:=2) rfl (yd (zB (i:=0) (show List.Nodup [_,_] by decide) rfl (Or.inl rfl)) (yd (zB (i:=1) (show List.Nodup [_,_] by decide) rfl (Or.inl rfl)) wy))) (λ_ _ _ _ _ _=>yE) (λ_ _ _ _ _ _=>(yh (za (zx ix_tup (pv 1) zg (λ_ _=>rfl)) (za (zx ix_tup (pv 1) zg (λ_ _=>rfl)) (za (vg (za (yh (za (pv 0) (za zg (za yG zc)))) zc)) zc)))))))),?_⟩
  have s16:=yk
  have s16:=yk
  obtain⟨xs,hX,hI⟩:=id hA
  have hxl:=hI.len
  rw[af] at hxl
  ac_rfl
  rw[zaY]
  ac_rfl
  refine⟨⟨_,SqL.of hX⟩,λD hD=>CompEL.by (xs:=xs) (λi sK H'=>Same H H'/\H' D=sE (.lst sK)/\sK.length<=i/\EnsA K (jd D H') (fEs rs i) sK) ⟨zf hD,ze,aq _,rfl⟩ (λi sK H' _ h=>SqL.of (h.1 _ _ hX)) ?_ ?_⟩
  ·rintro i x sK H' p hx ⟨hs,hH,hal,hEn⟩ hp
   have hil:=(List.getElem?_eq_some_iff.mp hx).1
   obtain⟨r,pr,hri,rfl,hqr⟩:=hI.getR hx
   have u1:=zf (o:=HO.tup [.int (i:Nat),.ref pr]) hp
   have hq:=zm (hs.trans u1) hqr
   refine zbx (SqT.of ze) ?_
   simp only[wx]
   rfl'
   refine⟨Jf,_,hq,_,rfl,_,hq,_,rfl,by lia,λp1 hp1=>⟨by lia,λp2 hp2=>⟨by lia,λp3 hp3=>?_⟩⟩⟩
   have u2:=zf (o:=HO.tup [.int (i:Nat),.int 0,.bl sG]) hp1
   have u3:=zf (o:=HO.lst [.ref p1]) hp2
   have u4:=zf (o:=HO.tup [.str (tx r.1),.str (tx r.2),.ref p2]) hp3
   have u:=u1.trans (u2.trans (u3.trans u4))
   have hD4:=u _ _ hH
   have hp2D:p2≠D:=λz=>by rw[z,u2 _ _ (u1 _ _ hH)] at hp2;cases hp2
   refine⟨hD4,by lia,CNx.mk hil ⟨zG (hs.trans u) hD,ze,by rw[am];simp only[aM,cb];lia,?_⟩⟩
   rw[US hri]
   refine (hEn.same ((wH u).trans xJ)).snoc (EnA.same ?_ xJ)
   refine EnA.new (e:=fE i r) hD4 ze ⟨_,u4 _ _ ze,?_⟩ hp2D
   show Iss K _ [dSt ((i:Int),(0:Int),sG)] _
   exact JB (kT (SqT.of (u4 _ _ (u3 _ _ ze))))
  ·rintro sK H' ⟨hs,hH,hal,hEn⟩
   rw[hxl] at hEn
   exact q D H' hs hD ⟨sK,hH,hEn.same wI⟩
noncomputable def jy(es:List Ent):Bool:=decide (12<es.length) || es.any λe=>decide (10<max e.1.length e.2.1.length)
structure TMc(mg:oW->Option oQ):Prop where
 u:∃t,mg "MOST_USES_completing" = sE (.int 40 t)
 e:∃t,mg "MOST_ENTRIES" = sE (.int 12 t)
 d:∃t,mg "MOST_SIDE_completing" = sE (.int 10 t)
 p:∃t,mg "MOST_PEAKS" = sE (.int 8 t)
def ql(K:oO):Sp:=λvs H Q _=>∃(a:oP) (es:List Ent),vs=[.ref a]/\EnsL K H a es/\es.length<64/\(∀e ∈ es,e.1.length<=10000/\e.2.1.length<=10000)/\∀H',Same H H'->Q (.bl (jy es)) H'
theorem ZK:zr ["entries"] ["entries"] (zb yJ):=⟨rfl,rfl,rfl,by decide +kernel,rfl,by decide +kernel,by decide +kernel⟩
theorem ZH(B:Bt mg)(hany:zcz mg)(TM:TMc mg)(F:Fun K "is_beyond" "is_beyond" yJ f fd) : yg P w K mg base CX0 1 f fd ["entries"] (ql K):=by
 obtain⟨⟨t9,g9⟩,⟨t8,g8⟩⟩:=And.intro TM.e TM.d
 refine F.ok ZK (λvs H Q E h=>?_) (λcdv A outer s H vs Q E hr h=>?_)
 ·obtain⟨a,es,rfl,_⟩:=h
  rfl
 ·obtain⟨a,es,rfl,hA,hl,hE,q⟩:=h
  refine⟨_,(zi (zW (zI Xf (zt yc rfl B.len aA (za (pv 0) zc)) (xg (v:=.int 12) rfl g9 ⟨t9,rfl⟩) (zL _))
    (zh (zv yG))
    zC)
   (zh (zv (zt (zbl rfl) rfl hany eY (za (xh (own:=["entry"]) (caps:=[]) (ix:=[]) (tt:=wx) (te:=(tOp zbP (tCB KC (zN (tCB (KR K) (zN (tOp (qI K) (yS 0) (tC (.int 0))) ww)) (zN (tCB (KR K) (zN (tOp (qI K) (yS 0) (tC (.int 1))) ww)) ww))) (tC (.int 10)))) rfl (zP (sc:=zb yJ) rfl (by decide +kernel) (by decide +kernel) (by decide +kernel) rfl (by decide +kernel) (by decide +kernel) rfl) (yF (pv 0)) (λ_ _ _ _ _ _=>zB (i:=0) (show List.Nodup [_] by decide) rfl (Or.inl rfl)) (λ_ _ _ _ _ _=>yE) (λ_ _ _ _ _ _=>(vv Xf (zt (Wl rfl) rfl B.max uU (za (zt yc rfl B.len aA (za (zx ix_tup (pv 0) zg (λ_ _=>rfl)) zc)) (za (zt yc rfl B.len aA (za (zx ix_tup (pv 0) zg (λ_ _=>rfl)) zc)) zc))) (xg (v:=.int 10) rfl g8 ⟨t8,rfl⟩) (zL _)))) zc))))),?_⟩
  have s16:=yk
  have s16:=yk
  obtain⟨xs,hX,hEn⟩:=id hA
  have hxl:=hEn.len
  refine zj (λσ H'=>H'=H/\¬ 12<es.length/\σ=[sE (.ref a)]) ?_ ?_
  ·ac_rfl
   refine⟨_,.inl ⟨_,hX,rfl⟩,xp (λh=>?_) λh=>by lia⟩
   have e:jy es=sG:=by
    unfold jy
    rw[decide_eq_true (by lia),Bool.true_or]
   rw[<- e]
   exact q H (Same.refl _)
  rintro σ H1 ⟨rfl,h12,rfl⟩
  ac_rfl
  refine⟨⟨_,hX⟩,λD hD=>CompL.by (xs:=xs) (λi sK H'=>Same H1 H'/\H' D=sE (.lst sK)/\sK=((es.take i).map λe=>decide (10<max e.1.length e.2.1.length)).map V.bl) ⟨zf hD,ze,rfl⟩ (λi sK H' _ h=>h.1.seq hX) ?_ ?_⟩
  ·rintro i x sK H' hx ⟨hs,hH,rfl⟩
   have hil:=(List.getElem?_eq_some_iff.mp hx).1
   obtain⟨e,p,s,he,rfl,hp,_⟩:=hEn.get hx
   have hq:=zm hs hp
   have hb:=hE e (ae he)
   simp only[wx]
   rfl'
   refine⟨xl,_,hq,_,rfl,_,⟨by rw[zR];lia,rfl⟩,_,hq,_,rfl,_,⟨by rw[zR];lia,rfl⟩,hH,by rw[af,af,aK];lia,CNx.mk hil ⟨zG hs hD,ze,?_⟩⟩
   rw[zU he,aE,aE,zR,zR]
   congr 1
   show [V.bl _]=[V.bl _]
   congr 2
   refine decide_eq_decide.mpr ?_
   split <;> lia
  ·rintro sK H' ⟨hs,hH,rfl⟩
   rw[hxl,aQ] at hH
   refine⟨D,_,rfl,SqL.of hH,?_⟩
   have e:(es.map λe=>decide (10<max e.1.length e.2.1.length)).any id=jy es:=by
    unfold jy
    rw[decide_eq_false h12,Bool.false_or,List.any_map]
    rfl
   rw[e]
   exact q H' hs
theorem j7(h:jy es=sH):es.length<=12/\∀e ∈ es,e.1.length<=10/\e.2.1.length<=10:=by
 unfold jy at h
 rw[Bool.or_eq_false_iff] at h
 refine⟨by have:=of_decide_eq_false h.1;lia,λe he=>?_⟩
 have:=List.any_eq_false.mp h.2 e he
 have h2:¬ 10<max e.1.length e.2.1.length:=λz=>this (decide_eq_true z)
 lia
def VQ(K:oO)(CO CR CW T:oP):Sp:=λvs H Q _=>∃(o a:oP) (k:Nat) (l:List Nat) (ns:List Int) (es:List Ent),vs=[.ref o,.ref a]/\OrdAt CO CR CW H o k l ns/\OG l ns k/\EnsL K H a es/\es.length<64/\(∀e ∈ es,EB l e)/\TabOk H T lp lq /\
 (∀(bs:List Ent) (D:oP) (H':Hp),ug k l ns 20 es (sE bs)->BG k l ns bs->jy bs=sH->SamT T H H'->TabOk H' T lp lq->EnsM K H' D bs->Q (.ref D) H')/\((ug k l ns 20 es sF\/∃bs,ug k l ns 20 es (sE bs)/\jy bs=sG)->∀H',SamT T H H'->TabOk H' T lp lq->Q .non H')
structure zcA(K:oO)(CF:oP):Prop where
 s:cI K (.ref CF) (.ref CF)=sE sG
theorem lg:zr ["order","entries","slim"] ["order","entries"] (zb z6):=⟨rfl,rfl,rfl,by decide +kernel,rfl,by decide +kernel,by decide +kernel⟩
theorem vS{f CO CR CW TB CF:oP}(B:Bt mg)(TFx:K4 K mg CF)(TSb:zcA K CF)(F:Fun K "thinned_within" "thinned_within" z6 f fd)(oh:Df P w K mg base (CXx P w) 7 "thinned" ["order","entries"] [] (Yo K CO CR CW TB CF))(nV:Df P w K mg base CX0 1 "is_beyond" ["entries"] [] (ql K)):yg P w K mg base CX0 8 f fd ["order","entries"] (VQ K CO CR CW TB):=by
 refine F.ok lg (λvs H Q E h=>?_) (λcdv A outer s H vs Q E hr h=>?_)
 ·obtain⟨o,a,k,l,ns,es,rfl,_⟩:=h
  rfl
 ·obtain⟨o,a,k,l,ns,es,rfl,ho,hG,hA,hz,hE,hTab,q1,q2⟩:=h
  refine⟨_,(zi (Qx (i:=2) (th:=(zbu (tC .non))) lg.nd rfl (Or.inl rfl) (.inl rfl) ⟨rfl,rfl⟩ (clX oh hr .nil rfl (za (pv 0) (za (pv 1) zc))) rfl TFx.g TFx.xi.ok (λe=>(zh (zv wK))))
   (zh (zv (kP (xn (cl0 nV hr .nil rfl (za (pv 2) zc)) (λ_=>rfl)) wK (pv 2))))),?_⟩
  have s16:=yk
  have s16:=yk
  refine zj (λσ H'=>SamT TB H H'/\TabOk H' TB lp lq/\∃(bs:List Ent) (D:oP),ug k l ns 20 es (sE bs)/\BG k l ns bs/\EnsM K H' D bs/\σ=[sE (.ref o),sE (.ref a),sE (.ref D)]) ?_ ?_
  ·simp only[Je]
   ac_rfl
   exact⟨o,a,k,l,ns,es,rfl,ho,hG,hA,hz,hE,hTab,λbs D H' h1 h2 h3 h4 h5=>⟨h3,h4,bs,h1,h2,D,h5,rfl⟩,λh H' h3 h4=>⟨CF,rfl,TSb.s,λx hx=>q2 (.inl h) _ (h3.trans (SamT.of (zf hx))) (h4.same (zf hx))⟩⟩
  rintro σ H1 ⟨s1,hT1,bs,D,hTh,hB,hM,rfl⟩
  ac_rfl
  exact⟨D,bs,rfl,hM.l,hB.n,λe he=>⟨aR (hB.e e he).a (by decide),aR (hB.e e he).b (by decide)⟩,λH' s'=>⟨_,rfl,xp (λh=>q2 (.inr ⟨bs,hTh,h⟩) H' (s1.trans (SamT.of s')) (hT1.same s')) λh=>q1 bs D H' hTh hB (by simpa using h) (s1.trans (SamT.of s')) (hT1.same s') (hM.same s')⟩⟩
theorem uM(w:List Nat)(k:Int)(o n:List Nat):(yV w k o n).length<=w.length+n.length:=by
 unfold yV
 rw[am,am,aK,ba]
 lia
theorem BG.ok{l:List Nat}(h:BG k l ns bs)(hl:bs.length<=30):jz (zd bs):=by
 refine⟨by unfold zd;rw[af];exact hl,λr hr=>?_⟩
 obtain⟨e,he,rfl⟩:=List.mem_map.mp hr
 exact⟨aR (h.e e he).a (by decide),aR (h.e e he).b (by decide)⟩
theorem zaS(hok:∀r ∈ ps,r.1.length<=60/\r.2.length<=60){t:N3}(ht:t ∈ ovA ps ps.length):(pkA ps t).length<=180/\(pkB ps t).length<=180:=by
 obtain⟨i1,i2,i3,i4⟩:=vX ht
 obtain⟨r,hr⟩:∃r,ps[t.1]? = sE r:=⟨_,ak i1⟩
 obtain⟨r2,hr2⟩:∃r,ps[t.2.1]? = sE r:=⟨_,ak i2⟩
 have l1:=wv hr
 have l2:=wv hr2
 have d1:ps.getD t.1 ([],[])=r:=by rw[ac,hr];rfl
 have d2:ps.getD t.2.1 ([],[])=r2:=by rw[ac,hr2];rfl
 rw[l1] at i3
 have b1:=hok r (ae hr)
 have b2:=hok r2 (ae hr2)
 have hp:=wL r.1 r2.1 t.2.2 (by lia)
 have p1:=uM (yb r.1 r2.1 t.2.2) 0 r.1 r.2
 have p2:=uM (yb r.1 r2.1 t.2.2) (t.2.2:Nat) r2.1 r2.2
 unfold pkA pkB
 rw[l1,l2,d1,d2]
 lia
theorem zat(hN:NeL ps)(hok:∀r ∈ ps,r.1.length<=60/\r.2.length<=60):zcL ps 40:=by
 refine⟨by decide,λt ht=>?_⟩
 obtain⟨h1,h2⟩:=zaS hok ht
 have key:∀(v:List Nat),v.length<=180->∀j,j<=40->(wAt ps v j).length<=10000:=λv hv j hj=>by
  have:=qh (l:=v) hN (λp hp=>(hok p hp).2) j
  have h3:j * 60<=40 * 60:=Nat.mul_le_mul hj (aq _)
  lia
 exact⟨key _ h1,key _ h2⟩
def Ue(K:oO)(CO CR CW:oP):Sp:=λvs H Q _=>∃(o a:oP) (k:Nat) (l:List Nat) (ns:List Int) (bs:List Ent),vs=[.ref o,.ref a]/\OrdAt CO CR CW H o k l ns/\OG l ns k/\EnsL K H a bs/\BG k l ns bs/\bs.length<=30/\(ovA (zd bs) (zd bs).length).length<=4000 /\
 ((∀t ∈ ovA (zd bs) (zd bs).length,OkG (zd bs) 40 t)->∀D H',Same H H'->LsA K H' D ((unG (zd bs) 40).map d3)->Q (.ref D) H')/\(∀t ∈ ovA (zd bs) (zd bs).length,¬ OkG (zd bs) 40 t->∀H',Same H H'->Q .non H')
theorem qo:zr ["order","entries"] ["order","entries"] (zb yt):=⟨rfl,rfl,rfl,by decide +kernel,rfl,by decide +kernel,by decide +kernel⟩
theorem qX{f CO CR CW CF CH:oP}{lY:rB}(B:Bt mg)(TFx:K4 K mg CF)(TSb:zcA K CF)(TM:TMc mg)(F:Fun K "unmet_within" "unmet_within" yt f fd)(oy:Df P w K mg base (CXx P w) 7 "unmet" ["system","most"] [] (vP K CH CF))(DD_unmet:Df P w K mg base (CXx P w) 7 "unmet" ["system","most"] [.int 4000 lY] (vP K CH CF))(nW:Df P w K mg base CX0 7 "system_by" ["order","entries"] [] (jM K CO CR CW CH)):yg P w K mg base CX0 9 f fd ["order","entries"] (Ue K CO CR CW):=by
 obtain⟨t9,g9⟩:=TM.u
 refine F.ok qo (λvs H Q E h=>?_) (λcdv A outer s H vs Q E hr h=>?_)
 ·obtain⟨o,a,k,l,ns,bs,rfl,_⟩:=h
  rfl
 ·obtain⟨o,a,k,l,ns,bs,rfl,ho,hG,hA,hB,hbl,hol,q1,q2⟩:=h
  refine⟨_,(zh (UM (th:=(zbu (tC .non))) ⟨rfl,rfl⟩ (clX oy hr .nil rfl (za (cl0 nW hr .nil rfl (za (pv 0) (za (pv 1) zc))) (za (xg (v:=.int 40) rfl g9 ⟨t9,rfl⟩) zc))) rfl TFx.g TFx.xi.ok (λe=>(zh (zv wK))))),?_⟩
  have s16:=yk
  have s16:=yk
  simp only[Q8]
  ac_rfl
  have hsd:∀r ∈ zd bs,r.1.length<=60/\r.2.length<=60:=λr hr=>by
   obtain⟨e,he,rfl⟩:=List.mem_map.mp hr
   exact⟨(hB.e e he).a,(hB.e e he).b⟩
  exact⟨o,a,k,l,ns,bs,rfl,ho,hG,hA,hB,λy qa H' s' hy=>⟨y,o,qa,zd bs,40,rfl,hy,hB.ne hG,hB.ok hbl,hol,zat (hB.ne hG) hsd,λh D H'' s'' _ hL=>q1 h D H'' (s'.trans s'') hL,λt ht h H'' s''=>⟨CF,rfl,TSb.s,λx hx=>q2 t ht h _ (s'.trans (s''.trans (zf hx)))⟩⟩⟩
noncomputable def ji(es:List Ent)(t:N3):Ent:=(pkA (zd es) t,pkB (zd es) t,byL es [((t.1:Int),(0:Int),sH),((t.2.1:Int),(t.2.2:Int),sG)])
def uW(K:oO):Sp:=λvs H Q _=>∃(a t:oP) (es:List Ent) (tr:N3),vs=[.ref a,.ref t]/\EnsL K H a es/\SqT K H t [.int (tr.1:Nat),.int (tr.2.1:Nat),.int (tr.2.2:Nat)]/\tr ∈ ovA (zd es) (zd es).length/\jz (zd es)/\(∀e ∈ es,e.2.2.length<=600)/\∀(p s:oP) (H':Hp),Same H H'->H' p=sE (.tup [.str (tx (ji es tr).1),.str (tx (ji es tr).2.1),.ref s])->LsA K H' s ((ji es tr).2.2.map dSt)->H s=sF->Q (.ref p) H'
theorem lP:zr ["entries","overlap","sides","steps"] ["entries","overlap"] (zb xA):=⟨rfl,rfl,rfl,by decide +kernel,rfl,by decide +kernel,by decide +kernel⟩
theorem Yw(B:Bt mg)(F:Fun K "entry_of" "entry_of" xA f fd)(nO:Df P w K mg base CX0 4 "peak" ["rules","overlap"] [] (qJ K))(ln:Df P w K mg base CX0 2 "by_pacts" ["entries","steps"] [] (VS K))(gn:Df P w K mg base CX0 1 "pairs_of" ["entries"] [] (wj K)):yg P w K mg base CX0 5 f fd ["entries","overlap"] (uW K):=by
 refine F.ok lP (λvs H Q E h=>?_) (λcdv A outer s H vs Q E hr h=>?_)
 ·obtain⟨a,t,es,tr,rfl,_⟩:=h
  rfl
 ·obtain⟨a,t,es,tr,rfl,hA,ht,htr,hok,hst,q⟩:=h
  refine⟨_,(zi (zq (i:=2) lP.nd rfl (Or.inl rfl) (cl0 nO hr .nil rfl (za (cl0 gn hr .nil rfl (za (pv 0) zc)) (za (pv 1) zc))))
   (zi (zq (i:=3) lP.nd rfl (Or.inl rfl) (cl0 ln hr .nil rfl (za (pv 0) (za (vg (za (yh (za (zx ix_tup (pv 1) zg (λ_ _=>rfl)) (za zg (za yG zc)))) (za (yh (za (zx ix_tup (pv 1) zg (λ_ _=>rfl)) (za (zx ix_tup (pv 1) zg (λ_ _=>rfl)) (za yG zc)))) zc))) zc))))
   (zh (zv (yh (za (zx ix_tup (pv 2) zg (λ_ _=>rfl)) (za (zx ix_tup (pv 2) zg (λ_ _=>rfl)) (za (pv 3) zc)))))))),?_⟩
  have s16:=yk
  have s16:=yk
  have hlp:(zd es).length=es.length:=by unfold zd;rw[af]
  obtain⟨i1,i2,i3,i4⟩:=vX htr
  obtain⟨r,hr1⟩:∃r,(zd es)[tr.1]? = sE r:=⟨_,ak i1⟩
  obtain⟨r2,hr2⟩:∃r,(zd es)[tr.2.1]? = sE r:=⟨_,ak i2⟩
  have l1:=wv hr1
  have l2:=wv hr2
  have d1:(zd es).getD tr.1 ([],[])=r:=by rw[ac,hr1];rfl
  have d2:(zd es).getD tr.2.1 ([],[])=r2:=by rw[ac,hr2];rfl
  have eA:pkA (zd es) tr=yV (yb r.1 r2.1 tr.2.2) 0 r.1 r.2:=by unfold pkA;rw[l1,l2,d1]
  have eB:pkB (zd es) tr=yV (yb r.1 r2.1 tr.2.2) (tr.2.2:Nat) r2.1 r2.2:=by unfold pkB;rw[l1,l2,d2]
  rw[l1] at i3
  rw[l1,l2] at i4
  refine zj (λσ H'=>Same H H'/\∃p:oP,(∃x,H' p=sE (.tup [x,.str (tx (pkA (zd es) tr)),.str (tx (pkB (zd es) tr))]))/\σ=[sE (.ref a),sE (.ref t),sE (.ref p),sF]) ?_ ?_
  ·rfl'
   refine wJ hA.is (by have:=hok.1;lia) λD H1 _ s1 hL=>?_
   exact YK hL.is (zm s1 ht) hok hr1 hr2 (by lia) i4 λp H' _ s' hp=>⟨s1.trans s',p,⟨_,by rw[eA,eB];exact hp⟩,rfl⟩
  rintro σ H1 ⟨s1,p,⟨x,hp⟩,rfl⟩
  refine zj (λσ H'=>Same H1 H'/\∃S:oP,H S=sF/\LsA K H' S ((ji es tr).2.2.map dSt)/\σ=[sE (.ref a),sE (.ref t),sE (.ref p),sE (.ref S)]) ?_ ?_
  ·have ht1:=zm s1 ht
   rfl'
   refine⟨_,ht1,_,rfl,by lia,λp1 hp1=>?_⟩
   have u1:=zf (o:=HO.tup [.int (tr.1:Nat),.int 0,.bl sH]) hp1
   refine⟨_,zm u1 ht1,_,rfl,_,zm u1 ht1,_,rfl,by lia,λp2 hp2=>⟨by lia,λp3 hp3=>?_⟩⟩
   have u2:=zf (o:=HO.tup [.int (tr.2.1:Nat),.int (tr.2.2:Nat),.bl sG]) hp2
   have u3:=zf (o:=HO.lst [.ref p1,.ref p2]) hp3
   have u:=u1.trans (u2.trans u3)
   refine Vp (us:=[((tr.1:Int),(0:Int),sH),((tr.2.1:Int),(tr.2.2:Int),sG)]) (hA.same (s1.trans u)).is (LsA.is ⟨_,ze,?_⟩) (by simp) hst (λv hv=>?_) λD H' hDn s' hL=>⟨u.trans s',D,(s1.trans u).free hDn,hL,rfl⟩
   ·simp only[az,aP,Iss]
    exact⟨_,_,rfl,kT (SqT.of (u3 _ _ (u2 _ _ ze))),_,_,rfl,kT (SqT.of (u3 _ _ ze)),rfl⟩
   ·simp only[dw,eC,or_false] at hv
    rcases hv with rfl | rfl
    ·exact⟨by simp,by show (tr.1:Int)<_;lia⟩
    ·exact⟨by simp,by show (tr.2.1:Int)<_;lia⟩
  rintro σ H2 ⟨s2,S,hSn,hS,rfl⟩
  rfl'
  exact⟨_,SqT.of (s2 _ _ hp),_,rfl,_,SqT.of (s2 _ _ hp),_,rfl,by lia,λp' hp'=>q p' S _ (s1.trans (s2.trans (zf hp'))) ze (hS.same (zf hp')) hSn⟩
theorem QG{l:List Nat}(h:¬ ja e):¬ ja (yx k l ns e):=by
 unfold yx
 split
 ·exact h
 ·unfold ja at h ⊢
  rw[xM]
  show ¬ (240<e.2.2.length\/60<e.2.1.length\/60<e.1.length)
  lia
theorem XO{l:List Nat}{bs es:List Ent}{r:Option (List Ent)}(h:xF k l ns bs es r):(∀e ∈ bs,¬ ja e)->∀fs,r=sE fs->∀e ∈ fs,¬ ja e:=by
 induction h with
 | nil bs=>exact λh fs e=>by cases e;exact h
 | same _ _ _ _ ih=>exact ih
 | new _ _ _ h4 _ ih =>
  intro h
  refine ih λe he=>?_
  rcases List.mem_append.mp he with he | he
  ·exact h e he
  ·rw[List.mem_singleton.mp he]
   exact QG h4
 | far _ _ _ _=>exact λ_ fs e=>by cases e
 | stuck _=>exact λ_ fs e=>by cases e
theorem qu{k n:Nat}{l:List Nat}{r:Option (List Ent)}(h:ug k l ns n es r):∀fs,r=sE fs->∀e ∈ fs,¬ ja e:=by
 induction h with
 | out es=>exact λfs e=>by cases e
 | bad _ _=>exact λfs e=>by cases e
 | done _ h2 _=>exact λfs e=>by cases e;exact XO h2 (λe he=>(nomatch he)) _ rfl
 | more _ _ _ _ ih=>exact ih
theorem VH{M:Nat}(h:∀e ∈ es,e.2.2.length<=M)(u:Stp):(XJ es u).length<=M:=by
 have hg:(es.getD u.1.toNat ([],[],[])).2.2.length<=M:=by
  rw[ac]
  cases e:es[u.1.toNat]? with
  | none=>exact aJ _
  | some x=>exact h x (ae e)
 unfold XJ
 rw[Xq]
 split
 ·exact hg
 ·rw[xM]
  exact hg
inductive Cpl(k:Nat)(l:List Nat)(ns:List Int):Nat->List Ent->List Ent->Bool->List Ent->Prop where
 | out (kept fresh:List Ent):Cpl k l ns 0 kept fresh sH kept
 | slim {n:Nat} {kept fresh:List Ent} (h:ug k l ns 20 fresh sF\/∃bs,ug k l ns 20 fresh (sE bs)/\jy bs=sG):Cpl k l ns (n+1) kept fresh sH kept
 | far {n:Nat} {kept fresh bs:List Ent} {t:N3} (h:ug k l ns 20 fresh (sE bs)) (hb:jy bs=sH) (ht:t ∈ ovA (zd bs) (zd bs).length) (ho:¬ OkG (zd bs) 40 t):Cpl k l ns (n+1) kept fresh sH bs
 | whole {n:Nat} {kept fresh bs:List Ent} (h:ug k l ns 20 fresh (sE bs)) (hb:jy bs=sH) (ho:∀t ∈ ovA (zd bs) (zd bs).length,OkG (zd bs) 40 t) (hu:unG (zd bs) 40=[]):Cpl k l ns (n+1) kept fresh sG bs
 | more {n:Nat} {kept fresh bs es:List Ent} {w:Bool} (h:ug k l ns 20 fresh (sE bs)) (hb:jy bs=sH) (ho:∀t ∈ ovA (zd bs) (zd bs).length,OkG (zd bs) 40 t) (hu:unG (zd bs) 40≠[]) (r:Cpl k l ns n bs (bs ++ ((unG (zd bs) 40).take 8).map (ji bs)) w es):Cpl k l ns (n+1) kept fresh w es
theorem zaT(hl:ps.length<=12)(h:∀r ∈ ps,r.1.length<=10):(ovA ps ps.length).length<=4000:=by
 have lfl:∀i,(lf ps i).length<=10:=λi=>by
  cases e:ps[i]? with
  | none=>unfold lf;rw[ac,e];exact aJ _
  | some r=>rw[wv e];exact h r (ae e)
 have oI:∀i m,(ovI ps i m).length<=m * 10:=λi m=>by
  induction m with
  | zero=>exact aJ _
  | succ m ih =>
   rw[uO,am]
   have h1:=uN ps i m (lf ps i).length
   have h2:=lfl i
   lia
 have oA:∀m,(ovA ps m).length<=m * 120:=λm=>by
  induction m with
  | zero=>exact aJ _
  | succ m ih =>
   rw[jL,am]
   have h1:=oI m ps.length
   lia
 have:=oA ps.length
 lia
theorem zcj{l:List Nat}(hin:∀r ∈ ps,(∀c ∈ r.1,c ∈ l)/\∀c ∈ r.2,c ∈ l)(h10:∀r ∈ ps,r.1.length<=10/\r.2.length<=10){t:N3}(ht:t ∈ ovA ps ps.length):((pkA ps t).length<=60/\∀c ∈ pkA ps t,c ∈ l)/\(pkB ps t).length<=60/\∀c ∈ pkB ps t,c ∈ l:=by
 obtain⟨i1,i2,i3,i4⟩:=vX ht
 obtain⟨r,hr⟩:∃r,ps[t.1]? = sE r:=⟨_,ak i1⟩
 obtain⟨r2,hr2⟩:∃r,ps[t.2.1]? = sE r:=⟨_,ak i2⟩
 have l1:=wv hr
 have l2:=wv hr2
 have d1:ps.getD t.1 ([],[])=r:=by rw[ac,hr];rfl
 have d2:ps.getD t.2.1 ([],[])=r2:=by rw[ac,hr2];rfl
 rw[l1] at i3
 have b1:=h10 r (ae hr)
 have b2:=h10 r2 (ae hr2)
 have n1:=hin r (ae hr)
 have n2:=hin r2 (ae hr2)
 have hp:=wL r.1 r2.1 t.2.2 (by lia)
 have p1:=uM (yb r.1 r2.1 t.2.2) 0 r.1 r.2
 have p2:=uM (yb r.1 r2.1 t.2.2) (t.2.2:Nat) r2.1 r2.2
 have hw:∀c ∈ yb r.1 r2.1 t.2.2,c ∈ l:=λc hc=>by
  unfold yb at hc
  rcases List.mem_append.mp hc with h | h
  ·exact n1.1 c h
  ·exact n2.1 c (cj h)
 have put:∀(k:Int) (o n:List Nat),(∀c ∈ n,c ∈ l)->∀c ∈ yV (yb r.1 r2.1 t.2.2) k o n,c ∈ l:=λk o n hn c hc=>by
  unfold yV at hc
  rcases List.mem_append.mp hc with hc | hc
  ·rcases List.mem_append.mp hc with hc | hc
   ·exact hw c (br hc)
   ·exact hn c hc
  ·exact hw c (cj hc)
 unfold pkA pkB
 rw[l1,l2,d1,d2]
 exact⟨⟨by lia,put _ _ _ n1.2⟩,by lia,put _ _ _ n2.2⟩
theorem VD{l:List Nat}(hB:BG k l ns bs)(hb:jy bs=sH)(hs:∀e ∈ bs,e.2.2.length<=240){t:N3}(ht:t ∈ ovA (zd bs) (zd bs).length):EB l (ji bs t):=by
 obtain⟨b1,b2⟩:=j7 hb
 obtain⟨h1,h2⟩:=zcj (l:=l) (ps:=zd bs) (λr hr=>by
  obtain⟨e,he,rfl⟩:=List.mem_map.mp hr
  exact⟨(hB.e e he).ma,(hB.e e he).mb⟩) (λr hr=>by
  obtain⟨e,he,rfl⟩:=List.mem_map.mp hr
  exact b2 e he) ht
 refine⟨h1.1,h2.1,?_,h1.2,h2.2⟩
 show (byL bs [((t.1:Int),(0:Int),sH),((t.2.1:Int),(t.2.2:Int),sG)]).length<=600
 unfold byL
 rw[List.flatMap_cons,List.flatMap_cons,List.flatMap_nil,aV,am]
 have o1:=VH hs ((t.1:Int),(0:Int),sH)
 have o2:=VH hs ((t.2.1:Int),(t.2.2:Int),sG)
 lia
theorem EnsM.samT{T:oP}{H H':Hp}{ps:Array oQ}(h:EnsM K H a es)(s:SamT T H H')(hT:H T=sE (.tbl ps)):EnsM K H' a es:=by
 obtain⟨xs,h1,h2⟩:=h
 exact⟨xs,s.at hT h1 (λ_ z=>by cases z),EnsA.samT s hT h2⟩
def zb8(K:oO)(T:oP)(H:Hp)(k:Nat)(l:List Nat)(ns:List Int)(rs:List zw)(m n:Nat)(H':Hp)(Dk Df:oP):Prop:=∃kept fresh:List Ent,SamT T H H'/\TabOk H' T lp lq/\EnsM K H' Dk kept/\EnsL K H' Df fresh/\fresh.length<64/\(∀e ∈ fresh,EB l e)/\BG k l ns kept/\∀w es,Cpl k l ns n kept fresh w es->Cpl k l ns m [] (fEs rs rs.length) w es
def V9(K:oO)(CO CR CW T:oP):Sp:=λvs H Q _=>∃(o a:oP) (k:Nat) (l:List Nat) (ns:List Int) (rs:List zw) (m:Nat),vs=[.ref o,.ref a,.int (m:Nat)]/\OrdAt CO CR CW H o k l ns/\OG l ns k/\LsA K H a (rs.map dR)/\rs.length<=20/\InL l rs/\(∀r ∈ rs,r.1.length<=60/\r.2.length<=60)/\m<=1000/\TabOk H T lp lq/\∀(w:Bool) (es:List Ent) (p D:oP) (H':Hp),Cpl k l ns (m+1) [] (fEs rs rs.length) w es->BG k l ns es->SamT T H H'->TabOk H' T lp lq->H' p=sE (.tup [.bl w,.ref D])->EnsM K H' D es->Q (.ref p) H'
theorem fS:zr ["order","pacts","rounds","kept","fresh","turn","slim","lacking"] ["order","pacts","rounds"] (zb yK):=⟨rfl,rfl,rfl,by decide +kernel,rfl,by decide +kernel,by decide +kernel⟩
theorem ZO{f CO CR CW TB:oP}(B:Bt mg)(TM:TMc mg)(F:Fun K "completed" "completed" yK f fd)(nk:Df P w K mg base CX0 1 "first_entries" ["pacts"] [] (jT K))(mS:Df P w K mg base CX0 8 "thinned_within" ["order","entries"] [] (VQ K CO CR CW TB))(nz:Df P w K mg base CX0 9 "unmet_within" ["order","entries"] [] (Ue K CO CR CW))(og:Df P w K mg base CX0 5 "entry_of" ["entries","overlap"] [] (uW K)):yg P w K mg base CX0 10 f fd ["order","pacts","rounds"] (V9 K CO CR CW TB):=by
 obtain⟨t9,g9⟩:=TM.p
 refine F.ok fS (λvs H Q E h=>?_) (λcdv A outer s H vs Q E hr h=>?_)
 ·obtain⟨o,a,k,l,ns,rs,m,rfl,_⟩:=h
  rfl
 ·obtain⟨o,a,k,l,ns,rs,m,rfl,ho,hG,hA,hrl,hin,h60,hm,hTab,q⟩:=h
  refine⟨_,(zi (zq (i:=3) fS.nd rfl (Or.inr rfl) (vg zc))
   (zi (zq (i:=4) fS.nd rfl (Or.inl rfl) (cl0 nk hr .nil rfl (za (pv 1) zc)))
   (zi (yA PassesOwn.never rfl (xo rfl B.range (za (zE op_add (pv 2) zg) zc)) (zB (i:=5) fS.nd rfl (Or.inl rfl))
    (zi (zq (i:=6) fS.nd rfl (Or.inl rfl) (cl0 mS hr .nil rfl (za (pv 0) (za (pv 4) zc))))
    (zi (zW (zI op_isN' (pv 6) wK (zL _))
     (zh (zv (yh (za yG (za (pv 3) zc)))))
     zC)
    (zi (zq (i:=3) fS.nd rfl (Or.inr rfl) (pv 6))
    (zi (zq (i:=7) fS.nd rfl (Or.inl rfl) (cl0 nz hr .nil rfl (za (pv 0) (za (pv 3) zc))))
    (zi (zW (zI op_isN' (pv 7) wK (zL _))
     (zh (zv (yh (za yG (za (pv 3) zc)))))
     zC)
    (zi (zW (zI uL (zt yc rfl B.len aA (za (pv 7) zc)) zg (zL _))
     (zh (zv (yh (za yG (za (pv 3) zc)))))
     zC)
    (zh (zq (i:=4) fS.nd rfl (Or.inl rfl) (zE qL (pv 3) (xh (own:=["overlap"]) (caps:=["kept"]) (ix:=[3]) (tt:=wx) (te:=(qi (uW K) [] E0 (zN (yS 1) (zN (yS 0) ww)))) rfl (zP (sc:=zb yK) rfl (by decide +kernel) (by decide +kernel) (by decide +kernel) rfl (by decide +kernel) (by decide +kernel) rfl) (yF (yl sl_list (pv 7) xE (yj (xg (v:=.int 8) rfl g9 ⟨t9,rfl⟩)))) (λ_ _ _ _ _ _=>zB (i:=0) (show List.Nodup [_,_] by decide) rfl (Or.inl rfl)) (λ_ _ _ _ _ _=>yE) (λ_ _ _ _ _ _=>(cl0 og hr .nil rfl (za (pv 1) (za (pv 0) zc)))))))))))))))
   (zh (zv (yh (za yG (za (pv 3) zc)))))))),?_⟩
  have s16:=yk
  have s16:=yk
  have hTt:=hTab
  obtain⟨tp,htp,_⟩:=hTt
  refine zj (λσ H'=>Same H H'/\∃Dk:oP,H' Dk=sE (.lst [])/\σ=[sE (.ref o),sE (.ref a),sE (.int (m:Nat)),sE (.ref Dk),sF,sF,sF,sF]) ?_ ?_
  ·ac_rfl
   exact⟨by lia,λp hp=>⟨zf hp,ze⟩⟩
  rintro σ H1 ⟨s1,Dk0,hDk0,rfl⟩
  have hE0:∀e ∈ fEs rs rs.length,EB l e:=λe he=>by
   obtain⟨i,p,hi,hp,rfl⟩:=j5 he
   have h1:=h60 p (ae hp)
   have h2:=hin p (ae hp)
   exact⟨h1.1,h1.2,by show ([((i:Int),(0:Int),sG)]:List Stp).length<=600;simp,h2.2.2.1,h2.2.2.2⟩
  refine zj (λσ H'=>∃Df:oP,zb8 K TB H k l ns rs (m+1) (m+1) H' Dk0 Df/\σ=[sE (.ref o),sE (.ref a),sE (.int (m:Nat)),sE (.ref Dk0),sE (.ref Df),sF,sF,sF]) ?_ ?_
  ·ac_rfl
   exact⟨a,rs,rfl,hA.same s1,hrl,λDf H' s' _ hM=>⟨Df,⟨[],fEs rs rs.length,SamT.of (s1.trans s'),hTab.same (s1.trans s'),⟨[],s' _ _ hDk0,rfl⟩,hM.l,by have:=Vg rs rs.length;lia,hE0,⟨by simp,λe he=>(nomatch he),λe he=>(nomatch he)⟩,λw es h=>h⟩,rfl⟩⟩
  rintro σ H2 ⟨Df0,hC0,rfl⟩
  refine zj (λσ H'=>∃(Dk Df:oP) (v5 v6 v7:Option V),zb8 K TB H k l ns rs (m+1) 0 H' Dk Df/\σ=[sE (.ref o),sE (.ref a),sE (.int (m:Nat)),sE (.ref Dk),sE (.ref Df),v5,v6,v7]) ?_ ?_
  ·ac_rfl
   refine⟨by lia,by lia,ForR.by (λi σ H'=>∃(Dk Df:oP) (v5 v6 v7:Option V),zb8 K TB H k l ns rs (m+1) (m+1 - i) H' Dk Df/\σ=[sE (.ref o),sE (.ref a),sE (.int (m:Nat)),sE (.ref Dk),sE (.ref Df),v5,v6,v7]) ⟨Dk0,Df0,sF,sF,sF,hC0,rfl⟩ ?_ ?_⟩
   ·rintro i σ H' hi ⟨Dk,Df,v5,v6,v7,⟨kept,fresh,sT,hT,hK,hF,hfl,hfE,hB,hcp⟩,rfl⟩
    have hi':i<m+1:=by lia
    have en:m+1 - i=(m+1 - (i+1))+1:=by lia
    rw[en] at hcp
    have hTt:=hT
    obtain⟨tq,htq,_⟩:=hTt
    have ho':=ho.samT sT htp
    simp only[xu,bg,bf]
    refine zj (λσ' G=>SamT TB H' G/\TabOk G TB lp lq/\(((ug k l ns 20 fresh sF\/∃bs,ug k l ns 20 fresh (sE bs)/\jy bs=sG)/\σ'=[sE (.ref o),sE (.ref a),sE (.int (m:Nat)),sE (.ref Dk),sE (.ref Df),sE (.int (0+(i:Int))),sE (.non),v7])\/∃(bs:List Ent) (D:oP),ug k l ns 20 fresh (sE bs)/\BG k l ns bs/\jy bs=sH/\EnsM K G D bs/\σ'=[sE (.ref o),sE (.ref a),sE (.int (m:Nat)),sE (.ref Dk),sE (.ref Df),sE (.int (0+(i:Int))),sE (.ref D),v7])) ?_ ?_
    ·ac_rfl
     exact⟨o,Df,k,l,ns,fresh,rfl,ho',hG,hF,hfl,hfE,hT,λbs D G h1 h2 h3 h4 h5 h6=>⟨h4,h5,.inr ⟨bs,h1,h2,h3,D,h6,rfl⟩⟩,λh G h4 h5=>⟨h4,h5,.inl ⟨h,rfl⟩⟩⟩
    rintro σ' G1 ⟨g1,hT1,hcase⟩
    have hK1:=hK.samT g1 htq
    refine zj (λσ' G=>Same G1 G/\∃(bs:List Ent) (D:oP),ug k l ns 20 fresh (sE bs)/\BG k l ns bs/\jy bs=sH/\EnsM K G D bs/\σ'=[sE (.ref o),sE (.ref a),sE (.int (m:Nat)),sE (.ref Dk),sE (.ref Df),sE (.int (0+(i:Int))),sE (.ref D),v7]) ?_ ?_
    ·rcases hcase with ⟨hno,rfl⟩ | ⟨bs,D,h1,h2,h3,h4,rfl⟩
     ·ac_rfl
      exact⟨by lia,λp hp=>q sH kept p Dk _ (hcp _ _ (.slim hno)) hB (sT.trans (g1.trans (SamT.of (zf hp)))) (hT1.same (zf hp)) ze (hK1.same (zf hp))⟩
     ·ac_rfl
      exact⟨Same.refl _,bs,h1,h2,h3,h4⟩
    rintro σ' G2 ⟨s2,bs,D,hTh,hBb,hbey,hD,rfl⟩
    refine zj (λσ' G=>G=G2/\σ'=[sE (.ref o),sE (.ref a),sE (.int (m:Nat)),sE (.ref D),sE (.ref Df),sE (.int (0+(i:Int))),sE (.ref D),v7]) ?_ ?_
    ·ac_rfl
    rintro σ' G3 ⟨rfl,rfl⟩
    have sT3:SamT TB H G3:=sT.trans (g1.trans (SamT.of s2))
    have hT3:=hT1.same s2
    have ho3:=ho.samT sT3 htp
    obtain⟨b12,b10⟩:=j7 hbey
    have hpl:(zd bs).length=bs.length:=by unfold zd;rw[af]
    have hol:=zaT (ps:=zd bs) (by lia) λr hr=>by
     obtain⟨e,he,rfl⟩:=List.mem_map.mp hr
     exact (b10 e he).1
    have hnear:∀e ∈ bs,e.2.2.length<=240:=λe he=>by
     have:=qu hTh bs rfl e he
     unfold ja at this
     lia
    refine zj (λσ' G=>Same G3 G/\(((∃t ∈ ovA (zd bs) (zd bs).length,¬ OkG (zd bs) 40 t)/\σ'=[sE (.ref o),sE (.ref a),sE (.int (m:Nat)),sE (.ref D),sE (.ref Df),sE (.int (0+(i:Int))),sE (.ref D),sE (.non)])\/∃L:oP,(∀t ∈ ovA (zd bs) (zd bs).length,OkG (zd bs) 40 t)/\LsA K G L ((unG (zd bs) 40).map d3)/\σ'=[sE (.ref o),sE (.ref a),sE (.int (m:Nat)),sE (.ref D),sE (.ref Df),sE (.int (0+(i:Int))),sE (.ref D),sE (.ref L)])) ?_ ?_
    ·ac_rfl
     exact⟨o,D,k,l,ns,bs,rfl,ho3,hG,hD.l,hBb,by lia,hol,λh L G s' hL=>⟨s',.inr ⟨h,L,hL,rfl⟩⟩,λt ht h G s'=>⟨s',.inl ⟨⟨t,ht,h⟩,rfl⟩⟩⟩
    rintro σ' G4 ⟨s4,hcase⟩
    refine zj (λσ' G=>Same G3 G/\∃L:oP,(∀t ∈ ovA (zd bs) (zd bs).length,OkG (zd bs) 40 t)/\LsA K G L ((unG (zd bs) 40).map d3)/\σ'=[sE (.ref o),sE (.ref a),sE (.int (m:Nat)),sE (.ref D),sE (.ref Df),sE (.int (0+(i:Int))),sE (.ref D),sE (.ref L)]) ?_ ?_
    ·rcases hcase with ⟨⟨t,ht,hno⟩,rfl⟩ | ⟨L,h1,h2,rfl⟩
     ·ac_rfl
      exact⟨by lia,λp hp=>q sH bs p D _ (hcp _ _ (.far hTh hbey ht hno)) hBb (sT3.trans (SamT.of (s4.trans (zf hp)))) (hT3.same (s4.trans (zf hp))) ze (hD.same (s4.trans (zf hp)))⟩
     ·ac_rfl
      exact⟨s4,h1,h2⟩
    rintro σ' G5 ⟨s5,L,hok,hL,rfl⟩
    refine zj (λσ' G=>G=G5/\unG (zd bs) 40≠[]/\σ'=[sE (.ref o),sE (.ref a),sE (.int (m:Nat)),sE (.ref D),sE (.ref Df),sE (.int (0+(i:Int))),sE (.ref D),sE (.ref L)]) ?_ ?_
    ·ac_rfl
     obtain⟨xs,hX,hI⟩:=id hL
     have hxl:=hI.len
     rw[af] at hxl
     refine⟨_,.inl ⟨_,SqL.of hX,rfl⟩,xp (λh=>⟨by lia,λp hp=>q sG bs p D _ (hcp _ _ (.whole hTh hbey hok (List.length_eq_zero_iff.mp (by lia)))) hBb (sT3.trans (SamT.of (s5.trans (zf hp)))) (hT3.same (s5.trans (zf hp))) ze (hD.same (s5.trans (zf hp)))⟩) λh z=>h ?_⟩
     rw[z] at hxl
     show ((xs.length:Nat):Int)=0
     rw[hxl]
     rfl
    rintro σ' G6 ⟨rfl,hne,rfl⟩
    ac_rfl
    obtain⟨xs,hX,hI⟩:=id hL
    have hxl:=hI.len
    rw[af] at hxl
    have hct:JM xs sF (sE 8)=xs.take 8:=jr xs (k:=8) (by decide)
    refine⟨_,SqL.of hX,λp hp=>?_⟩
    rw[hct]
    have u1:=zf (o:=HO.lst (xs.take 8)) hp
    have hS7:(upd G6 p (.lst (xs.take 8))) p=sE (.lst (xs.take 8)):=ze
    have hX7:=Iss.same u1 _ _ hI
    have hD7:=hD.same (s5.trans u1)
    refine⟨⟨_,SqL.of hS7⟩,λE1 hE1=>?_⟩
    generalize upd G6 p (.lst (xs.take 8))=G7 at *
    refine CompL.by (xs:=xs.take 8) (λj sK H'=>Same G7 H'/\H' E1=sE (.lst sK)/\sK.length<=j/\EnsA K (jd E1 H') (((unG (zd bs) 40).take j).map (ji bs)) sK) ⟨zf hE1,ze,aq _,rfl⟩ (λj sK H' _ h=>SqL.of (h.1 _ _ hS7)) ?_ ?_
    ·rintro j x sK H' hx ⟨hs,hH,hal,hEn⟩
     have hjl:=(List.getElem?_eq_some_iff.mp hx).1
     have hj8:j<8:=by rw[aK] at hjl;lia
     rw[bv hj8] at hx
     obtain⟨t,pt,ht,rfl,hpt⟩:=hX7.get3 hx
     have htm:=(List.mem_filter.mp (ae ht)).1
     simp only[wx]
     rfl'
     refine⟨xl,D,pt,bs,t,rfl,(hD7.same hs).l,zm hs hpt,htm,hBb.ok (by lia),λe he=>(hBb.e e he).s,λp' s' H5 h1 h2 h3 h4=>?_⟩
     have hH5:=h1 _ _ hH
     have hsE:s'≠E1:=λz=>by rw[z,hH] at h4;cases h4
     refine⟨hH5,by lia,CNx.mk hjl ⟨zG (hs.trans h1) hE1,ze,by rw[am];simp only[aM,cb];lia,?_⟩⟩
     rw[zU ht,aE]
     exact (hEn.same ((wH h1).trans xJ)).snoc ((EnA.new (e:=ji bs t) hH5 h2 h3 hsE).same xJ)
    ·rintro sK H' ⟨hs,hH,hal,hEn⟩
     have hEn':EnsA K H' (((unG (zd bs) 40).take 8).map (ji bs)) sK:=by
      have h1:=hEn.same wI
      rw[aK,hxl] at h1
      have e:(unG (zd bs) 40).take (min 8 (unG (zd bs) 40).length)=(unG (zd bs) 40).take 8:=by
       rw[<- eW,aQ]
      rw[e] at h1
      exact h1
     have hal8:sK.length<=8:=by rw[aK] at hal;lia
     obtain⟨xk,hxk,hek⟩:=hD7.same hs
     have hkl:=hek.len
     refine⟨E1,rfl,xk,hxk,sK,hH,by lia,λp2 hp2=>⟨D,p2,⟨bs,_,sT3.trans (SamT.of (s5.trans (u1.trans (hs.trans (zf hp2))))),hT3.same (s5.trans (u1.trans (hs.trans (zf hp2)))),⟨xk,zf hp2 _ _ hxk,hek.same (zf hp2)⟩,⟨xk ++ sK,SqL.of ze,(hEn'.same (zf hp2)).app (hek.same (zf hp2))⟩,?_,λe he=>?_,hBb,λw es h=>hcp w es (.more hTh hbey hok hne h)⟩,rfl,rfl⟩⟩
     ·rw[am,af,aK]
      lia
     ·rcases List.mem_append.mp he with he | he
      ·exact hBb.e e he
      ·obtain⟨t,ht,rfl⟩:=List.mem_map.mp he
       exact VD hBb hbey hnear (List.mem_filter.mp (br ht)).1
   ·rintro σ H' ⟨Dk,Df,v5,v6,v7,hC,rfl⟩
    rw[show ((m:Int)+1).toNat=m+1 by lia,Nat.sub_self] at hC
    exact⟨Dk,Df,hC,_,_,_,rfl⟩
  rintro σ H3 ⟨Dk,Df,v5,v6,v7,⟨kept,fresh,sT,hT,hK,hF,hfl,hfE,hB,hcp⟩,rfl⟩
  ac_rfl
  exact⟨by lia,λp hp=>q sH kept p Dk _ (hcp _ _ (.out kept fresh)) hB (sT.trans (SamT.of (zf hp))) (hT.same (zf hp)) ze (hK.same (zf hp))⟩
theorem j0{w:List Nat}{i:Nat}{q:Int}{f:Bool}{r:zw}(hr:ps[i]? = sE r)(h:zu w q (sdl r f).1=sG):yH ps w ((i:Int),q,f)=sE (yV w q (sdl r f).1 (sdl r f).2):=by
 have hi:=(List.getElem?_eq_some_iff.mp hr).1
 have e:ps.getD ((i:Int),q,f).1.toNat ([],[])=r:=by
  show ps.getD ((i:Int)).toNat ([],[])=r
  rw[aO,ac,hr]
  rfl
 rw[xj (show 0<=((i:Int),q,f).1/\((i:Int),q,f).1<ps.length by constructor <;> simp <;> lia),e,if_pos h]
theorem Qt{n:Nat}(h:e ∈ fEs rs n):EOk rs e:=by
 obtain⟨i,p,hi,hp,rfl⟩:=j5 h
 show yW rs p.1 [((i:Int),(0:Int),sG)]=sE p.2
 have hs:zu p.1 0 (sdl p sG).1=sG:=by
  show zu p.1 0 p.1=sG
  refine decide_eq_true ⟨by lia,by lia,?_⟩
  show (p.1.drop 0).take p.1.length=p.1
  rw[dO,aQ]
 simp only[yW,j0 hp hs,cr]
 show sE (yV p.1 0 p.1 p.2)=sE p.2
 congr 1
 unfold yV
 show p.1.take 0 ++ p.2 ++ p.1.drop (0+p.1.length)=p.2
 rw[bI,bA,aY (by lia),aV]
theorem Ks(hb:∀e ∈ bs,EOk rs e){t:N3}(ht:t ∈ ovA (zd bs) (zd bs).length):EOk rs (ji bs t):=by
 obtain⟨i1,i2,i3,i4⟩:=vX ht
 obtain⟨r,hr⟩:∃r,(zd bs)[t.1]? = sE r:=⟨_,ak i1⟩
 obtain⟨r2,hr2⟩:∃r,(zd bs)[t.2.1]? = sE r:=⟨_,ak i2⟩
 have l1:=wv hr
 have l2:=wv hr2
 have d1:(zd bs).getD t.1 ([],[])=r:=by rw[ac,hr];rfl
 have d2:(zd bs).getD t.2.1 ([],[])=r2:=by rw[ac,hr2];rfl
 rw[l1] at i3
 rw[l1,l2] at i4
 have eA:pkA (zd bs) t=yV (yb r.1 r2.1 t.2.2) 0 r.1 r.2:=by unfold pkA;rw[l1,l2,d1]
 have eB:pkB (zd bs) t=yV (yb r.1 r2.1 t.2.2) (t.2.2:Nat) r2.1 r2.2:=by unfold pkB;rw[l1,l2,d2]
 refine jO hb ?_
 show yW (zd bs) (pkA (zd bs) t) [((t.1:Int),(0:Int),sH),((t.2.1:Int),(t.2.2:Int),sG)]=sE (pkB (zd bs) t)
 obtain⟨b1,b2⟩:=Xg r.2 (jE r.1 r2.1 t.2.2)
 rw[eA,eB]
 have h1:=j0 (f:=sH) (q:=0) hr (w:=yV (yb r.1 r2.1 t.2.2) 0 r.1 r.2) b1
 have h2:=j0 (f:=sG) (q:=(t.2.2:Int)) hr2 (w:=yb r.1 r2.1 t.2.2) (qB (by lia) i4)
 have h1':yH (zd bs) (yV (yb r.1 r2.1 t.2.2) 0 r.1 r.2) ((t.1:Int),(0:Int),sH)=sE (yb r.1 r2.1 t.2.2):=by
  rw[h1]
  congr 1
 have h2':yH (zd bs) (yb r.1 r2.1 t.2.2) ((t.2.1:Int),(t.2.2:Int),sG)=sE (yV (yb r.1 r2.1 t.2.2) (t.2.2:Nat) r2.1 r2.2):=h2
 simp only[yW,h1',h2',cr]
theorem WW{l:List Nat}{es bs zs:List Ent}(h:ug k l ns 20 es (sE bs))(hb:jy bs=sH)(hz:ThinL k l ns zs)(hp:zd bs=zd zs):BG k l ns bs:=by
 obtain⟨b1,_⟩:=j7 hb
 have key:∀e ∈ bs,∃z ∈ zs,z.1=e.1/\z.2.1=e.2.1:=λe he=>by
  have:(e.1,e.2.1) ∈ zd zs:=by rw[<- hp];exact List.mem_map.mpr ⟨e,he,rfl⟩
  obtain⟨z,hz,e2⟩:=List.mem_map.mp this
  injection e2 with h1 h2
  exact⟨z,hz,h1,h2⟩
 refine⟨by lia,λe he=>?_,λe he=>?_⟩
 ·obtain⟨z,hzm,h1,h2⟩:=key e he
  have hE:=hz.rl.e z hzm
  have hn:=qu h bs rfl e he
  unfold ja at hn
  exact⟨by lia,by lia,by lia,by rw[<- h1];exact hE.ma,by rw[<- h2];exact hE.mb⟩
 ·obtain⟨z,hzm,h1,h2⟩:=key e he
  rw[<- h1,<- h2]
  exact hz.rl.lt z hzm
def Gd(rs:List zw)(k:Nat)(l:List Nat)(ns:List Int)(es:List Ent):Prop:=(∀e ∈ es,EOk rs e)/\(es=[]\/(ThinL k l ns es/\jy es=sH/\BG k l ns es))
theorem Z9{rs:List zw}{l:List Nat}(G:OG l ns k){es bs:List Ent}(h:ug k l ns 20 es (sE bs))(hb:jy bs=sH)(he:∀e ∈ es,EB l e)(ho:∀e ∈ es,EOk rs e):Gd rs k l ns bs:=by
 obtain⟨h1,zs,hz,hp⟩:=Xu (rs:=rs) G h bs rfl he ho
 have hB:=WW h hb hz hp
 exact⟨h1,.inr ⟨hz.pairs hp hB.e,hb,hB⟩⟩
theorem zay{rs:List zw}{k n:Nat}{l:List Nat}(G:OG l ns k){kept fresh es:List Ent}{w:Bool}(h:Cpl k l ns n kept fresh w es):(∀e ∈ fresh,EB l e)->(∀e ∈ fresh,EOk rs e)->Gd rs k l ns kept->Gd rs k l ns es:=by
 induction h with
 | out kept fresh=>exact λ_ _ h=>h
 | slim _=>exact λ_ _ h=>h
 | far h hb _ _=>exact λhe ho _=>Z9 G h hb he ho
 | whole h hb _ _=>exact λhe ho _=>Z9 G h hb he ho
 | @more n kept fresh bs es w h hb ho' hu r ih =>
  intro he ho _
  have hg:=Z9 (rs:=rs) G h hb he ho
  have hB:BG k l ns bs:=by
   obtain⟨h1,zs,hz,hp⟩:=Xu (rs:=rs) G h bs rfl he ho
   exact WW h hb hz hp
  have hnear:∀e ∈ bs,e.2.2.length<=240:=λe hm=>by
   have:=qu h bs rfl e hm
   unfold ja at this
   lia
  refine ih (λe hm=>?_) (λe hm=>?_) hg
  ·rcases List.mem_append.mp hm with hm | hm
   ·exact hB.e e hm
   ·obtain⟨t,ht,rfl⟩:=List.mem_map.mp hm
    exact VD hB hb hnear (List.mem_filter.mp (br ht)).1
  ·rcases List.mem_append.mp hm with hm | hm
   ·exact hg.1 e hm
   ·obtain⟨t,ht,rfl⟩:=List.mem_map.mp hm
    exact Ks hg.1 (List.mem_filter.mp (br ht)).1
structure TTl(K:oO):Prop where
 tt:aS K (.type "tuple") (.type "tuple")=sE sG
 bb:aS K (.type "bool") (.type "bool")=sE sG
def ku(K:oO):Sp:=λvs H Q _=>∃(p D:oP) (w:Bool) (es:List Ent),vs=[.ref p]/\H p=sE (.tup [.bl w,.ref D])/\EnsL K H D es/\Q (.bl sG) H
theorem J7:zr ["_law_found"] ["_law_found"] (zb jG):=⟨rfl,rfl,rfl,by decide +kernel,rfl,by decide +kernel,by decide +kernel⟩
theorem Jy(B:Bt mg)(TT':TTl K)(F:Fun K "_law_told" "_law_told" jG f fd)(oj:Df P w K mg base CX0 3 "_law_entries" ["_law_found"] [] (Z6 K)):yg P w K mg base CX0 4 f fd ["_law_found"] (ku K):=by
 refine F.ok J7 (λvs H Q E h=>?_) (λcdv A outer s H vs Q E hr h=>?_)
 ·obtain⟨p,D,w,es,rfl,_⟩:=h
  rfl
 ·obtain⟨p,D,w,es,rfl,hp,hE,q⟩:=h
  refine⟨_,(zi (zW (PW.pt (kR (yn (xn (xD rfl B.isi (pv 0) rfl B.tuple PySem.Pv.boot_tuple) (λ_=>rfl))) (kR (zI XR (zt yc rfl B.len aA (za (pv 0) zc)) zg (zL _)) (ZL (yn (xn (xD rfl B.isi (zx ix_tup (pv 0) zg (λ_ _=>rfl)) rfl B.bool PySem.Pv.boot_bool) (λ_=>rfl)))))))
    (zh (zv yG))
    zC)
   (zh (zv (cl0 oj hr .nil rfl (za (zx ix_tup (pv 0) zg (λ_ _=>rfl)) zc))))),?_⟩
  have s16:=yk
  refine zj (λσ H'=>H'=H/\σ=[sE (.ref p)]) ?_ ?_
  ·ac_rfl
   exact⟨_,.inl (.tup hp),sG,TT'.tt,xp (λe=>by cases e) λ_=>⟨_,.inr ⟨_,SqT.of hp,rfl⟩,xp (λe=>absurd rfl e) λ_=>⟨_,SqT.of hp,_,rfl,_,.inl (.bl _),sG,TT'.bb,xp (λe=>by cases e) λ_=>trivial⟩⟩⟩
  rintro σ H1 ⟨rfl,rfl⟩
  ac_rfl
  exact⟨_,SqT.of hp,_,rfl,D,es,rfl,hE.is,q⟩
theorem Xm{w o:List Nat}{q:Nat}(h:zu w (q:Int) o=sG):w.take q ++ o ++ w.drop (q+o.length)=w:=by
 unfold zu at h
 obtain⟨_,_,e⟩:=of_decide_eq_true h
 rw[aO] at e
 calc w.take q ++ o ++ w.drop (q+o.length)=w.take q ++ ((w.drop q).take o.length ++ (w.drop q).drop o.length):=by rw[e,dj,ax]
  _=w.take q ++ w.drop q:=by rw[bw]
  _=w:=bw q w
theorem UR{w:List Nat}{u:Nat × Nat}(h:zF w ps=sE u):∃p,ps[u.1]? = sE p/\zu w (u.2:Int) p.1=sG:=by
 unfold zF at h
 have hm:u ∈ xI w ps w.length:=eX h
 obtain⟨_,h2⟩:=usesK_mem.mp hm
 obtain⟨_,p,hp,hs⟩:=wC h2
 exact⟨p,hp,hs⟩
theorem kn{l:List Nat}{u v:List Nat}(h:zK k l ns u v=sG):zk k l ns u<=zk k l ns v:=by
 unfold zK at h
 by_cases e:zk k l ns u=zk k l ns v
 ·lia
 ·rw[if_neg e] at h
  have:=of_decide_eq_true h
  lia
theorem QH{l:List Nat}{w:List Nat}{p:zw}{q:Nat}(G:OG l ns k)(hp:zK k l ns p.2 p.1=sG/\(∀c ∈ p.1,c ∈ l)/\∀c ∈ p.2,c ∈ l)(hw:∀c ∈ w,c ∈ l)(h2:zu w (q:Int) p.1=sG):zK k l ns (yV w (q:Int) p.1 p.2) w=sG/\∀c ∈ yV w (q:Int) p.1 p.2,c ∈ l:=by
 have e1:=Xm h2
 obtain⟨p1,p2,p3⟩:=hp
 unfold yV
 rw[aO]
 have ha:∀c ∈ w.take q,c ∈ l:=λc hc=>hw c (br hc)
 have hb:∀c ∈ w.drop (q+p.1.length),c ∈ l:=λc hc=>hw c (cj hc)
 generalize w.take q=a at *
 generalize w.drop (q+p.1.length)=b at *
 rw[<- e1]
 have ap:∀x:List Nat,(∀c ∈ x,c ∈ l)->∀c ∈ a ++ x,c ∈ l:=λx hx c hc=>(List.mem_append.mp hc).elim (ha c) (hx c)
 refine⟨?_,λc hc=>(List.mem_append.mp hc).elim (ap p.2 p3 c) (hb c)⟩
 rw[(vF G hb (ap p.2 p3) (ap p.1 p2)).2,(vF G ha p3 p2).1]
 exact p1
theorem Qj{t:N3}(ht:t ∈ ovA ps ps.length):∃r r2,ps[t.1]? = sE r/\ps[t.2.1]? = sE r2/\t.2.2<r.1.length/\y0 r.1 r2.1 t.2.2=sG/\pkA ps t=yV (yb r.1 r2.1 t.2.2) 0 r.1 r.2/\pkB ps t=yV (yb r.1 r2.1 t.2.2) (t.2.2:Nat) r2.1 r2.2:=by
 obtain⟨i1,i2,i3,i4⟩:=vX ht
 obtain⟨r,hr⟩:∃r,ps[t.1]? = sE r:=⟨_,ak i1⟩
 obtain⟨r2,hr2⟩:∃r,ps[t.2.1]? = sE r:=⟨_,ak i2⟩
 have l1:=wv hr
 have l2:=wv hr2
 have d1:ps.getD t.1 ([],[])=r:=by rw[ac,hr];rfl
 have d2:ps.getD t.2.1 ([],[])=r2:=by rw[ac,hr2];rfl
 rw[l1] at i3
 rw[l1,l2] at i4
 exact⟨r,r2,hr,hr2,i3,i4,by unfold pkA;rw[l1,l2,d1],by unfold pkB;rw[l1,l2,d2]⟩
theorem Y5{v:List Nat}{J:Nat}(h:zF (wAt ps v J) ps=sF):∀d,wAt ps v (J+d)=wAt ps v J
 | 0=>rfl
 | d+1=>by
  show YU ps (wAt ps v (J+d))=_
  rw[Y5 h d]
  unfold YU
  rw[h]
  rfl
def Rw(ps:List zw)(u v:List Nat):Prop:=∃p,p ∈ ps/\∃a b,u=a ++ p.1 ++ b/\v=a ++ p.2 ++ b
inductive Rws(ps:List zw):List Nat->List Nat->Prop where
 | nil {u:List Nat}:Rws ps u u
 | cons {u v w:List Nat} (h:Rw ps u v) (h2:Rws ps v w):Rws ps u w
theorem Rws.trans{u v w:List Nat}(h:Rws ps u v)(h2:Rws ps v w):Rws ps u w:=by
 induction h with
 | nil=>exact h2
 | cons s _ ih=>exact .cons s (ih h2)
theorem Rws.one{u v:List Nat}(h:Rw ps u v):Rws ps u v:=.cons h .nil
theorem Rw.ctx{u v:List Nat}(h:Rw ps u v)(c d:List Nat):Rw ps (c ++ u ++ d) (c ++ v ++ d):=by
 obtain⟨p,hp,a,b,rfl,rfl⟩:=h
 exact⟨p,hp,c ++ a,b ++ d,by simp only[ax],by simp only[ax]⟩
theorem Rws.ctx{u v:List Nat}(h:Rws ps u v)(c d:List Nat):Rws ps (c ++ u ++ d) (c ++ v ++ d):=by
 induction h with
 | nil=>exact .nil
 | cons s _ ih=>exact .cons (s.ctx c d) ih
theorem vB{w:List Nat}{p:zw}{q:Nat}(h:zu w (q:Int) p.1=sG):w=w.take q ++ p.1 ++ w.drop (q+p.1.length)/\yV w (q:Int) p.1 p.2=w.take q ++ p.2 ++ w.drop (q+p.1.length):=by
 refine⟨(Xm h).symm,?_⟩
 unfold yV
 rw[aO]
theorem JQ{w:List Nat}{p:zw}{q:Nat}(hp:p ∈ ps)(h:zu w (q:Int) p.1=sG):Rw ps w (yV w (q:Int) p.1 p.2) :=
 ⟨p,hp,_,_,(vB h).1,(vB h).2⟩
theorem WY{w:List Nat}{u:Nat × Nat}(h:zF w ps=sE u):Rw ps w (Z1 w ps u):=by
 obtain⟨p,h1,h2⟩:=UR h
 unfold Z1
 rw[xG h1]
 exact JQ (ae h1) h2
theorem Yu{ps:List zw}{w:List Nat}:∀j,Rws ps w (wAt ps w j)
 | 0=>.nil
 | j+1=>by
  have ih:=Yu (ps:=ps) (w:=w) j
  cases e:zF (wAt ps w j) ps with
  | none =>
   have:=Y5 e 1
   rw[this]
   exact ih
  | some u =>
   rw[we e]
   exact ih.trans (.one (WY e))
theorem QS{a o b:List Nat}:zu (a ++ o ++ b) (a.length:Int) o=sG:=by
 refine decide_eq_true ⟨by lia,by simp only[am];lia,?_⟩
 rw[aO,ax,cw,cD]
theorem zaI{i j k:Nat}(hi:i<ps.length)(hj:j<ps.length)(hk:k<(lf ps i).length)(hne:i≠j\/k≠0)(ha:y0 (lf ps i) (lf ps j) k=sG):((i,j,k):N3) ∈ ovA ps ps.length:=by
 unfold ovA ovI ZP
 refine List.mem_flatMap.mpr ⟨i,List.mem_range.mpr hi,List.mem_flatMap.mpr ⟨j,List.mem_range.mpr hj,List.mem_map.mpr ⟨k,List.mem_filter.mpr ⟨List.mem_range.mpr hk,?_⟩,rfl⟩⟩⟩
 rw[ha,e8,Bool.or_eq_true,decide_eq_true_iff,decide_eq_true_iff]
 exact hne
theorem kZ(hmet:∀t ∈ ovA ps ps.length,∃f,Rws ps (pkA ps t) f/\Rws ps (pkB ps t) f){p p':zw}(hp:p ∈ ps)(hp':p' ∈ ps){a b a' b':List Nat}(e:a ++ p.1 ++ b=a' ++ p'.1 ++ b')(hle:a.length<=a'.length):∃t,Rws ps (a ++ p.2 ++ b) t/\Rws ps (a' ++ p'.2 ++ b') t:=by
 obtain⟨m,rfl⟩:∃m,a'=a ++ m:=by
  have h1:a=(a' ++ p'.1 ++ b').take a.length:=by rw[<- e,ax,cD]
  rw[ax,aT hle] at h1
  exact⟨a'.drop a.length,by conv=>rhs;rw[h1];simp [cy hle]⟩
 have e1:p.1 ++ b=m ++ p'.1 ++ b':=by
  simp only[ax] at e
  have:=dk e
  rw[this,ax]
 by_cases hk:p.1.length<=m.length
 ·obtain⟨m',rfl⟩:∃m',m=p.1 ++ m':=by
   have h1:p.1=(m ++ p'.1 ++ b').take p.1.length:=by rw[<- e1,cD]
   rw[ax,aT hk] at h1
   exact⟨m.drop p.1.length,by conv=>rhs;rw[h1];simp [cy hk]⟩
  have e2:b=m' ++ p'.1 ++ b':=by
   simp only[ax] at e1
   have:=dk e1
   rw[this,ax]
  refine⟨a ++ p.2 ++ (m' ++ p'.2 ++ b'),.one ⟨p',hp',a ++ p.2 ++ m',b',by rw[e2];simp only[ax],by simp only[ax]⟩,.one ⟨p,hp,a,m' ++ p'.2 ++ b',by simp only[ax],rfl⟩⟩
 ·have hk':m.length<p.1.length:=Nat.lt_of_not_le hk
  by_cases hsame:p=p'/\m=[]
  ·obtain⟨rfl,rfl⟩:=hsame
   rw[bA] at e1
   have:b=b':=dk e1
   rw[this,aV]
   exact⟨_,.nil,.nil⟩
  ·obtain⟨i,hi⟩:=List.mem_iff_getElem?.mp hp
   obtain⟨j,hj⟩:=List.mem_iff_getElem?.mp hp'
   have li:=wv hi
   have lj:=wv hj
   have hne:i≠j\/m.length≠0:=by
    by_cases hij:i=j
    ·refine .inr λh0=>hsame ⟨?_,List.length_eq_zero_iff.mp h0⟩
     rw[hij,hj] at hi
     exact (Option.some.inj hi).symm
    ·exact .inl hij
   have hag:y0 p.1 p'.1 m.length=sG:=(XF _ _ _).mpr λn hn hkn=>by
    have h1:(p.1 ++ b)[m.length+n]? = (m ++ (p'.1 ++ b'))[m.length+n]?:=by rw[e1,ax]
    rw[bX hkn,bR (by lia),Nat.add_sub_cancel_left,bX hn] at h1
    exact h1
   have hov:((i,j,m.length):N3) ∈ ovA ps ps.length:=zaI (List.getElem?_eq_some_iff.mp hi).1 (List.getElem?_eq_some_iff.mp hj).1 (by rw[li];exact hk') hne (by rw[li,lj];exact hag)
   obtain⟨f,f1,f2⟩:=hmet _ hov
   obtain⟨r,r2,hr,hr2,_,_,eA,eB⟩:=Qj hov
   have er:r=p:=by
    have h:ps[i]? = sE r:=hr
    rw[hi] at h
    exact (Option.some.inj h).symm
   have er2:r2=p':=by
    have h:ps[j]? = sE r2:=hr2
    rw[hj] at h
    exact (Option.some.inj h).symm
   subst er er2
   have eb:b=r2.1.drop (r.1.length - m.length) ++ b'.drop (r.1.length - m.length - r2.1.length):=by
    have h1:(r.1 ++ b).drop r.1.length=(m ++ (r2.1 ++ b')).drop r.1.length:=by rw[e1,ax]
    rw[cw,List.drop_append,aY (by lia),bA,List.drop_append] at h1
    exact h1
   generalize hc:b'.drop (r.1.length - m.length - r2.1.length)=c at eb
   have hpw:yb r.1 r2.1 m.length ++ c=m ++ r2.1 ++ b':=by
    unfold yb
    rw[ax,<- eb,e1]
   have hpl:=wL r.1 r2.1 m.length (by lia)
   have hA:pkA ps (i,j,m.length)=r.2 ++ r2.1.drop (r.1.length - m.length):=by
    rw[eA]
    unfold yV yb
    show [] ++ r.2 ++ List.drop (0+r.1.length) _=_
    rw[eg,cw,bA]
   have hB:pkB ps (i,j,m.length) ++ c=m ++ r2.2 ++ b':=by
    rw[eB]
    unfold yV
    rw[aO]
    have t1:(yb r.1 r2.1 m.length).take m.length=m:=by
     have:=congrArg (List.take m.length) hpw
     rw[aT (by lia),ax,cD] at this
     exact this
    have t2:(yb r.1 r2.1 m.length).drop (m.length+r2.1.length) ++ c=b':=by
     have:=congrArg (List.drop (m.length+r2.1.length)) hpw
     rw[bK (by lia),show m.length+r2.1.length=(m ++ r2.1).length by rw[am],cw] at this
     rw[am] at this
     exact this
    show (yb r.1 r2.1 m.length).take m.length ++ r2.2 ++ (yb r.1 r2.1 m.length).drop (m.length+r2.1.length) ++ c=_
    rw[t1,ax,t2]
   refine⟨a ++ f ++ c,?_,?_⟩
   ·have:=f1.ctx a c
    rw[hA] at this
    rw[eb]
    simp only[ax] at this ⊢
    exact this
   ·have:=f2.ctx a c
    rw[ax a,hB] at this
    simp only[ax] at this ⊢
    exact this
theorem Xx(hmet:∀t ∈ ovA ps ps.length,∃f,Rws ps (pkA ps t) f/\Rws ps (pkB ps t) f){u v1 v2:List Nat}(h1:Rw ps u v1)(h2:Rw ps u v2):∃t,Rws ps v1 t/\Rws ps v2 t:=by
 obtain⟨p,hp,a,b,e1,rfl⟩:=h1
 obtain⟨p',hp',a',b',e2,rfl⟩:=h2
 rcases Nat.le_total a.length a'.length with h | h
 ·exact kZ hmet hp hp' (e1.symm.trans e2) h
 ·obtain⟨t,t1,t2⟩:=kZ hmet hp' hp (e2.symm.trans e1) h
  exact⟨t,t2,t1⟩
section
variable{k:Nat}{l:List Nat}{ws:List Int}{ps:List zw}
def Below(k:Nat)(l:List Nat)(ws:List Int)(w v:List Nat):Prop:=(∀c ∈ v,c ∈ l)/\(v=w\/zK k l ws v w=sG)
theorem vM(G:OG l ws k)(hp:∀p ∈ ps,zK k l ws p.2 p.1=sG/\(∀c ∈ p.1,c ∈ l)/\∀c ∈ p.2,c ∈ l){u v:List Nat}(hu:∀c ∈ u,c ∈ l)(h:Rw ps u v):zK k l ws v u=sG/\∀c ∈ v,c ∈ l:=by
 obtain⟨p,hpm,a,b,rfl,rfl⟩:=h
 have:=QH (q:=a.length) G (hp p hpm) hu QS
 rw[(vB QS).2] at this
 rw[ax a,cD,show a.length+p.1.length=(a ++ p.1).length by rw[am],<- ax,cw] at this
 exact this
theorem Below.step(G:OG l ws k)(hp:∀p ∈ ps,zK k l ws p.2 p.1=sG/\(∀c ∈ p.1,c ∈ l)/\∀c ∈ p.2,c ∈ l){w u v:List Nat}(hu:Below k l ws w u)(h:Rw ps u v):Below k l ws w v:=by
 obtain⟨h1,h2⟩:=vM G hp hu.1 h
 refine⟨h2,.inr ?_⟩
 rcases hu.2 with rfl | h3
 ·exact h1
 ·exact yI h1 h3
noncomputable def mu(k:Nat)(l:List Nat)(ws:List Int)(Ws:List (List Nat))(v:List Nat):Nat:=Ws.countP λy=>zK k l ws y v
theorem Zu{α:Type}{p q:α->Bool}:∀{xs:List α} {x:α},(∀z ∈ xs,p z=sG->q z=sG)->x ∈ xs->q x=sG->p x=sH->xs.countP p<xs.countP q
 | y::xs,x,h,hx,hq,hp=>by
  have mono:xs.countP p<=xs.countP q:=List.countP_mono_left λz hz=>h z (aw _ hz)
  rcases List.mem_cons.mp hx with rfl | hx
  ·rw[cG hq,dm (by rw[hp];decide)]
   lia
  ·have ih:=Zu (λz hz=>h z (aw _ hz)) hx hq hp
   by_cases hy:p y=sG
   ·rw[cG hy,cG (h y aD hy)]
    lia
   ·rw[dm hy]
    by_cases hy2:q y=sG
    ·rw[cG hy2]
     lia
    ·rw[dm hy2]
     exact ih
theorem KT{Ws:List (List Nat)}{x y:List Nat}(hx:x ∈ Ws)(h:zK k l ws x y=sG):mu k l ws Ws x<mu k l ws Ws y :=
 Zu (λz _ hz=>yI hz h) hx h ya
end
inductive EqR(ps:List zw):List Nat->List Nat->Prop where
 | refl (u:List Nat):EqR ps u u
 | symm {u v:List Nat} (h:EqR ps u v):EqR ps v u
 | trans {u v w:List Nat} (h:EqR ps u v) (h2:EqR ps v w):EqR ps u w
 | one {u v:List Nat} (h:Rw ps u v):EqR ps u v
theorem kr(ps:List zw):Uk (EqR ps):=⟨.refl,.symm,.trans,λ{u v} a b h=>by
 induction h with
 | refl u=>exact .refl _
 | symm _ ih=>exact .symm ih
 | trans _ _ i1 i2=>exact .trans i1 i2
 | one h=>exact .one (h.ctx a b)⟩
theorem jX{p:zw}(h:p ∈ ps):EqR ps p.1 p.2:=.one ⟨p,h,[],[],by simp,by simp⟩
theorem JX{R:List Nat->List Nat->Prop}(hR:Uk R)(hp:∀p ∈ ps,R p.1 p.2){u v:List Nat}(h:EqR ps u v):R u v:=by
 induction h with
 | refl u=>exact hR.refl _
 | symm _ ih=>exact hR.symm ih
 | trans _ _ i1 i2=>exact hR.trans i1 i2
 | one h =>
  obtain⟨p,hm,a,b,rfl,rfl⟩:=h
  exact hR.ctx a b (hp p hm)
theorem KM{R:List Nat->List Nat->Prop}(hR:Uk R)(hp:∀p ∈ rs,R p.1 p.2){u v:List Nat}{s:Stp}(h:yH rs u s=sE v):R u v:=by
 by_cases hb:0<=s.1/\s.1<rs.length
 ·rw[xj hb] at h
  have hm:rs.getD s.1.toNat ([],[]) ∈ rs:=by
   rw[ac,ak (by lia)]
   exact em _
  generalize rs.getD s.1.toNat ([],[])=r at *
  by_cases hs:zu u s.2.1 (sdl r s.2.2).1=sG
  ·rw[if_pos hs] at h
   have h0:0<=s.2.1:=(of_decide_eq_true hs).1
   obtain⟨q,hq⟩:∃q:Nat,s.2.1=(q:Int):=⟨s.2.1.toNat,by lia⟩
   rw[hq] at h hs
   obtain⟨e1,e2⟩:=vB (p:=sdl r s.2.2) hs
   rw[e2] at h
   cases h
   conv=>arg 1;rw[e1]
   refine hR.ctx _ _ ?_
   unfold sdl
   split
   ·exact hp r hm
   ·exact hR.symm (hp r hm)
  ·rw[if_neg hs] at h
   cases h
 ·rw[wc hb] at h
  cases h
section
variable{k:Nat}{l:List Nat}{ws:List Int}{ps:List zw}
def Dwn(k:Nat)(l:List Nat)(ws:List Int)(ps:List zw):Prop:=∀p ∈ ps,zK k l ws p.2 p.1=sG/\(∀c ∈ p.1,c ∈ l)/\∀c ∈ p.2,c ∈ l
theorem zbz(hp:Dwn k l ws ps){u v:List Nat}(h:Rw ps u v):(∀c ∈ u,c ∈ l) ↔ ∀c ∈ v,c ∈ l:=by
 obtain⟨p,hm,a,b,rfl,rfl⟩:=h
 obtain⟨_,h1,h2⟩:=hp p hm
 simp only[List.mem_append]
 exact⟨λh c hc=>hc.elim (λhc=>hc.elim (λhc=>h c (.inl (.inl hc))) (h2 c)) (λhc=>h c (.inr hc)),λh c hc=>hc.elim (λhc=>hc.elim (λhc=>h c (.inl (.inl hc))) (h1 c)) (λhc=>h c (.inr hc))⟩
theorem YZ(hp:Dwn k l ws ps){u v:List Nat}(h:EqR ps u v):(∀c ∈ u,c ∈ l) ↔ ∀c ∈ v,c ∈ l:=by
 induction h with
 | refl u=>exact .rfl
 | symm _ ih=>exact ih.symm
 | trans _ _ i1 i2=>exact i1.trans i2
 | one h=>exact zbz hp h
noncomputable def zbQ(l:List Nat):Nat->List (List Nat)
 | 0=>[[]]
 | n+1=>[]::(zbQ l n).flatMap λw=>l.map (·::w)
theorem Xv:∀(n:Nat) (v:List Nat),v.length<=n->(∀c ∈ v,c ∈ l)->v ∈ zbQ l n
 | 0,v,h,_=>by rw[List.length_eq_zero_iff.mp (Nat.le_zero.mp h)];exact aD
 | n+1,[],_,_=>aD
 | n+1,c::v,h,hm=>aw _ (List.mem_flatMap.mpr ⟨v,Xv n v (Nat.le_of_succ_le_succ h) λx hx=>hm x (aw _ hx),List.mem_map.mpr ⟨c,hm c aD,rfl⟩⟩)
theorem Y0(G:OG l ws k):∀{v:List Nat},(∀c ∈ v,c ∈ l)->(v.length:Int)<=zk k l ws v
 | [],_=>wf G λc hc=>(nomatch hc)
 | c::v,hm=>by
  have h1:=Y0 G (v:=v) λx hx=>hm x (aw _ hx)
  have h2:=uh (u:=[c]) G (λx hx=>hm x (by rw[List.mem_singleton.mp hx];exact aD)) (by simp)
  have h3:=yT (k:=k) (l:=l) (ns:=ws) [c] v
  rw[show c::v=[c] ++ v from rfl,h3,am]
  simp only[cP]
  lia
theorem ZV(G:OG l ws k)(w:List Nat):∃Ws:List (List Nat),∀v,Below k l ws w v->v ∈ Ws:=by
 refine⟨zbQ l (zk k l ws w).toNat,λv hv=>Xv _ v ?_ hv.1⟩
 have h1:=Y0 G hv.1
 have h2:zk k l ws v<=zk k l ws w:=by
  rcases hv.2 with rfl | h
  ·exact dv _
  ·exact kn h
 lia
theorem Yi(G:OG l ws k)(hp:Dwn k l ws ps)(hmet:∀t ∈ ovA ps ps.length,∃f,Rws ps (pkA ps t) f/\Rws ps (pkB ps t) f){w:List Nat}{Ws:List (List Nat)}(hin:∀v,Below k l ws w v->v ∈ Ws):∀(n:Nat) (x:List Nat),mu k l ws Ws x<n->Below k l ws w x->∀v1 v2,Rws ps x v1->Rws ps x v2->∃t,Rws ps v1 t/\Rws ps v2 t
 | 0,x,h,_=>absurd h (cz _)
 | n+1,x,hn,hx=>λv1 v2 h1 h2=>by
  cases h1 with
  | nil=>exact⟨v2,h2,.nil⟩
  | @cons _ y1 _ s1 r1 =>
   cases h2 with
   | nil=>exact⟨v1,.nil,.cons s1 r1⟩
   | @cons _ y2 _ s2 r2 =>
    have b1:=hx.step G hp s1
    have b2:=hx.step G hp s2
    have m1:=KT (Ws:=Ws) (hin _ b1) (vM G hp hx.1 s1).1
    have m2:=KT (Ws:=Ws) (hin _ b2) (vM G hp hx.1 s2).1
    obtain⟨s,j1,j2⟩:=Xx hmet s1 s2
    obtain⟨t1,a1,a2⟩:=Yi G hp hmet hin n y1 (by lia) b1 v1 s r1 j1
    obtain⟨t,c1,c2⟩:=Yi G hp hmet hin n y2 (by lia) b2 t1 v2 (j2.trans a2) r2
    exact⟨t,a1.trans c1,c2⟩
def Met(ps:List zw):Prop:=∀t ∈ ovA ps ps.length,∃f,Rws ps (pkA ps t) f/\Rws ps (pkB ps t) f
theorem Kx(G:OG l ws k)(hp:Dwn k l ws ps)(hmet:Met ps){x v1 v2:List Nat}(hx:∀c ∈ x,c ∈ l)(h1:Rws ps x v1)(h2:Rws ps x v2):∃t,Rws ps v1 t/\Rws ps v2 t:=by
 obtain⟨Ws,hin⟩:=ZV G x
 exact Yi G hp hmet hin _ x (d7 _) ⟨hx,.inl rfl⟩ v1 v2 h1 h2
theorem za7(G:OG l ws k)(hp:Dwn k l ws ps)(hmet:Met ps){u v:List Nat}(h:EqR ps u v):(∀c ∈ u,c ∈ l)->∃t,Rws ps u t/\Rws ps v t:=by
 induction h with
 | refl u=>exact λ_=>⟨u,.nil,.nil⟩
 | symm h ih =>
  intro hu
  obtain⟨t,h1,h2⟩:=ih ((YZ hp h).mpr hu)
  exact⟨t,h2,h1⟩
 | trans h _ i1 i2 =>
  intro hu
  have hv:=(YZ hp h).mp hu
  obtain⟨t1,a1,a2⟩:=i1 hu
  obtain⟨t2,b1,b2⟩:=i2 hv
  obtain⟨t,c1,c2⟩:=Kx G hp hmet hv a2 b1
  exact⟨t,a1.trans c1,b2.trans c2⟩
 | one h=>exact λ_=>⟨_,.one h,.nil⟩
theorem Ze(G:OG l ws k)(hp:Dwn k l ws ps){u v:List Nat}(h:Rws ps u v):(∀c ∈ u,c ∈ l)->Below k l ws u v:=by
 induction h with
 | nil=>exact λhu=>⟨hu,.inl rfl⟩
 | @cons u v w s _ ih =>
  intro hu
  obtain⟨h1,h2⟩:=vM G hp hu s
  obtain⟨h3,h4⟩:=ih h2
  refine⟨h3,.inr ?_⟩
  rcases h4 with rfl | h4
  ·exact h1
  ·exact yI h4 h1
theorem Zo{u v:List Nat}(h:Rws ps u v)(hn:∀p ∈ ps,¬ Within p.1 u):v=u:=by
 cases h with
 | nil=>rfl
 | cons s _ =>
  obtain⟨p,hm,a,b,e,_⟩:=s
  exact absurd ⟨a,b,e⟩ (hn p hm)
end
section
variable{k:Nat}{l:List Nat}{ws:List Int}{es fs:List Ent}
end
theorem zaR(h:unG ps 40=[]):Met ps:=λt ht=>by
 have hm:Ui ps 40 t=sG:=by
  cases e:Ui ps 40 t with
  | true=>rfl
  | false =>
   have:t ∈ unG ps 40:=List.mem_filter.mpr ⟨ht,by rw[e];rfl⟩
   rw[h] at this
   cases this
 have e:K0 ps 40 (pkA ps t)=K0 ps 40 (pkB ps t):=of_decide_eq_true hm
 refine⟨K0 ps 40 (pkA ps t),Yu _,?_⟩
 rw[e]
 exact Yu _
theorem Kp{k n:Nat}{l:List Nat}{kept fresh es:List Ent}{w:Bool}(h:Cpl k l ns n kept fresh w es):w=sG->Met (zd es):=by
 induction h with
 | out kept fresh=>exact λe=>by cases e
 | slim _=>exact λe=>by cases e
 | far _ _ _ _=>exact λe=>by cases e
 | whole _ _ _ hu=>exact λ_=>zaR hu
 | more _ _ _ _ _ ih=>exact ih
theorem W8{R:List Nat->List Nat->Prop}(hR:Uk R){k n:Nat}{l:List Nat}{kept fresh es:List Ent}{w:Bool}(h:Cpl k l ns n kept fresh w es):w=sG->vp R es->vp R fresh:=by
 induction h with
 | out kept fresh=>exact λe=>by cases e
 | slim _=>exact λe=>by cases e
 | far _ _ _ _=>exact λe=>by cases e
 | whole h _ _ _=>exact λ_ hk=>(QM hR h _ rfl).mp hk
 | more h _ _ _ _ ih=>exact λe hk=>(QM hR h _ rfl).mp λx hx=>ih e hk x (bn _ hx)
theorem Vf{i:Nat}{p:zw}(h:rs[i]? = sE p):∀{n:Nat},i<n->fE i p ∈ fEs rs n
 | n+1,hi=>by
  show _ ∈ fEs rs n ++ ((rs[n]?).map (fE n)).toList
  rcases Nat.lt_succ_iff_lt_or_eq.mp hi with hi | rfl
  ·exact bn _ (Vf h hi)
  ·rw[h]
   exact aC _ aD
theorem Ub{k:Nat}{l:List Nat}(G:OG l ws k)(h3:∀n ∈ ws,n<=3):∀{v:List Nat},(∀c ∈ v,c ∈ l)->zk k l ws v<=3 * (v.length:Int)
 | [],_=>by
  rw[yQ (w:=[]) G λc hc=>absurd hc eC]
  exact dv _
 | c::v,hm=>by
  have h1:=Ub G h3 (v:=v) λx hx=>hm x (aw _ hx)
  have h4:=yT (k:=k) (l:=l) (ns:=ws) [c] v
  have h2:zk k l ws [c]<=3:=by
   rw[yQ G λx hx=>by rw[List.mem_singleton.mp hx];exact hm c aD]
   have hlt:=bC (hm c aD)
   have hl:=G.nl
   show wt k ws ((l.idxOf c:Nat):Int)+0<=3
   unfold wt
   split
   ·rw[aO,ac,ak (by lia)]
    have:=h3 _ (em (l:=ws) (n:=l.idxOf c) (by lia))
    show ws[l.idxOf c]+0<=3
    lia
   ·decide
  rw[show c::v=[c] ++ v from rfl,h4,am]
  simp only[cP]
  lia
def u8(K:oO):Sp:=λvs H Q _=>∃(a:oP) (k:Nat) (l:List Nat) (ws:List Int) (ps:List zw) (w:List Nat) (b:Bool),vs=[.ref a,.str (tx w),.bl b]/\LsA K H a (ps.map dR)/\OG l ws k/\(∀n ∈ ws,n<=3)/\Dwn k l ws ps/\(∀p ∈ ps,p.2.length<=60)/\(∀c ∈ w,c ∈ l)/\w.length<=5/\∀v:List Nat,Rws ps w v->(∀p ∈ ps,¬ Within p.1 v)->Q (.str (tx v)) H
theorem ZT{l:List Nat}{w:List Nat}{b:Bool}(h1:LsA K H a (ps.map dR))(h2:OG l ws k)(h3:∀n ∈ ws,n<=3)(h4:Dwn k l ws ps)(h5:∀p ∈ ps,p.2.length<=60)(h6:∀c ∈ w,c ∈ l)(h7:w.length<=5)(h:∀v:List Nat,Rws ps w v->(∀p ∈ ps,¬ Within p.1 v)->Q (.str (tx v)) H):u8 K [.ref a,.str (tx w),.bl b] H Q E:=⟨a,k,l,ws,ps,w,b,rfl,h1,h2,h3,h4,h5,h6,h7,h⟩
theorem iu:zr ["_law_rules","_law_word_here","_law_last","_law_going","_law_rule","_law_at"] ["_law_rules","_law_word_here","_law_last"] (zb jI):=⟨rfl,rfl,rfl,by decide +kernel,rfl,by decide +kernel,by decide +kernel⟩
theorem JT(B:Bt mg)(F:Fun K "_law_down" "_law_down" jI f fd) : yg P w K mg base CX0 1 f fd ["_law_rules","_law_word_here","_law_last"] (u8 K):=by
 refine F.ok iu (λvs H Q E h=>?_) (λcdv A outer s H vs Q E hr h=>?_)
 ·obtain⟨a,k,l,ws,ps,w,b,rfl,_⟩:=h
  rfl
 ·obtain⟨a,k,l,ws,ps,w,b,rfl,hA,hG,h3,hD,h60,hw,hwl,q⟩:=h
  refine⟨_,(zi (zq (i:=3) iu.nd rfl (Or.inl rfl) yG)
   (zi (kO PassesOwn.never (xn (pv 3) (λ_=>rfl))
    (zi (zq (i:=3) iu.nd rfl (Or.inl rfl) yG)
    (zh (yA PassesOwn.never rfl (yF (pv 0)) (zB (i:=4) iu.nd rfl (Or.inl rfl))
     (zi (zq (i:=5) iu.nd rfl (Or.inl rfl) (vt bq cS cT JL (pv 1) (za (zx ix_tup (pv 4) zg (λ_ _=>rfl)) zc)))
     (zi (zW (xn (pv 2) (λ_=>rfl))
      (zh (zq (i:=5) iu.nd rfl (Or.inl rfl) (vt bq PySem.F.slot_str_rfind PySem.F.type_str_rfind UC (pv 1) (za (zx ix_tup (pv 4) zg (λ_ _=>rfl)) zc))))
      zC)
     (zh (zW (PW.pt (QT (zI op_ge' (pv 5) zg (zL _)) (WN (yn (xn (pv 3) (λ_=>rfl))))))
      (zi (zq (i:=1) iu.nd rfl (Or.inl rfl) (zE op_add_str (zE op_add_str (yl wu (pv 1) xE (yj (pv 5))) (zx ix_tup (pv 4) zg (λ_ _=>rfl))) (yl wu (pv 1) (yj (zE op_add (pv 5) (zt yc rfl B.len aA (za (zx ix_tup (pv 4) zg (λ_ _=>rfl)) zc)))) xE)))
      (zh (zq (i:=3) iu.nd rfl (Or.inl rfl) yG)))
      zC))))))))
   (zh (zv (pv 1))))),?_⟩
  have s16:=yk
  have s16:=yk
  obtain⟨xs,hX,hI⟩:=id hA
  have hxl:=hI.len
  rw[af] at hxl
  obtain⟨Ws,hin⟩:=ZV hG w
  refine zj (λσ H'=>H'=H/\σ=[sE (.ref a),sE (.str (tx w)),sE (.bl b),sE (.bl sG),sF,sF]) ?_ ?_
  ·rfl'
  rintro σ H1 ⟨rfl,rfl⟩
  refine zj (λσ H'=>H'=H1/\∃(v:List Nat) (v4 v5:Option V),(Rws ps w v/\∀p ∈ ps,¬ Within p.1 v)/\σ=[sE (.ref a),sE (.str (tx v)),sE (.bl b),sE (.bl sH),v4,v5]) ?_ ?_
  ·unfold Xo
   refine⟨λm σ H'=>H'=H1/\∃(v:List Nat) (g:Bool) (v4 v5:Option V),(m=(if g=sG then mu k l ws Ws v+1 else 0)/\Rws ps w v/\(g=sH->∀p ∈ ps,¬ Within p.1 v))/\σ=[sE (.ref a),sE (.str (tx v)),sE (.bl b),sE (.bl g),v4,v5],⟨_,rfl,w,sG,sF,sF,⟨rfl,.nil,λe=>by cases e⟩,rfl⟩,?_⟩
   rintro m σ H' ⟨rfl,v,g,v4,v5,⟨rfl,hv,hst⟩,rfl⟩
   rfl'
   refine xp (λhg=>?_) λhg=>?_
   rotate_left
   ·have hg:g=sH:=by simpa using hg
    exact⟨v,hv,hst hg,rfl,hg⟩
   subst hg
   obtain⟨hv1,hv2⟩:=Ze hG hD hv hw
   refine⟨λσ' H''=>H''=H'/\∃(u:List Nat) (g:Bool) (v4 v5:Option V),((g=sH/\u=v/\∀p ∈ ps,¬ Within p.1 v)\/(g=sG/\Rw ps v u))/\σ'=[sE (.ref a),sE (.str (tx u)),sE (.bl b),sE (.bl g),v4,v5],?_,?_⟩
   ·rintro σ' H'' ⟨rfl,u,g,v4,v5,h,rfl⟩
    rcases h with ⟨rfl,rfl,h⟩ | ⟨rfl,h⟩
    ·exact⟨0,by rw[if_pos rfl];lia,rfl,u,sH,rfl,hv,λ_=>h,v4,v5,rfl⟩
    ·have b1:=Below.step hG hD ⟨hv1,hv2⟩ h
     have m1:=KT (Ws:=Ws) (hin _ b1) (vM hG hD hv1 h).1
     exact⟨mu k l ws Ws u+1,by rw[if_pos rfl];lia,rfl,u,sG,rfl,hv.trans (.one h),(λe=>by cases e),v4,v5,rfl⟩
   refine zj (λσ H''=>H''=H'/\σ=[sE (.ref a),sE (.str (tx v)),sE (.bl b),sE (.bl sH),v4,v5]) ?_ ?_
   ·rfl'
   rintro σ H2 ⟨rfl,rfl⟩
   have hvl:v.length<=15:=by
    have h1:=Y0 hG hv1
    have h2:=Ub hG h3 hw
    have h4:zk k l ws v<=zk k l ws w:=by
     rcases hv2 with rfl | h
     ·exact dv _
     ·exact kn h
    lia
   rfl'
   refine⟨⟨_,SqL.of hX⟩,ForL.by (xs:=xs) (λi σ H'=>H'=H2/\∃(u:List Nat) (g:Bool) (v4 v5:Option V),((g=sH/\u=v/\∀j p,j<i->ps[j]? = sE p->¬ Within p.1 v)\/(g=sG/\Rw ps v u))/\σ=[sE (.ref a),sE (.str (tx u)),sE (.bl b),sE (.bl g),v4,v5]) ⟨rfl,v,sH,v4,v5,.inl ⟨rfl,rfl,λj p h=>absurd h (cz _)⟩,rfl⟩ (λi σ H' _ h=>SqL.of (by rw[h.1];exact hX)) ?_ ?_⟩
   ·rintro i x σ H3 hx ⟨rfl,u,g,v4,v5,hu,rfl⟩
    have hi:=(List.getElem?_eq_some_iff.mp hx).1
    obtain⟨r,p,hr,rfl,hsq⟩:=hI.getR hx
    have hrm:r ∈ ps:=ae hr
    simp only[xu,bg,bf]
    refine zj (λσ H'=>H'=H3/\∃z:Int,zb5 u r.1 z/\σ=[sE (.ref a),sE (.str (tx u)),sE (.bl b),sE (.bl g),sE (.ref p),sE (.int z)]) ?_ ?_
    ·rfl'
     exact⟨_,hsq,_,rfl,u,r.1,rfl,rfl,λz hz=>⟨rfl,z,hz,rfl⟩⟩
    rintro σ H4 ⟨rfl,z,hz,rfl⟩
    refine zj (λσ H'=>H'=H4/\∃z:Int,zb5 u r.1 z/\σ=[sE (.ref a),sE (.str (tx u)),sE (.bl b),sE (.bl g),sE (.ref p),sE (.int z)]) ?_ ?_
    ·rfl'
     exact xp (λ_=>⟨_,hsq,_,rfl,u,r.1,rfl,rfl,λz hz=>⟨rfl,z,hz,rfl⟩⟩) λ_=>hz
    rintro σ H5 ⟨rfl,z,hz,rfl⟩
    rfl'
    refine xp (λh0=>xp (λhg=>?_) λhg=>?_) λh0=>?_
    ·subst hg
     obtain⟨_,rfl,_⟩:_/\u=v/\_:=hu.resolve_right λh=>by cases h.1
     obtain⟨n,rfl,hn1,hn2⟩:=hz.resolve_left λh=>by have:=h.1;lia
     have hsp:u=u.take n ++ r.1 ++ u.drop (n+r.1.length):=by
      conv=>lhs;rw[<- bw n u,<- bw r.1.length (u.drop n),hn2,dj]
      rw[ax]
     have hrl:=h60 r hrm
     refine zj (λσ H'=>H'=H5/\σ=[sE (.ref a),sE (.str (tx (u.take n ++ r.2 ++ u.drop (n+r.1.length)))),sE (.bl b),sE (.bl sH),sE (.ref p),sE (.int (n:Int))]) ?_ ?_
     ·rfl'
      refine⟨by lia,_,hsq,_,rfl,_,rfl,?_,_,hsq,_,rfl,_,⟨by rw[zR];lia,rfl⟩,by lia,?_,?_⟩
      all_goals simp only[zR,<- Int.natCast_add,x0,jr u (dQ _),vA u (dQ _),aO,am,aK,ba]
      ·lia
      ·lia
     rintro σ H6 ⟨rfl,rfl⟩
     rfl'
     exact⟨_,_,.inr ⟨rfl,r,hrm,_,_,hsp,rfl⟩,rfl,rfl⟩
    ·exact⟨u,g,.inr (hu.resolve_left λh=>hg h.1),rfl,rfl⟩
    ·refine⟨u,g,?_,rfl,rfl⟩
     rcases hu with ⟨h1,rfl,h3⟩ | hu
     ·refine .inl ⟨h1,rfl,λj p hj hp=>?_⟩
      rcases Nat.lt_succ_iff_lt_or_eq.mp hj with hj | rfl
      ·exact h3 j p hj hp
      ·rw[hr] at hp
       cases hp
       rcases hz with ⟨_,hz⟩ | ⟨n,rfl,_⟩
       ·rintro⟨a,c,e⟩
        refine hz a.length ⟨?_,?_⟩
        ·rw[e,am,am]
         lia
        ·rw[e,ax,cw,cD]
       ·exact absurd (dQ n) h0
     ·exact .inr hu
   ·rintro σ H' ⟨rfl,u,g,v4,v5,h,rfl⟩
    refine⟨rfl,u,g,?_,v4,v5,rfl⟩
    rcases h with ⟨h1,h2,h3⟩ | h
    ·refine .inl ⟨h1,h2,λp hp=>?_⟩
     obtain⟨j,hj⟩:=List.mem_iff_getElem?.mp hp
     exact h3 j p (by have:=(List.getElem?_eq_some_iff.mp hj).1;lia) hj
    ·exact .inr h
  rintro σ H' ⟨rfl,v,v4,v5,⟨hv,hst⟩,rfl⟩
  rfl'
  exact q v hv hst
def Mt(rs:List zw)(w:List Nat)(us:List (List Nat)):Prop:=us.length<=64/\∀u ∈ us,u.length<=5/\EqR rs w u
noncomputable abbrev wV(u:List Nat):V:=.str (tx u)
def qc(K:oO):Sp:=λvs H Q _=>∃(a c:oP) (rs:List zw) (w:List Nat) (ns:List Int),vs=[.ref a,.str (tx w),.ref c]/\Is K H (.lst (rs.map dR)) (.ref a)/\jz rs/\w.length<=5/\SqL K H c (ns.map V.int)/\(∀z ∈ ns,uu z)/\ns.length<=63 /\
 ∀(D:oP) (H':Hp) (us:List (List Nat)),H D=sF->Same H H'->H' D=sE (.lst (us.map wV))->Mt rs w us->Q (.ref D) H'
theorem WX{a c:oP}{w:List Nat}(h1:Is K H (.lst (rs.map dR)) (.ref a))(h2:jz rs)(h3:w.length<=5)(h5:SqL K H c (ns.map V.int))(h5':∀z ∈ ns,uu z)(h6:ns.length<=63)
 (h:∀(D:oP) (H':Hp) (us:List (List Nat)),H D=sF->Same H H'->H' D=sE (.lst (us.map wV))->Mt rs w us->Q (.ref D) H'):qc K [.ref a,.str (tx w),.ref c] H Q E:=⟨a,c,rs,w,ns,rfl,h1,h2,h3,h5,h5',h6,h⟩
theorem lv:zr ["_law_pacts","_law_word_here","_law_cells","_law_words_here","_law_cell_here","_law_some"] ["_law_pacts","_law_word_here","_law_cells"] (zb uq):=⟨rfl,rfl,rfl,by decide +kernel,rfl,by decide +kernel,by decide +kernel⟩
theorem UO(B:Bt mg)(F:Fun K "_law_words" "_law_words" uq f fd)(oE:Df P w K mg base CX0 2 "_law_uses" ["_law_pacts","_law_word_here","_law_most"] [] (kA K))(nN:Df P w K mg base CX0 1 "_law_used" ["_law_pacts","_law_word_here","_law_step"] [] (vz K))(ir:Df P w K mg base CX0 1 "_law_mixed" ["_law_cell_here","_law_turn"] [] wk):yg P w K mg base CX0 3 f fd ["_law_pacts","_law_word_here","_law_cells"] (qc K):=by
 refine F.ok lv (λvs H Q E h=>?_) (λcdv A outer s H vs Q E hr h=>?_)
 ·obtain⟨a,c,rs,w,ns,rfl,_⟩:=h
  rfl
 ·obtain⟨a,c,rs,w,ns,rfl,hR,ok,hw,hS,hB,hn,q⟩:=h
  refine⟨_,(zi (zq (i:=3) lv.nd rfl (Or.inl rfl) (vg (za (pv 1) zc)))
   (zi (yA PassesOwn.never rfl (yF (pv 2)) (zB (i:=4) lv.nd rfl (Or.inl rfl))
    (zi (zq (i:=5) lv.nd rfl (Or.inl rfl) (cl0 oE hr .nil rfl (za (pv 0) (za (pv 1) (za zg zc)))))
    (zh (zW (zI Xf (zt yc rfl B.len aA (za (pv 5) zc)) zg (zL _))
     (zi (zq (i:=1) lv.nd rfl (Or.inl rfl) (cl0 nN hr .nil rfl (za (pv 0) (za (pv 1) (za (zx ix_list (pv 5) (zE xL (cl0 ir hr .nil rfl (za (pv 4) (za zg zc))) (zt yc rfl B.len aA (za (pv 5) zc))) (λ_ _=>rfl)) zc)))))
     (zh (wz (vt bO cf ci xH (pv 3) (za (pv 1) zc)))))
     zC))))
   (zh (zv (pv 3))))),?_⟩
  have s16:=yk
  have s16:=yk
  refine zj (λσ H'=>∃D:oP,H D=sF/\H'=upd H D (.lst [wV w])/\σ=[sE (.ref a),sE (.str (tx w)),sE (.ref c),sE (.ref D),sF,sF]) ?_ ?_
  ·rfl'
   exact⟨by lia,λD hD=>⟨D,hD,rfl,rfl⟩⟩
  rintro σ H1 ⟨D,hD,rfl,rfl⟩
  refine zj (λσ H'=>∃(us:List (List Nat)) (w2:List Nat),Same H H'/\H' D=sE (.lst (us.map wV))/\Mt rs w us/\∃v4 v5,σ=[sE (.ref a),sE (.str (tx w2)),sE (.ref c),sE (.ref D),v4,v5]) ?_ ?_
  ·rfl'
   refine⟨⟨_,(zf hD).seq hS⟩,ForL.by (xs:=ns.map V.int) (λi σ H'=>∃(us:List (List Nat)) (w2:List Nat),Same H H'/\H' D=sE (.lst (us.map wV))/\us.length<=i+1/\(∀u ∈ us,u.length<=5/\EqR rs w u)/\w2.length<=5/\EqR rs w w2/\∃v4 v5,σ=[sE (.ref a),sE (.str (tx w2)),sE (.ref c),sE (.ref D),v4,v5]) ⟨[w],w,zf hD,ze,aq _,λu hu=>by rw[List.mem_singleton.mp hu];exact⟨hw,.refl _⟩,hw,.refl _,_,_,rfl⟩ (λi σ H' _ h=>by obtain⟨ss,w2,hs,_⟩:=h;exact hs.seq hS) ?_ ?_⟩
   ·rintro i x σ H3 hx ⟨us,w2,s3,hL3,hul,hu,hw2,he2,v4,v5,rfl⟩
    have hi:=(List.getElem?_eq_some_iff.mp hx).1
    rw[af] at hi
    rw[aH] at hx
    obtain⟨z,hz,rfl⟩:=Option.map_eq_some_iff.mp hx
    have hzB:=hB z (ae hz)
    simp only[xu,bg,bf]
    refine zj (λσ H'=>∃(U:oP) (ss:List Stp),Same H3 H'/\LsA K H' U (ss.map dSt)/\ss.length<=100000/\(∀s ∈ ss,Fit rs w2 5 s)/\σ=[sE (.ref a),sE (.str (tx w2)),sE (.ref c),sE (.ref D),sE (.int z),sE (.ref U)]) ?_ ?_
    ·rfl'
     exact UI (Is.same s3 _ _ hR) ok (by lia) λU H' us _ s' hU hul hf=>⟨s',U,us,hU,hul,hf,rfl⟩
    rintro σ H4 ⟨U,ss,s4,hU,hsl,hf,rfl⟩
    obtain⟨ys,hY,hJ⟩:=hU
    rfl'
    refine⟨_,.inl ⟨_,SqL.of hY,rfl⟩,xp (λhpos=>?_) λ_=>?_⟩
    ·refine zj (λσ H'=>H'=H4/\∃w3:List Nat,(EqR rs w w3/\w3.length<=5)/\σ=[sE (.ref a),sE (.str (tx w3)),sE (.ref c),sE (.ref D),sE (.int z),sE (.ref U)]) ?_ ?_
     ·rfl'
      refine wA hzB (by decide) (by decide) λy hy=>⟨_,.inl ⟨_,SqL.of hY,rfl⟩,?_⟩
      have m0:=bt y (b:=(ys.length:Int)) (by lia)
      have m1:=bu y (b:=(ys.length:Int)) (by lia)
      obtain⟨v,a1,b1⟩:=qY (xs:=ys) m0 m1
      obtain⟨st,pst,hst,rfl,hqs⟩:=vL hJ b1
      obtain⟨w3,haf,hw3⟩:=hf st (ae hst)
      exact⟨_,rfl,by lia,_,SqL.of hY,_,a1,Zt (Is.same (s3.trans s4) _ _ hR) ok (by lia) hqs haf ⟨rfl,w3,he2.trans (KM (kr _) (λp hp=>jX hp) haf),by lia,rfl⟩⟩
     rintro σ H5 ⟨rfl,w3,⟨he3,hw3⟩,rfl⟩
     have hL4:=s4 _ _ hL3
     rfl'
     refine⟨.inl ⟨_,SqL.of hL4⟩,_,hL4,by rw[af];lia,zG (s3.trans s4) hD,us ++ [w3],?_,by rw[am];exact Nat.succ_le_succ hul,λu h=>?_,w3,hw3,he3,rfl⟩
     ·rw[ze,aE]
      rfl
     ·rcases List.mem_append.mp h with h | h
      ·exact hu u h
      ·rw[List.mem_singleton.mp h]
       exact⟨hw3,he3⟩
    ·exact⟨s3.trans s4,us,s4 _ _ hL3,by lia,hu,w2,hw2,he2,rfl⟩
   ·rintro σ H' ⟨us,w2,hs,hL,hul,hu,_,_,v4,v5,rfl⟩
    rw[af] at hul
    exact⟨hs,us,hL,⟨by lia,hu⟩,w2,_,_,rfl⟩
  rintro σ H2 ⟨us,w2,hs,hL,hm,v4,v5,rfl⟩
  rfl'
  exact q D H2 us hD hs hL hm
section
variable{g:TG}{tt:TT}{te:TE}{own:Nat}{ix:List Nat}{σ:L2.St}{H1:Hp}{Q:VK}{D:oP}
def CompT(K:oO)(a:oP)(g:TG)(tt:TT)(te:TE)(own:Nat)(ix:List Nat)(σ:L2.St)(H1:Hp)(Q:VK)(D:oP):Prop:=Yr (Itt K a) g tt te own ix σ H1 Q D
theorem zb1{K:oO}{tl:TE}:jf (zb3 K tl) g tt te own ix σ H Q=tl σ H λx H1=>∃a,x=.ref a/\(∃xs,SqT K H1 a xs)/\∀D,H1 D=sF->CompT K a g tt te own ix σ H1 Q D:=rfl
theorem CompT.by{K:oO}{xs:List V}(Pv:Nat->List V->Hp->Prop)(h0:Pv 0 [] (upd H1 D (.lst [])))(hl:∀i sK H',i<=xs.length->Pv i sK H'->SqT K H' a xs)
  (hs:∀i x sK H',xs[i]? = sE x->Pv i sK H'->g x (wZ σ own ix) H' λσ3 H3=>xa (wZ σ own ix) σ3/\tt σ3 H3 λb H4=>if b=sG then
   te σ3 H4 λv H5=>H5 D=sE (.lst sK)/\sK.length<oN/\CNx xs.length i Pv (sK ++ [v]) (upd H5 D (.lst (sK ++ [v]))) else CNx xs.length i Pv sK H4)
  (hd:∀sK H',Pv xs.length sK H'->Q (.ref D) H'):CompT K a g tt te own ix σ H1 Q D:=by
 refine⟨λi m sK H=>m=xs.length - i/\i<=xs.length/\Pv i sK H,⟨xs.length,by simp,aJ _,h0⟩,?_⟩
 rintro i m sK H' ⟨rfl,hi,p⟩
 have q:=hl i sK H' hi p
 by_cases hlt:i<xs.length
 ·refine .inr ⟨⟨xs,xs[i],q,by simp [hlt]⟩,λx H2 y=>?_⟩
  obtain⟨e,y⟩:=y
  subst e
  exact hs i x sK _ (y xs q) p
 ·have e:i=xs.length:=by lia
  subst e
  exact .inl ⟨⟨xs,q,aq _⟩,hd sK H' p⟩
end
structure PG(l:List Nat)(rs:List zw):Prop where
 n:rs.length<=6
 p:1<=rs.length
 s:∀r ∈ rs,r.1.length<=3/\r.2.length<=3/\(∀x ∈ r.1,x ∈ l)/\∀x ∈ r.2,x ∈ l
theorem PG.ok{l:List Nat}(h:PG l rs):jz rs:=⟨by have:=h.n;lia,λr hr=>by have:=h.s r hr;lia⟩
structure Gdp(l:List Nat)(rs:List zw)(p:zw):Prop where
 a:p.1.length<=60
 b:p.2.length<=60
 ma:∀c ∈ p.1,c ∈ l
 mb:∀c ∈ p.2,c ∈ l
 e:EqR rs p.1 p.2
def AG(l:List Nat)(rs rs':List zw):Prop:=(∀p ∈ rs',Gdp l rs p)/\∀p ∈ rs,EqR rs' p.1 p.2
theorem PG.gdp{l:List Nat}(h:PG l rs){p:zw}(hp:p ∈ rs):Gdp l rs p:=by
 obtain⟨h1,h2,h3,h4⟩:=h.s p hp
 exact⟨by lia,by lia,h3,h4,jX hp⟩
theorem AG.eb{l:List Nat}{rs rs':List zw}(h:AG l rs rs'):∀e ∈ fEs rs' rs'.length,EB l e:=λe he=>by
 obtain⟨i,p,hi,hp,rfl⟩:=j5 he
 have g:=h.1 p (ae hp)
 exact⟨g.a,g.b,by show ([((i:Int),(0:Int),sG)]:List Stp).length<=600;simp,g.ma,g.mb⟩
theorem PG.ag{l:List Nat}(h:PG l rs):AG l rs rs:=⟨λ_ hp=>h.gdp hp,λ_ hp=>jX hp⟩
def Tld(K:oO)(H:Hp)(k:Nat)(l:List Nat)(ws:List Int)(rs:List zw)(p:oP)(w:Bool)(D:oP)(es:List Ent):Prop:=H p=sE (.tup [.bl w,.ref D])/\EnsM K H D es/\Gd rs k l ws es/\∃m,Cpl k l ws m [] (fEs rs rs.length) w es
theorem Tld.thin{l:List Nat}{p D:oP}{w:Bool}(h:Tld K H k l ws rs p w D es):ThinL k l ws es/\es.length<=12:=by
 rcases h.2.2.1.2 with rfl | ⟨h,hb,_⟩
 ·exact⟨⟨⟨λe he=>(nomatch he),λe he=>(nomatch he)⟩,λi j a b h=>by simp at h,λi j a b h=>by simp at h,λi j a b h=>by simp at h⟩,aJ _⟩
 ·exact⟨h,(j7 hb).1⟩
theorem V2{u v:List Nat}(h:Rws ps u v):EqR ps u v:=by
 induction h with
 | nil=>exact .refl _
 | cons s _ ih=>exact .trans (.one s) ih
theorem UT{l:List Nat}(G:OG l ws k)(hp:Dwn k l ws ps)(hm:Met ps){w u v v':List Nat}(hw:∀c ∈ w,c ∈ l)(he:EqR ps w u)(h1:Rws ps w v)(n1:∀p ∈ ps,¬ Within p.1 v)(h2:Rws ps u v')(n2:∀p ∈ ps,¬ Within p.1 v'):v'=v/\zK k l ws u v=sH:=by
 have hu:=(YZ hp he).mp hw
 have hv:=(Ze G hp h1 hw).1
 obtain⟨t,r1,r2⟩:=za7 G hp hm (.trans (.symm (V2 h1)) (.trans he (V2 h2))) hv
 have e:v'=v:=(Zo r2 n2).symm.trans (Zo r1 n1)
 subst e
 refine⟨rfl,Bool.eq_false_iff.mpr λhl=>?_⟩
 rcases (Ze G hp h2 hu).2 with e | e
 ·rw[e,ya] at hl
  cases hl
 ·have:=yI hl e
  rw[ya] at this
  cases this
theorem Kg{k n:Nat}{l:List Nat}{k1 es:List Ent}(h:Cpl k l ns n k1 (fEs rs rs.length) sG es):∀p ∈ rs,EqR (zd es) p.1 p.2:=λp hp=>by
 obtain⟨i,hi⟩:=List.mem_iff_getElem?.mp hp
 exact W8 (kr _) h rfl (λe he=>jX (p:=(e.1,e.2.1)) (List.mem_map.mpr ⟨e,he,rfl⟩)) (fE i p) (Vf hi (List.getElem?_eq_some_iff.mp hi).1)
theorem RkAt.updL{D R:oP}{xs ys:List V}{l:List Nat}{u:List Nat}(h:RkAt H R k l ws u)(hD:H D=sE (.lst xs))(hn:xs≠(xQ k l u).map V.int):RkAt (upd H D (.lst ys)) R k l ws u:=by
 obtain⟨R',h1,h2⟩:=h
 refine⟨R',?_,?_⟩
 ·rw[zo λe=>by rw[e,hD] at h1;cases h1]
  exact h1
 ·rw[zo λe=>hn (by rw[e,hD] at h2;cases h2;rfl)]
  exact h2
theorem Km{k:Nat}{l:List Nat}(G:OG l ws k){u v:List Nat}(hu:∀c ∈ u,c ∈ l)(h:zK k l ws u v=sG):[]≠(xQ k l v).map V.int:=λe=>by
 have e2:=congrArg eN e
 have e3:(xQ k l v).length=v.length:=by
  unfold xQ uC yw
  split <;> simp
 rw[af,e3] at e2
 have e4:v=[]:=List.length_eq_zero_iff.mp e2.symm
 subst e4
 by_cases hn:u=[]
 ·rw[hn,ya] at h
  cases h
 ·have:=(YC (k:=k) (l:=l) (ns:=ws) (t:=u) (u:=[]) (v:=[]) G hu (λd hd=>(nomatch hd)) (λd hd=>(nomatch hd)) (by simpa using hn)).1
  have:=yI h (by simpa using this)
  rw[ya] at this
  cases this
def Xi(K:oO)(T:oP):Sp:=λvs H Q _=>∃(a:oP) (ns:List Int),vs=[.ref a]/\SqL K H a (ns.map V.int)/\(∀z ∈ ns,uu z)/\H T=sE (.tbl #[])/\∀H',Q (.bl sG) H'
theorem gd:zr ["_law_script","_law_first","_law_kind","_law_letters_here","_law_weights","_law_count","_law_pacts","_law_found","_law_rules","_law_rule","_law_sides","_law_word_here","_law_form","_law_k","_law_met"] ["_law_script"] (zb ui):=⟨rfl,rfl,rfl,by decide +kernel,rfl,by decide +kernel,by decide +kernel⟩
theorem zaO{f CO CR CW TB:oP}(B:Bt mg)(hany:zcz mg)(F:Fun K "law" "law" ui f fd)(nq:Df P w K mg base CX0 1 "_law_cell" ["_law_script","_law_k"] [] (qf K))(om:Df P w K mg base CX0 2 "_law_letters" ["_law_cell_here","_law_many"] [] w4)(nX:Df P w K mg base CX0 10 "completed" ["order","pacts","rounds"] [] (V9 K CO CR CW TB))(ni:Df P w K mg base CX0 1 "_law_word" ["_law_number","_law_letters_here","_law_most"] [] qV)(oo:Df P w K mg base CX0 1 "_law_down" ["_law_rules","_law_word_here","_law_last"] [] (u8 K))(oF:Df P w K mg base CX0 2 "_law_pair" ["_law_cell_here","_law_letters_here","_law_most"] [] qy)(oz:Df P w K mg base CX0 6 "_law_order" ["_law_kind","_law_letters_here","_law_weights"] [] (jU K CO CR CW))(oG:Df P w K mg base CX0 4 "_law_told" ["_law_found"] [] (ku K))(ir:Df P w K mg base CX0 1 "_law_mixed" ["_law_cell_here","_law_turn"] [] wk)(oB:Df P w K mg base CX0 3 "_law_words" ["_law_pacts","_law_word_here","_law_cells"] [] (qc K))(nP:Df P w K mg base CX0 1 "_law_rank" ["_law_kind","_law_letters_here","_law_weights","_law_word_here"] [] vx):yg P w K mg base CX0 11 f fd ["_law_script"] (Xi K TB):=by
 refine F.ok gd (λvs H Q E h=>?_) (λcdv A outer s H vs Q E hr h=>?_)
 ·obtain⟨a,ns,rfl,_⟩:=h
  rfl
 ·obtain⟨a,ns,rfl,hS,hB,hT,q⟩:=h
  refine⟨_,(zi (zq (i:=1) gd.nd rfl (Or.inl rfl) (cl0 nq hr .nil rfl (za (pv 0) (za zg zc))))
   (zi (zq (i:=2) gd.nd rfl (Or.inr rfl) (zE xL (pv 1) zg))
   (zi (zq (i:=3) gd.nd rfl (Or.inr rfl) (cl0 om hr .nil rfl (za (pv 1) (za zg zc))))
   (zi (zq (i:=4) gd.nd rfl (Or.inr rfl) (vg (za (zE op_add zg (zE xL (zE wG (pv 1) zg) zg)) (za (zE op_add zg (zE xL (zE wG (pv 1) zg) zg)) zc))))
   (zi (zq (i:=5) gd.nd rfl (Or.inl rfl) (cl0 nq hr .nil rfl (za (pv 0) (za zg zc))))
   (zi (wq (i:=6) gd.nd rfl (Or.inl rfl) (Or.inl rfl) (own:=["_law_k"]) (caps:=["_law_script","_law_letters_here"]) (ix:=[0,3]) (tt:=wx) (te:=(qi qy [] E0 (zN (qi (qf K) [] E0 (zN (yS 1) (zN (tOp Qv (tC (.int 2)) (yS 0)) ww))) (zN (yS 2) (zN (tC (.int 3)) ww))))) rfl (zP (sc:=zb ui) rfl (by decide +kernel) (by decide +kernel) (by decide +kernel) rfl (by decide +kernel) (by decide +kernel) rfl) (xo rfl B.range (za (zE op_add zg (zE xL (pv 5) zg)) zc)) (λ_ _ _ _ _ _=>zB (i:=0) (show List.Nodup [_,_,_] by decide) rfl (Or.inl rfl)) (λ_ _ _ _ _ _=>yE) (λ_ _ _ _ _ _=>(cl0 oF hr .nil rfl (za (cl0 nq hr .nil rfl (za (pv 1) (za (zE qL zg (pv 0)) zc))) (za (pv 2) (za zg zc))))))
   (zi (zq (i:=7) gd.nd rfl (Or.inl rfl) (cl0 nX hr .nil rfl (za (cl0 oz hr .nil rfl (za (pv 2) (za (pv 3) (za (pv 4) zc)))) (za (wN xN rfl B.list PySem.Pv.boot_list (za (pv 6) zc)) (za (zE op_add zg (zE xL (zE wG (pv 5) zg) zg)) zc)))))
   (zi (zW (yn (xn (cl0 oG hr .nil rfl (za (pv 7) zc)) (λ_=>rfl)))
    (zh (zv yG))
    zC)
   (zi (wq (i:=8) gd.nd rfl (Or.inl rfl) (Or.inl rfl) (own:=["_law_entry"]) (caps:=[]) (ix:=[]) (tt:=wx) (te:=(UN (zN (tOp (qI K) (yS 0) (tC (.int 0))) (zN (tOp (qI K) (yS 0) (tC (.int 1))) ww)))) rfl (zP (sc:=zb ui) rfl (by decide +kernel) (by decide +kernel) (by decide +kernel) rfl (by decide +kernel) (by decide +kernel) rfl) (yF (zx ix_tup (pv 7) zg (λ_ _=>rfl))) (λ_ _ _ _ _ _=>zB (i:=0) (show List.Nodup [_] by decide) rfl (Or.inl rfl)) (λ_ _ _ _ _ _=>yE) (λ_ _ _ _ _ _=>(yh (za (zx ix_tup (pv 0) zg (λ_ _=>rfl)) (za (zx ix_tup (pv 0) zg (λ_ _=>rfl)) zc)))))
   (zi (yA PassesOwn.never rfl (yF (pv 8)) (zB (i:=9) gd.nd rfl (Or.inl rfl))
    (zi (zW (xn (zt (zbl rfl) rfl hany eY (za (xh (own:=["_law_sign"]) (caps:=["_law_letters_here"]) (ix:=[3]) (tt:=wx) (te:=(tOp zbN (yS 0) (yS 1))) rfl (zP (sc:=zb ui) rfl (by decide +kernel) (by decide +kernel) (by decide +kernel) rfl (by decide +kernel) (by decide +kernel) rfl) (Zw (zE op_add_str (zx ix_tup (pv 9) zg (λ_ _=>rfl)) (zx ix_tup (pv 9) zg (λ_ _=>rfl)))) (λ_ _ _ _ _ _=>zB (i:=0) (show List.Nodup [_,_] by decide) rfl (Or.inl rfl)) (λ_ _ _ _ _ _=>yE) (λ_ _ _ _ _ _=>(vv zbk (pv 0) (pv 1) (by with_unfolding_all rfl)))) zc)) (λ_=>rfl))
     (zh (zv yG))
     zC)
    (zi (wq (i:=10) gd.nd rfl (Or.inl rfl) (Or.inl rfl) (own:=["_law_side"]) (caps:=["_law_kind","_law_letters_here","_law_weights"]) (ix:=[2,3,4]) (tt:=wx) (te:=(qi vx [] E0 (zN (yS 1) (zN (yS 2) (zN (yS 3) (zN (yS 0) ww)))))) rfl (zP (sc:=zb ui) rfl (by decide +kernel) (by decide +kernel) (by decide +kernel) rfl (by decide +kernel) (by decide +kernel) rfl) (Q6 (pv 9)) (λ_ _ _ _ _ _=>zB (i:=0) (show List.Nodup [_,_,_,_] by decide) rfl (Or.inl rfl)) (λ_ _ _ _ _ _=>yE) (λ_ _ _ _ _ _=>(cl0 nP hr .nil rfl (za (pv 1) (za (pv 2) (za (pv 3) (za (pv 0) zc)))))))
    (zh (zW (yn (zI (VW (jP hr)) (zx ix_list (pv 10) zg (λ_ _=>rfl)) (zx ix_list (pv 10) zg (λ_ _=>rfl)) (zL _)))
     (zh (zv yG))
     zC)))))
   (zi (zW (yn (xn (zx ix_tup (pv 7) zg (λ_ _=>rfl)) (λ_=>rfl)))
    (zh (zv yG))
    zC)
   (zi (zq (i:=11) gd.nd rfl (Or.inl rfl) (cl0 ni hr .nil rfl (za (cl0 ir hr .nil rfl (za (cl0 nq hr .nil rfl (za (pv 0) (za zg zc))) (za zg zc))) (za (pv 3) (za zg zc)))))
   (zi (zq (i:=12) gd.nd rfl (Or.inl rfl) (cl0 oo hr .nil rfl (za (pv 8) (za (pv 11) (za yG zc)))))
   (zi (yA PassesOwn.never rfl (wd rfl B.enum (za (cl0 oB hr .nil rfl (za (pv 6) (za (pv 11) (za (yl sl_list (pv 0) (yj zg) (yj zg)) zc)))) zc)) (uA (n:=2) rfl (yd (zB (i:=13) gd.nd rfl (Or.inl rfl)) (yd (zB (i:=14) gd.nd rfl (Or.inl rfl)) wy)))
    (zi (zW (zI XR (cl0 oo hr .nil rfl (za (pv 8) (za (pv 14) (za (vv uL (zE xL (pv 13) zg) zg (zL _)) zc)))) (pv 12) (zL _))
     (zh (zv yG))
     zC)
    (zh (zW (zI (VW (jP hr)) (cl0 nP hr .nil rfl (za (pv 2) (za (pv 3) (za (pv 4) (za (pv 14) zc))))) (cl0 nP hr .nil rfl (za (pv 2) (za (pv 3) (za (pv 4) (za (pv 12) zc))))) (zL _))
     (zh (zv yG))
     zC))))
   (zh (zv yG)))))))))))))))),?_⟩
  have s16:=yk
  have s16:=yk
  have hTab:TabOk H TB lp lq:=⟨#[],hT,trivial,.inl rfl⟩
  refine zj (λσ H'=>H'=H/\∃z:Int,uu z/\σ=[sE (.ref a),sE (.int z),sF,sF,sF,sF,sF,sF,sF,sF,sF,sF,sF,sF,sF]) ?_ ?_
  ·rfl'
   exact qd hS hB (by decide) λc hc=>⟨rfl,c,hc,rfl⟩
  rintro σ H1 ⟨rfl,z,hz,rfl⟩
  refine zj (λσ H'=>H'=H1/\∃k:Int,(0<=k/\k<3)/\σ=[sE (.ref a),sE (.int z),sE (.int k),sF,sF,sF,sF,sF,sF,sF,sF,sF,sF,sF,sF]) ?_ ?_
  ·rfl'
   exact⟨by decide,z % 3,bt z (by decide),bu z (by decide),rfl⟩
  rintro σ H1 ⟨rfl,k,⟨k0,k3⟩,rfl⟩
  refine zj (λσ H'=>H'=H1/\∃l:List Nat,(j4 l=sG/\l.length=2)/\σ=[sE (.ref a),sE (.int z),sE (.int k),sE (.str (tx l)),sF,sF,sF,sF,sF,sF,sF,sF,sF,sF,sF]) ?_ ?_
  ·rfl'
   exact Yn hz (by decide) (by decide) λl h1 h2 h3=>⟨rfl,l,decide_eq_true ⟨by lia,by lia,h3,h2⟩,by lia,rfl⟩
  rintro σ H1 ⟨rfl,l,⟨hg,hl2⟩,rfl⟩
  refine zj (λσ H'=>Same H1 H'/\∃(ws:List Int) (W:oP),(H' W=sE (.lst (ws.map V.int))/\ws.length=l.length/\(∀n ∈ ws,1<=n/\n<=1000000)/\∀n ∈ ws,n<=3)/\σ=[sE (.ref a),sE (.int z),sE (.int k),sE (.str (tx l)),sE (.ref W),sF,sF,sF,sF,sF,sF,sF,sF,sF,sF]) ?_ ?_
  ·rfl'
   have a0:=bt (z / 3) (b:=3) (by decide)
   have a1:=bu (z / 3) (b:=3) (by decide)
   have b0:=bt (z / 9) (b:=3) (by decide)
   have b1:=bu (z / 9) (b:=3) (by decide)
   refine⟨⟨by decide,by decide⟩,by decide,⟨by decide,by decide⟩,by decide,by lia,λp hp=>⟨zf hp,[1+z / 3 % 3,1+z / 9 % 3],p,ze,by rw[hl2];rfl,λn hn=>?_,λn hn=>?_,rfl⟩⟩
   all_goals
    simp only[dw,eC,or_false] at hn
    lia
  rintro σ H2 ⟨s2,ws,W,⟨hW,hwl,hwb,hw3⟩,rfl⟩
  have hG:OG l ws k.toNat:=⟨hg,by lia,hwl,hwb⟩
  have hS2:=s2.seq hS
  refine zj (λσ H'=>H'=H2/\∃n:Int,σ=[sE (.ref a),sE (.int z),sE (.int k),sE (.str (tx l)),sE (.ref W),sE (.int n),sF,sF,sF,sF,sF,sF,sF,sF,sF]) ?_ ?_
  ·rfl'
   exact qd hS2 hB (by decide) λn _=>⟨rfl,n,rfl⟩
  rintro σ H2 ⟨rfl,n,rfl⟩
  refine zj (λσ H'=>Same H2 H'/\∃pa:oP,(∃rs,LsA K H' pa (rs.map dR)/\PG l rs)/\σ=[sE (.ref a),sE (.int z),sE (.int k),sE (.str (tx l)),sE (.ref W),sE (.int n),sE (.ref pa),sF,sF,sF,sF,sF,sF,sF,sF]) ?_ ?_
  ·rfl'
   have e0:=bt n (b:=3) (by decide)
   have e1:=bu n (b:=3) (by decide)
   refine⟨by decide,by lia,by lia,λD hD=>CompR.by (λi sK H'=>Same H2 H'/\H' D=sE (.lst sK)/\∃rs:List zw,Iss K H' (rs.map dR) sK/\rs.length=i/\∀r ∈ rs,r.1.length<=3/\r.2.length<=3/\(∀x ∈ r.1,x ∈ l)/\∀x ∈ r.2,x ∈ l) ⟨zf hD,ze,[],by simp only[aP,Iss],rfl,λr h=>(nomatch h)⟩ ?_ ?_⟩
   ·rintro i sK H' hi ⟨hs,hH,rs,hI,hrl,hrb⟩
    have hal:=hI.len
    rw[af] at hal
    have hi4:i<5:=by lia
    simp only[wx]
    rfl'
    refine⟨xl,qd (hs.seq hS2) hB (by lia) λc3 hc3=>QB hc3 (by lia) (by lia) (by decide) (by decide) λo n p ho hn mo mn hp=>⟨zf hp _ _ hH,by lia,CNx.mk hi ⟨zG (hs.trans (zf hp)) hD,ze,rs ++ [(o,n)],?_,by rw[am,hrl];rfl,λr hr'=>?_⟩⟩⟩
    ·rw[aE]
     exact vD hH hI hp J0 (kq rs) (by simp only[zZ,xv,and_self])
    ·rcases List.mem_append.mp hr' with h | h
     ·exact hrb r h
     ·rw[List.mem_singleton.mp h]
      exact⟨by show o.length<=3;lia,by show n.length<=3;lia,mo,mn⟩
   ·rintro sK H' ⟨hs,hH,rs,hI,hrl,hrb⟩
    exact⟨hs,D,⟨rs,⟨sK,hH,hI⟩,by lia,by lia,hrb⟩,rfl⟩
  rintro σ H3 ⟨s3,pa,⟨rs,hP,hPG⟩,rfl⟩
  have hTab3:=hTab.same (s2.trans s3)
  obtain⟨tp,htp,_⟩:=id hTab3
  have hS3:=s3.seq hS2
  refine zj (λσ H'=>SamT TB H3 H'/\∃(fp D:oP) (w:Bool) (es:List Ent),Tld K H' k.toNat l ws rs fp w D es/\σ=[sE (.ref a),sE (.int z),sE (.int k),sE (.str (tx l)),sE (.ref W),sE (.int n),sE (.ref pa),sE (.ref fp),sF,sF,sF,sF,sF,sF,sF]) ?_ ?_
  ·ac_rfl
   have hag:=hPG.ag
   have hpn:=hPG.n
   have hpp:=hPG.p
   have c0:=bt (n / 3) (b:=3) (by decide)
   have c1:=bu (n / 3) (b:=3) (by decide)
   refine⟨k,l,W,ws,rfl,k0,k3,hg,s3 _ _ hW,hwl,hwb,λo H4 s4 ho=>?_⟩
   obtain⟨px6,hPx6,hPi6⟩:=hP.same s4
   refine⟨_,.inl (SqL.of hPx6),λhd hh=>⟨⟨by decide,by decide⟩,by decide,?_⟩⟩
   rw[show 1+n / 3 % 3=((1+n / 3 % 3).toNat:Int) by lia]
   exact⟨o,hd,k.toNat,l,ws,rs,_,rfl,OrdAt.same ho (zf hh),hG,⟨px6,ze,Iss.same (zf hh) _ _ hPi6⟩,by lia,λp hp=>⟨aR (hag.1 p hp).a (by decide),aR (hag.1 p hp).b (by decide),(hag.1 p hp).ma,(hag.1 p hp).mb⟩,λp hp=>⟨(hag.1 p hp).a,(hag.1 p hp).b⟩,by lia,hTab3.same (s4.trans (zf hh)),λw es p D H' hC hBG hs hTk hp hM=>⟨(SamT.of (s4.trans (zf hh))).trans hs,p,⟨D,w,es,hp,hM,zay hG hC hag.eb (λe he=>Qt he) ⟨λe he=>(nomatch he),.inl rfl⟩,_,hC⟩,rfl⟩⟩
  rintro σ H4 ⟨s4,fp,D,wh,es,t,rfl⟩
  refine zj (λσ H'=>H'=H4/\σ=[sE (.ref a),sE (.int z),sE (.int k),sE (.str (tx l)),sE (.ref W),sE (.int n),sE (.ref pa),sE (.ref fp),sF,sF,sF,sF,sF,sF,sF]) ?_ ?_
  ·ac_rfl
   exact⟨fp,D,wh,es,rfl,t.1,t.2.1.l,sG,rfl,xp (λe=>by cases e) λ_=>rfl⟩
  rintro σ H5 ⟨rfl,rfl⟩
  refine zj (λσ H'=>Same H5 H'/\∃R:oP,LsA K H' R ((zd es).map dR)/\σ=[sE (.ref a),sE (.int z),sE (.int k),sE (.str (tx l)),sE (.ref W),sE (.int n),sE (.ref pa),sE (.ref fp),sE (.ref R),sF,sF,sF,sF,sF,sF]) ?_ ?_
  ·ac_rfl
   obtain⟨xe,hXe,hEn⟩:=id t.2.1
   have hxl:=hEn.len
   have hpl:=qj es
   have hle:=t.thin.2
   refine⟨_,SqT.of t.1,_,rfl,D,rfl,⟨_,SqL.of hXe⟩,λD7 hD=>CompL.by (xs:=xe) (λi sK H'=>Same H5 H'/\H' D7=sE (.lst sK)/\Iss K H' (((zd es).take i).map dR) sK) ⟨zf hD,ze,by simp only[bI,aP,Iss]⟩ (λi sK H' _ h=>SqL.of (h.1 _ _ hXe)) ?_ ?_⟩
   ·rintro i x sK H' hx ⟨hs,hH,hA⟩
    have hi:=(List.getElem?_eq_some_iff.mp hx).1
    obtain⟨e,pe,se,hei,rfl,hqe,_⟩:=hEn.get hx
    have hm:(zd es)[i]? = sE (e.1,e.2.1):=by unfold zd;rw[aH,hei];rfl
    have hal:=hA.len
    rw[af,aK] at hal
    simp only[wx]
    rfl'
    refine⟨xl,_,zm hs hqe,_,rfl,_,zm hs hqe,_,rfl,by lia,λp hp=>⟨zf hp _ _ hH,by lia,CNx.mk hi ⟨zG (hs.trans (zf hp)) hD,ze,?_⟩⟩⟩
    rw[zU hm,aE]
    exact vD hH hA hp J0 (kq _) (by simp only[zZ,xv,and_self])
   ·rintro sK H' ⟨hs,hH,hA⟩
    rw[hxl,<- hpl,aQ] at hA
    exact⟨hs,D7,⟨sK,hH,hA⟩,rfl⟩
  rintro σ H6 ⟨s6,R,hR,rfl⟩
  obtain⟨htt,hel⟩:=t.thin
  have hD:=htt.rl.pairs
  have hb60:∀p ∈ zd es,p.1.length<=60/\p.2.length<=60:=λp hp=>by
   obtain⟨e,he,rfl⟩:=List.mem_map.mp hp
   have:=htt.rl.e e he
   exact⟨this.a,this.b⟩
  obtain⟨xr,hXr,hIr⟩:=id hR
  have hrl:=hIr.len
  rw[af] at hrl
  have hW6:H6 W=sE (.lst (ws.map V.int)):=s6 _ _ (s4.at htp (s3 _ _ hW) (λ_ z=>by cases z))
  refine zj (λσ H'=>Same H6 H'/\∃v9 v10:Option V,σ=[sE (.ref a),sE (.int z),sE (.int k),sE (.str (tx l)),sE (.ref W),sE (.int n),sE (.ref pa),sE (.ref fp),sE (.ref R),v9,v10,sF,sF,sF,sF]) ?_ ?_
  ·rfl'
   refine⟨⟨_,SqL.of hXr⟩,ForL.by (xs:=xr) (λi σ H'=>Same H6 H'/\∃v9 v10:Option V,σ=[sE (.ref a),sE (.int z),sE (.int k),sE (.str (tx l)),sE (.ref W),sE (.int n),sE (.ref pa),sE (.ref fp),sE (.ref R),v9,v10,sF,sF,sF,sF]) ⟨Same.refl _,sF,sF,rfl⟩ (λi σ H' _ h=>SqL.of (h.1 _ _ hXr)) ?_ λσ H' h=>h⟩
   rintro i x σ H7 hx ⟨s7,v9,v10,rfl⟩
   obtain⟨r,p,hr,rfl,hsq⟩:=hIr.getR hx
   have hrm:r ∈ zd es:=ae hr
   obtain⟨d1,d2,d3⟩:=hD r hrm
   obtain⟨b1,b2⟩:=hb60 r hrm
   have hq7:=zm s7 hsq
   simp only[xu,bg,bf]
   refine zj (λσ H'=>Same H7 H'/\σ=[sE (.ref a),sE (.int z),sE (.int k),sE (.str (tx l)),sE (.ref W),sE (.int n),sE (.ref pa),sE (.ref fp),sE (.ref R),sE (.ref p),v10,sF,sF,sF,sF]) ?_ ?_
   ·rfl'
    refine⟨_,hq7,_,rfl,_,hq7,_,rfl,_,rfl,_,rfl,by rw[zR,zR];lia,λA2 hA2=>?_⟩
    rw[x0]
    have hmem:∀x ∈ r.1 ++ r.2,x ∈ l:=λx hx=>(List.mem_append.mp hx).elim (d2 x) (d3 x)
    have hfl:(r.1 ++ r.2).length<=120:=by rw[am];lia
    generalize r.1 ++ r.2=fl at hmem hfl ⊢
    refine CompS.by (λi sK H''=>Same H7 H''/\H'' A2=sE (.lst sK)/\sK=(aZ i sH).map V.bl) ⟨zf hA2,ze,rfl⟩ ?_ ?_
    ·rintro i c2 sK H'' hc2 ⟨hs2,hH2,rfl⟩
     have hci:=(List.getElem?_eq_some_iff.mp hc2).1
     have hcl:=hmem c2 (ae hc2)
     simp only[wx]
     rfl'
     refine⟨xl,hH2,by rw[af,bU];lia,CNx.mk hci ⟨zG hs2 hA2,ze,?_⟩⟩
     rw[List.replicate_succ',aE]
     simp [hcl]
    ·rintro sK H'' ⟨hs2,hH2,rfl⟩
     refine⟨A2,aZ fl.length sH,rfl,SqL.of hH2,sH,by simp,?_⟩
     rw[if_neg (by decide)]
     exact hs2
   rintro σ H8 ⟨s8,rfl⟩
   refine zj (λσ H'=>Same H8 H'/\∃S R1 R2:oP,(H' S=sE (.lst [.ref R1,.ref R2])/\RkAt H' R1 k.toNat l ws r.1/\RkAt H' R2 k.toNat l ws r.2)/\σ=[sE (.ref a),sE (.int z),sE (.int k),sE (.str (tx l)),sE (.ref W),sE (.int n),sE (.ref pa),sE (.ref fp),sE (.ref R),sE (.ref p),sE (.ref S),sF,sF,sF,sF]) ?_ ?_
   ·simp only[jW]
    rw[zb1]
    rfl'
    have hq8:=zm s8 hq7
    have hW8:H8 W=sE (.lst (ws.map V.int)):=(s7.trans s8) _ _ hW6
    refine⟨⟨_,hq8⟩,λA2 hA2=>CompT.by (xs:=[.str (tx r.1),.str (tx r.2)]) (λi sK H'=>Same H8 H'/\H' A2=sE (.lst sK)/\∃R1 R2:oP,sK=[V.ref R1,V.ref R2].take i/\(1<=i->RkAt H' R1 k.toNat l ws r.1)/\(2<=i->RkAt H' R2 k.toNat l ws r.2)) ⟨zf hA2,ze,0,0,rfl,λh=>by lia,λh=>by lia⟩ (λi sK H' _ h=>zm h.1 hq8) ?_ ?_⟩
    ·rintro i x sK H' hx ⟨hs,hH,R1,R2,rfl,h1,h2⟩
     have hi:=(List.getElem?_eq_some_iff.mp hx).1
     rcases (show i=0\/i=1 by simp only[aM,cb] at hi;lia) with rfl | rfl
     ·cases hx
      simp only[wx]
      rfl'
      refine⟨xl,vw k0 k3 hg (hs _ _ hW8) hwl hwb (by lia) d2 λP1 P2 H'' s'' p1 p2=>⟨s'' _ _ hH,by show 0<oN;lia,CNx.mk hi ⟨zG (hs.trans s'') hA2,ze,P1,0,rfl,λ_=>RkAt.updL ⟨P2,p1,p2⟩ (s'' _ _ hH) (Km hG d3 d1),λh=>by lia⟩⟩⟩
     ·cases hx
      simp only[wx]
      rfl'
      have hr1:=h1 (aq _)
      refine⟨xl,vw k0 k3 hg (hs _ _ hW8) hwl hwb (by lia) d3 λP1 P2 H'' s'' p1 p2=>⟨s'' _ _ hH,by show 1<oN;lia,CNx.mk hi ⟨zG (hs.trans s'') hA2,ze,R1,P1,rfl,λ_=>(hr1.same s'').updL (s'' _ _ hH) (λe=>?_),λ_=>RkAt.updL ⟨P2,p1,p2⟩ (s'' _ _ hH) λe=>?_⟩⟩⟩
      all_goals
       have:=congrArg List.head? e
       rw[List.head?_map] at this
       cases hh:(xQ k.toNat l _).head? with
       | none=>rw[hh] at this;cases this
       | some _=>rw[hh] at this;cases this
    ·rintro sK H' ⟨hs,hH,R1,R2,rfl,h1,h2⟩
     exact⟨hs,A2,R1,R2,hH,h1 (by simp),h2 (by simp),rfl⟩
   rintro σ H9 ⟨s9,S,R1,R2,⟨hS9,hR1,hR2⟩,rfl⟩
   rfl'
   refine⟨_,SqL.of hS9,_,rfl,_,SqL.of hS9,_,rfl,RkAt.lt hR2 hR1 ?_⟩
   rw[d1]
   refine⟨sG,rfl,?_⟩
   rw[if_neg (by decide)]
   exact s7.trans (s8.trans s9)
  rintro σ H7 ⟨s7,v9,v10,rfl⟩
  refine zj (λσ H'=>H'=H7/\wh=sG/\σ=[sE (.ref a),sE (.int z),sE (.int k),sE (.str (tx l)),sE (.ref W),sE (.int n),sE (.ref pa),sE (.ref fp),sE (.ref R),v9,v10,sF,sF,sF,sF]) ?_ ?_
  ·rfl'
   exact⟨_,SqT.of ((s6.trans s7) _ _ t.1),_,rfl,_,rfl,xp (λ_=>q _) λh=>by simpa using h⟩
  rintro σ H7 ⟨rfl,rfl,rfl⟩
  obtain⟨m,hC⟩:=t.2.2.2
  have hmet:=Kp hC rfl
  have hkey:=Kg hC
  have hS7:=(s6.trans s7).seq (s4.seqL htp hS3)
  have hR7:=hR.same s7
  have hP7:=(hP.samT s4 htp).same (s6.trans s7)
  have hW7:=s7 _ _ hW6
  refine zj (λσ H'=>H'=H7/\∃w:List Nat,(w.length<=5/\∀c ∈ w,c ∈ l)/\σ=[sE (.ref a),sE (.int z),sE (.int k),sE (.str (tx l)),sE (.ref W),sE (.int n),sE (.ref pa),sE (.ref fp),sE (.ref R),v9,v10,sE (.str (tx w)),sF,sF,sF]) ?_ ?_
  ·rfl'
   exact qd hS7 hB (by decide) λc hc=>wA hc (by decide) (by decide) λz hz=>j9 hz (by lia) (by lia) (by decide) (by decide) λw h1 h2=>⟨rfl,w,by lia,h2,rfl⟩
  rintro σ H7 ⟨rfl,w,⟨hw5,hwi⟩,rfl⟩
  refine zj (λσ H'=>H'=H7/\∃v:List Nat,(Rws (zd es) w v/\∀p ∈ zd es,¬ Within p.1 v)/\σ=[sE (.ref a),sE (.int z),sE (.int k),sE (.str (tx l)),sE (.ref W),sE (.int n),sE (.ref pa),sE (.ref fp),sE (.ref R),v9,v10,sE (.str (tx w)),sE (.str (tx v)),sF,sF]) ?_ ?_
  ·rfl'
   exact ZT hR7 hG hw3 hD (λp hp=>(hb60 p hp).2) hwi hw5 λv h1 h2=>⟨rfl,v,h1,h2,rfl⟩
  rintro σ H7 ⟨rfl,v,⟨hv,hvn⟩,rfl⟩
  refine zj (λσ H'=>True) ?_ λ_ _ _=>by
   rfl'
   exact q _
  rfl'
  refine⟨_,hS7,λp hp=>?_⟩
  rw[VB ns (by decide) (by decide)]
  have hcb:∀z ∈ (ns.drop (6:Int).toNat).take ((63:Int) - 6).toNat,uu z:=λz hz=>hB z (cj (br hz))
  have hcl:((ns.drop (6:Int).toNat).take ((63:Int) - 6).toNat).length<=57:=by rw[aK];exact Nat.min_le_left _ _
  generalize (ns.drop (6:Int).toNat).take ((63:Int) - 6).toNat=cs at hcb hcl ⊢
  have sp:=zf (o:=.lst (cs.map V.int)) hp
  refine WX (hP7.same sp).is hPG.ok hw5 (SqL.of ze) hcb (by lia) λU H8 us hU s8 hL8 hm8=>⟨U,rfl,⟨_,SqL.of hL8⟩,?_⟩
  have s78:=sp.trans s8
  refine ForEL.by (xs:=us.map wV) (λi σ H'=>Same H8 H'/\∃v13 v14:Option V,σ=[sE (.ref a),sE (.int z),sE (.int k),sE (.str (tx l)),sE (.ref W),sE (.int n),sE (.ref pa),sE (.ref fp),sE (.ref R),v9,v10,sE (.str (tx w)),sE (.str (tx v)),v13,v14]) ⟨Same.refl _,sF,sF,rfl⟩ (λi σ H' _ h=>SqL.of (h.1 _ _ hL8)) ?_ λ_ _ _=>trivial
  rintro i x σ H9 p9 hx ⟨s9,v13,v14,rfl⟩ hp9
  rw[aH] at hx
  obtain⟨u,hu,rfl⟩:=Option.map_eq_some_iff.mp hx
  obtain⟨hu5,hue⟩:=hm8.2 u (ae hu)
  have hup:=JX (kr _) hkey hue
  have hui:=(YZ hD hup).mp hwi
  have s10:=s9.trans (zf (o:=.tup [.int (i:Nat),wV u]) hp9)
  rfl'
  refine⟨_,SqT.of ze,rfl,_,_,rfl,_,_,rfl,rfl,?_⟩
  generalize upd H9 p9 (.tup [.int (i:Nat),wV u])=H10 at s10
  refine zj (λσ H'=>H'=H10/\zK k.toNat l ws u v=sH/\σ=[sE (.ref a),sE (.int z),sE (.int k),sE (.str (tx l)),sE (.ref W),sE (.int n),sE (.ref pa),sE (.ref fp),sE (.ref R),v9,v10,sE (.str (tx w)),sE (.str (tx v)),sE (.int (i:Nat)),sE (.str (tx u))]) ?_ ?_
  ·rfl'
   refine⟨by decide,ZT (hR7.same (s78.trans s10)) hG hw3 hD (λp hp=>(hb60 p hp).2) hui hu5 λv' h1 h2=>?_⟩
   obtain⟨rfl,hlt⟩:=UT hG hD hmet hwi hup hv hvn h1 h2
   exact⟨rfl,by rw[if_neg (λh=>h rfl)];exact⟨rfl,hlt⟩⟩
  rintro σ H11 ⟨rfl,hlt,rfl⟩
  rfl'
  have hvl:v.length<=15:=by
   obtain⟨v1,v2⟩:=Ze hG hD hv hwi
   have h1:=Y0 hG v1
   have h2:=Ub hG hw3 hwi
   have h4:zk k.toNat l ws v<=zk k.toNat l ws w:=by
    rcases v2 with e | h
    ·rw[e]
     exact dv _
    ·exact kn h
   lia
  have hW11:=(s78.trans s10) _ _ hW7
  refine vw k0 k3 hg hW11 hwl hwb (by lia) hui λP1 P2 H12 s12 p1 p2=>vw k0 k3 hg (s12 _ _ hW11) hwl hwb (by lia) (Ze hG hD hv hwi).1 λQ1 Q2 H13 s13 q1 q2=>RkAt.lt ⟨P2,s13 _ _ p1,s13 _ _ p2⟩ ⟨Q2,q1,q2⟩ ?_
  rw[hlt]
  refine⟨sH,rfl,?_⟩
  rw[if_neg (by decide)]
  exact s10.trans (s12.trans s13)
end
theorem Z0{us:List oQ}(h:us.length=1):∃a,us=[a]:=List.length_eq_one_iff.mp h
theorem uw{us:List oQ}(h:us.length=2):∃a0 a1,us=[a0,a1]:=by
 cases us with
 | nil=>cases h
 | cons a r =>
  obtain⟨a1,rfl⟩:=Z0 (Nat.succ.inj h)
  exact⟨a,a1,rfl⟩
theorem ZZ{us:List oQ}(h:us.length=3):∃a0 a1 a2,us=[a0,a1,a2]:=by
 cases us with
 | nil=>cases h
 | cons a r =>
  obtain⟨a1,a2,rfl⟩:=uw (Nat.succ.inj h)
  exact⟨a,a1,a2,rfl⟩
theorem KZ{us:List oQ}(h:us.length=4):∃a0 a1 a2 a3,us=[a0,a1,a2,a3]:=by
 cases us with
 | nil=>cases h
 | cons a r =>
  obtain⟨a1,a2,a3,rfl⟩:=ZZ (Nat.succ.inj h)
  exact⟨a,a1,a2,a3,rfl⟩
theorem zdp{us:List oQ}(h:us.length=5):∃a0 a1 a2 a3 a4,us=[a0,a1,a2,a3,a4]:=by
 cases us with
 | nil=>cases h
 | cons a r =>
  obtain⟨a1,a2,a3,a4,rfl⟩:=KZ (Nat.succ.inj h)
  exact⟨a,a1,a2,a3,a4,rfl⟩
theorem zc2{us:List oQ}(h:us.length=6):∃a0 a1 a2 a3 a4 a5,us=[a0,a1,a2,a3,a4,a5]:=by
 cases us with
 | nil=>cases h
 | cons a r =>
  obtain⟨a1,a2,a3,a4,a5,rfl⟩:=zdp (Nat.succ.inj h)
  exact⟨a,a1,a2,a3,a4,a5,rfl⟩
theorem zds{us:List oQ}(h:us.length=7):∃a0 a1 a2 a3 a4 a5 a6,us=[a0,a1,a2,a3,a4,a5,a6]:=by
 cases us with
 | nil=>cases h
 | cons a r =>
  obtain⟨a1,a2,a3,a4,a5,a6,rfl⟩:=zc2 (Nat.succ.inj h)
  exact⟨a,a1,a2,a3,a4,a5,a6,rfl⟩
theorem all_mk{l:PySem.W.OpenLaw}{w:oX}{K:oO}{h:pb}{mg:oW->Option oQ}{fa f0 f1 f2 f3 f4 f5 f6 f7 f8 f9 f10 f11 f12 f13 f14 f15 f16 f17 f18 f19 f20 f21 f22 f23 f24 f25 f26 f27 f28 f29 f30 f31 f32 f33 f34 f35 f36 f37 f38 f39 f40 f41 f42 f43 f44 f45 nE fQ fV fM fL fJ fO fP fW fN:oP}{cc TB:oP}(X:K.In h)(G:h.Ns oK mg)(hfa:mg "law" = sE (.ref fa))(hlam:∃a o fd,mg "in_order" = sE (.ref a)/\h.get? a=sE o/\o.data=.func fd/\fd.code=.ref cc)(hgT:oK≠TB)
{od0 an0 od1 an1 od2 an2 od3 an3 od4 an4 od5 an5 od6 an6 od7 an7 od8 an8 od9 an9 od10 an10 od11 an11 od12 an12 od13 an13 od14 an14 od15 an15 od16 an16 od17 an17 od18 an18 od19 an19 od20 an20 od21 an21 od22 an22 od23 an23 od24 an24 od25 an25 od26 an26 od27 an27 od28 an28 od29 an29 od30 an30 od31 an31 od32 an32 od33 an33 od34 an34 od35 an35 od36 an36 od37 an37 od38 an38 od39 an39 od40 an40 od41 an41 od42 an42 od43 an43 od44 an44 od45 an45:Option oP}{sl0 sl1 sl2 sl3 sl4 sl5 sl6 sl7 sl8 sl9 sl10 sl11 sl12 sl13 sl14 sl15 yk sl17 sl18 sl19 sl20 sl21 sl22 sl23 sl24 sl25 sl26 sl27 sl28 sl29 sl30 sl31 sl32 sl33 sl34 sl35 sl36 sl37 sl38 sl39 sl40 sl41 sl42 sl43 sl44 sl45:Array (Option oQ)}{oc0 kV0 dc0 pm0 cd0 ct0 oc1 kV1 dc1 pm1 cd1 ct1 oc2 kV2 dc2 pm2 cd2 ct2 oc3 kV3 dc3 pm3 cd3 ct3 oc4 kV4 dc4 pm4 cd4 ct4 oc5 kV5 dc5 pm5 cd5 ct5 oc6 kV6 dc6 pm6 cd6 ct6 oc7 kV7 dc7 pm7 cd7 ct7 oc8 kV8 dc8 pm8 cd8 ct8 oc9 kV9 dc9 pm9 cd9 ct9 oc10 kV10 dc10 pm10 cd10 ct10 oc11 kV11 dc11 pm11 cd11 ct11 oc12 kV12 dc12 pm12 cd12 ct12 oc13 kV13 dc13 pm13 cd13 ct13 oc14 kV14 dc14 pm14 cd14 ct14 oc15 kV15 dc15 pm15 cd15 ct15 oc16 kV16 dc16 pm16 cd16 ct16 oc17 kV17 dc17 pm17 cd17 ct17 oc18 kV18 dc18 pm18 cd18 ct18 oc19 kV19 dc19 pm19 cd19 ct19 oc20 kV20 dc20 pm20 cd20 ct20 oc21 kV21 dc21 pm21 cd21 ct21 oc22 kV22 dc22 pm22 cd22 ct22 oc23 kV23 dc23 pm23 cd23 ct23 oc24 kV24 dc24 pm24 cd24 ct24 oc25 kV25 dc25 pm25 cd25 ct25 oc26 kV26 dc26 pm26 cd26 ct26 oc27 kV27 dc27 pm27 cd27 ct27 oc28 kV28 dc28 pm28 cd28 ct28 oc29 kV29 dc29 pm29 cd29 ct29 oc30 kV30 dc30 pm30 cd30 ct30 oc31 kV31 dc31 pm31 cd31 ct31 oc32 kV32 dc32 pm32 cd32 ct32 oc33 kV33 dc33 pm33 cd33 ct33 oc34 kV34 dc34 pm34 cd34 ct34 oc35 kV35 dc35 pm35 cd35 ct35 oc36 kV36 dc36 pm36 cd36 ct36 oc37 kV37 dc37 pm37 cd37 ct37 oc38 kV38 dc38 pm38 cd38 ct38 oc39 kV39 dc39 pm39 cd39 ct39 oc40 kV40 dc40 pm40 cd40 ct40 oc41 kV41 dc41 pm41 cd41 ct41 oc42 kV42 dc42 pm42 cd42 ct42 oc43 kV43 dc43 pm43 cd43 ct43 oc44 kV44 dc44 pm44 cd44 ct44 oc45 kV45 dc45 pm45 cd45 ct45:oQ}
  {t6 t7:rB}
  {fI:oP}
  {odI anI:Option oP}
  {slI:Array (Option oQ)}
  {ocI kVI dcI pmI cdI ctI:oQ}
  {t8:rB}
  {fU:oP}
  {odU anU:Option oP}
  {slU:Array (Option oQ)}
  {ocU kVU dcU pmU cdU ctU:oQ}
  {tmu tms tmd tmp:rB}
  {tcu tce tcd tcp:rB}
  {gg:oP}
  {od_order_init an_order_init:Option oP}
  {sl_order_init:Array (Option oQ)}
  {oc_order_init kV_order_init dc_order_init pm_order_init cd_order_init ct_order_init:oQ}
  {gp:oP}
  {od_order_weight an_order_weight:Option oP}
  {sl_order_weight:Array (Option oQ)}
  {oc_order_weight kV_order_weight dc_order_weight pm_order_weight cd_order_weight ct_order_weight:oQ}
  {gD:oP}
  {od_order_seen an_order_seen:Option oP}
  {sl_order_seen:Array (Option oQ)}
  {oc_order_seen kV_order_seen dc_order_seen pm_order_seen cd_order_seen ct_order_seen:oQ}
  {gv:oP}
  {od_fromright_seen an_fromright_seen:Option oP}
  {sl_fromright_seen:Array (Option oQ)}
  {oc_fromright_seen kV_fromright_seen dc_fromright_seen pm_fromright_seen cd_fromright_seen ct_fromright_seen:oQ}
  {gw:oP}
  {od_byweights_init an_byweights_init:Option oP}
  {sl_byweights_init:Array (Option oQ)}
  {oc_byweights_init kV_byweights_init dc_byweights_init pm_byweights_init cd_byweights_init ct_byweights_init:oQ}
  {ge:oP}
  {od_byweights_weight an_byweights_weight:Option oP}
  {sl_byweights_weight:Array (Option oQ)}
  {oc_byweights_weight kV_byweights_weight dc_byweights_weight pm_byweights_weight cd_byweights_weight ct_byweights_weight:oQ}
  {gh:oP}
  {od_order_rank an_order_rank:Option oP}
  {sl_order_rank:Array (Option oQ)}
  {oc_order_rank kV_order_rank dc_order_rank pm_order_rank cd_order_rank ct_order_rank:oQ}
  {fX:oP}
  {od_order_before an_order_before:Option oP}
  {sl_order_before:Array (Option oQ)}
  {oc_order_before kV_order_before dc_order_before pm_order_before cd_order_before ct_order_before:oQ}
  {gP:oP}
  {od_system_init an_system_init:Option oP}
  {sl_system_init:Array (Option oQ)}
  {oc_system_init kV_system_init dc_system_init pm_system_init cd_system_init ct_system_init:oQ}
  {gb:oP}
  {od_system_rules_told an_system_rules_told:Option oP}
  {sl_system_rules_told:Array (Option oQ)}
  {oc_system_rules_told kV_system_rules_told dc_system_rules_told pm_system_rules_told cd_system_rules_told ct_system_rules_told:oQ}
  {mI:oP}
  {lu:rB}
  {d1_gone:oQ}
  {d2_gone:Option oP}
  {d3_gone:Nat}
  {d4_gone:Array (Option oQ)}
  {lZ:oP}
  {lY:rB}
  {d1_unmet:oQ}
  {d2_unmet:Option oP}
  {d3_unmet:Nat}
  {d4_unmet:Array (Option oQ)}
  (a0:al K oK "is_small_letter" = sE (sE (.ref f0))) (l0:K.lookup f0=sE ⟨oc0,od0,.func (av "is_small_letter" "is_small_letter" (zp zX) (zl zX) (zb zX) .none kV0 dc0 pm0 an0 cd0 ct0),sl0⟩) (k0:ar K cd0 "is_small_letter" = sG) (p0:aj K (.ref f0)=sG)
  (a1:al K oK "letters_of" = sE (sE (.ref f1))) (l1:K.lookup f1=sE ⟨oc1,od1,.func (av "letters_of" "letters_of" (zp yO) (zl yO) (zb yO) .none kV1 dc1 pm1 an1 cd1 ct1),sl1⟩) (k1:ar K cd1 "letters_of" = sG) (p1:aj K (.ref f1)=sG)
  (a2:al K oK "stands_at" = sE (sE (.ref f2))) (l2:K.lookup f2=sE ⟨oc2,od2,.func (av "stands_at" "stands_at" (zp y8) (zl y8) (zb y8) .none kV2 dc2 pm2 an2 cd2 ct2),sl2⟩) (k2:ar K cd2 "stands_at" = sG) (p2:aj K (.ref f2)=sG)
  (a3:al K oK "put" = sE (sE (.ref f3))) (l3:K.lookup f3=sE ⟨oc3,od3,.func (av "put" "put" (zp We) (zl We) (zb We) .none kV3 dc3 pm3 an3 cd3 ct3),sl3⟩) (k3:ar K cd3 "put" = sG) (p3:aj K (.ref f3)=sG)
  (a4:al K oK "first_within" = sE (sE (.ref f4))) (l4:K.lookup f4=sE ⟨oc4,od4,.func (av "first_within" "first_within" (zp yu) (zl yu) (zb yu) .none kV4 dc4 pm4 an4 cd4 ct4),sl4⟩) (k4:ar K cd4 "first_within" = sG) (p4:aj K (.ref f4)=sG)
  (a5:al K oK "first_from" = sE (sE (.ref f5))) (l5:K.lookup f5=sE ⟨oc5,od5,.func (av "first_from" "first_from" (zp yM) (zl yM) (zb yM) .none kV5 dc5 pm5 an5 cd5 ct5),sl5⟩) (k5:ar K cd5 "first_from" = sG) (p5:aj K (.ref f5)=sG)
  (a6:al K oK "gone" = sE (sE (.ref f6))) (l6:K.lookup f6=sE ⟨oc6,od6,.func (av "gone" "gone" (zp ve) (zl ve) (zb ve) (.ref mI) kV6 dc6 pm6 an6 cd6 ct6),sl6⟩) (k6:ar K cd6 "gone" = sG) (p6:aj K (.ref f6)=sG)
  (a7:al K oK "back" = sE (sE (.ref f7))) (l7:K.lookup f7=sE ⟨oc7,od7,.func (av "back" "back" (zp qk) (zl qk) (zb qk) .none kV7 dc7 pm7 an7 cd7 ct7),sl7⟩) (k7:ar K cd7 "back" = sG) (p7:aj K (.ref f7)=sG)
  (a8:al K oK "moved" = sE (sE (.ref f8))) (l8:K.lookup f8=sE ⟨oc8,od8,.func (av "moved" "moved" (zp vn) (zl vn) (zb vn) .none kV8 dc8 pm8 an8 cd8 ct8),sl8⟩) (k8:ar K cd8 "moved" = sG) (p8:aj K (.ref f8)=sG)
  (a9:al K oK "by_pacts" = sE (sE (.ref f9))) (l9:K.lookup f9=sE ⟨oc9,od9,.func (av "by_pacts" "by_pacts" (zp xx) (zl xx) (zb xx) .none kV9 dc9 pm9 an9 cd9 ct9),sl9⟩) (k9:ar K cd9 "by_pacts" = sG) (p9:aj K (.ref f9)=sG)
  (a10:al K oK "pairs_of" = sE (sE (.ref f10))) (l10:K.lookup f10=sE ⟨oc10,od10,.func (av "pairs_of" "pairs_of" (zp xf) (zl xf) (zb xf) .none kV10 dc10 pm10 an10 cd10 ct10),sl10⟩) (k10:ar K cd10 "pairs_of" = sG) (p10:aj K (.ref f10)=sG)
  (a11:al K oK "as_rule" = sE (sE (.ref f11))) (l11:K.lookup f11=sE ⟨oc11,od11,.func (av "as_rule" "as_rule" (zp xX) (zl xX) (zb xX) .none kV11 dc11 pm11 an11 cd11 ct11),sl11⟩) (k11:ar K cd11 "as_rule" = sG) (p11:aj K (.ref f11)=sG)
  (a12:al K oK "in_order" = sE (sE (.ref f12))) (l12:K.lookup f12=sE ⟨oc12,od12,.func (av "in_order" "in_order" (zp yP) (zl yP) (zb yP) .none kV12 dc12 pm12 an12 cd12 ct12),sl12⟩) (k12:ar K cd12 "in_order" = sG) (p12:aj K (.ref f12)=sG)
  (a13:al K oK "brought_down" = sE (sE (.ref f13))) (l13:K.lookup f13=sE ⟨oc13,od13,.func (av "brought_down" "brought_down" (zp yv) (zl yv) (zb yv) .none kV13 dc13 pm13 an13 cd13 ct13),sl13⟩) (k13:ar K cd13 "brought_down" = sG) (p13:aj K (.ref f13)=sG)
  (a14:al K oK "refuse_beyond" = sE (sE (.ref f14))) (l14:K.lookup f14=sE ⟨oc14,od14,.func (av "refuse_beyond" "refuse_beyond" (zp yf) (zl yf) (zb yf) .none kV14 dc14 pm14 an14 cd14 ct14),sl14⟩) (k14:ar K cd14 "refuse_beyond" = sG) (p14:aj K (.ref f14)=sG)
  (a15:al K oK "built_anew" = sE (sE (.ref f15))) (l15:K.lookup f15=sE ⟨oc15,od15,.func (av "built_anew" "built_anew" (zp yN) (zl yN) (zb yN) .none kV15 dc15 pm15 an15 cd15 ct15),sl15⟩) (k15:ar K cd15 "built_anew" = sG) (p15:aj K (.ref f15)=sG)
  (a16:al K oK "thinned" = sE (sE (.ref f16))) (l16:K.lookup f16=sE ⟨oc16,od16,.func (av "thinned" "thinned" (zp xV) (zl xV) (zb xV) .none kV16 dc16 pm16 an16 cd16 ct16),yk⟩) (k16:ar K cd16 "thinned" = sG) (p16:aj K (.ref f16)=sG)
  (a17:al K oK "_law_cell" = sE (sE (.ref f17))) (l17:K.lookup f17=sE ⟨oc17,od17,.func (av "_law_cell" "_law_cell" (zp jj) (zl jj) (zb jj) .none kV17 dc17 pm17 an17 cd17 ct17),sl17⟩) (k17:ar K cd17 "_law_cell" = sG) (p17:aj K (.ref f17)=sG)
  (a18:al K oK "_law_mixed" = sE (sE (.ref f18))) (l18:K.lookup f18=sE ⟨oc18,od18,.func (av "_law_mixed" "_law_mixed" (zp vW) (zl vW) (zb vW) .none kV18 dc18 pm18 an18 cd18 ct18),sl18⟩) (k18:ar K cd18 "_law_mixed" = sG) (p18:aj K (.ref f18)=sG)
  (a19:al K oK "_law_letters" = sE (sE (.ref f19))) (l19:K.lookup f19=sE ⟨oc19,od19,.func (av "_law_letters" "_law_letters" (zp xZ) (zl xZ) (zb xZ) .none kV19 dc19 pm19 an19 cd19 ct19),sl19⟩) (k19:ar K cd19 "_law_letters" = sG) (p19:aj K (.ref f19)=sG)
  (a20:al K oK "_law_word" = sE (sE (.ref f20))) (l20:K.lookup f20=sE ⟨oc20,od20,.func (av "_law_word" "_law_word" (zp jA) (zl jA) (zb jA) .none kV20 dc20 pm20 an20 cd20 ct20),sl20⟩) (k20:ar K cd20 "_law_word" = sG) (p20:aj K (.ref f20)=sG)
  (a21:al K oK "_law_pair" = sE (sE (.ref f21))) (l21:K.lookup f21=sE ⟨oc21,od21,.func (av "_law_pair" "_law_pair" (zp jl) (zl jl) (zb jl) .none kV21 dc21 pm21 an21 cd21 ct21),sl21⟩) (k21:ar K cd21 "_law_pair" = sG) (p21:aj K (.ref f21)=sG)
  (a22:al K oK "_law_whole" = sE (sE (.ref f22))) (l22:K.lookup f22=sE ⟨oc22,od22,.func (av "_law_whole" "_law_whole" (zp ud) (zl ud) (zb ud) .none kV22 dc22 pm22 an22 cd22 ct22),sl22⟩) (k22:ar K cd22 "_law_whole" = sG) (p22:aj K (.ref f22)=sG)
  (a23:al K oK "_law_steps" = sE (sE (.ref f23))) (l23:K.lookup f23=sE ⟨oc23,od23,.func (av "_law_steps" "_law_steps" (zp vZ) (zl vZ) (zb vZ) .none kV23 dc23 pm23 an23 cd23 ct23),sl23⟩) (k23:ar K cd23 "_law_steps" = sG) (p23:aj K (.ref f23)=sG)
  (a24:al K oK "_law_used" = sE (sE (.ref f24))) (l24:K.lookup f24=sE ⟨oc24,od24,.func (av "_law_used" "_law_used" (zp jq) (zl jq) (zb jq) .none kV24 dc24 pm24 an24 cd24 ct24),sl24⟩) (k24:ar K cd24 "_law_used" = sG) (p24:aj K (.ref f24)=sG)
  (a25:al K oK "_law_uses" = sE (sE (.ref f25))) (l25:K.lookup f25=sE ⟨oc25,od25,.func (av "_law_uses" "_law_uses" (zp jm) (zl jm) (zb jm) .none kV25 dc25 pm25 an25 cd25 ct25),sl25⟩) (k25:ar K cd25 "_law_uses" = sG) (p25:aj K (.ref f25)=sG)
  (a26:al K oK "_law_order" = sE (sE (.ref f26))) (l26:K.lookup f26=sE ⟨oc26,od26,.func (av "_law_order" "_law_order" (zp vT) (zl vT) (zb vT) .none kV26 dc26 pm26 an26 cd26 ct26),sl26⟩) (k26:ar K cd26 "_law_order" = sG) (p26:aj K (.ref f26)=sG)
  (a27:al K oK "_law_entries" = sE (sE (.ref f27))) (l27:K.lookup f27=sE ⟨oc27,od27,.func (av "_law_entries" "_law_entries" (zp xU) (zl xU) (zb xU) .none kV27 dc27 pm27 an27 cd27 ct27),sl27⟩) (k27:ar K cd27 "_law_entries" = sG) (p27:aj K (.ref f27)=sG)
  (a28:al K oK "_law_rank" = sE (sE (.ref f28))) (l28:K.lookup f28=sE ⟨oc28,od28,.func (av "_law_rank" "_law_rank" (zp vE) (zl vE) (zb vE) .none kV28 dc28 pm28 an28 cd28 ct28),sl28⟩) (k28:ar K cd28 "_law_rank" = sG) (p28:aj K (.ref f28)=sG)
  (a29:al K oK "agree" = sE (sE (.ref f29))) (l29:K.lookup f29=sE ⟨oc29,od29,.func (av "agree" "agree" (zp ub) (zl ub) (zb ub) .none kV29 dc29 pm29 an29 cd29 ct29),sl29⟩) (k29:ar K cd29 "agree" = sG) (p29:aj K (.ref f29)=sG)
  (a30:al K oK "overlaps" = sE (sE (.ref f30))) (l30:K.lookup f30=sE ⟨oc30,od30,.func (av "overlaps" "overlaps" (zp xy) (zl xy) (zb xy) .none kV30 dc30 pm30 an30 cd30 ct30),sl30⟩) (k30:ar K cd30 "overlaps" = sG) (p30:aj K (.ref f30)=sG)
  (a31:al K oK "peak" = sE (sE (.ref f31))) (l31:K.lookup f31=sE ⟨oc31,od31,.func (av "peak" "peak" (zp jn) (zl jn) (zb jn) .none kV31 dc31 pm31 an31 cd31 ct31),sl31⟩) (k31:ar K cd31 "peak" = sG) (p31:aj K (.ref f31)=sG)
  (a32:al K oK "form_of" = sE (sE (.ref f32))) (l32:K.lookup f32=sE ⟨oc32,od32,.func (av "form_of" "form_of" (zp wa) (zl wa) (zb wa) .none kV32 dc32 pm32 an32 cd32 ct32),sl32⟩) (k32:ar K cd32 "form_of" = sG) (p32:aj K (.ref f32)=sG)
  (a33:al K oK "is_met" = sE (sE (.ref f33))) (l33:K.lookup f33=sE ⟨oc33,od33,.func (av "is_met" "is_met" (zp w9) (zl w9) (zb w9) .none kV33 dc33 pm33 an33 cd33 ct33),sl33⟩) (k33:ar K cd33 "is_met" = sG) (p33:aj K (.ref f33)=sG)
  (a34:al K oK "unmet" = sE (sE (.ref f34))) (l34:K.lookup f34=sE ⟨oc34,od34,.func (av "unmet" "unmet" (zp xP) (zl xP) (zb xP) (.ref lZ) kV34 dc34 pm34 an34 cd34 ct34),sl34⟩) (k34:ar K cd34 "unmet" = sG) (p34:aj K (.ref f34)=sG)
  (a35:al K oK "system_by" = sE (sE (.ref f35))) (l35:K.lookup f35=sE ⟨oc35,od35,.func (av "system_by" "system_by" (zp xb) (zl xb) (zb xb) .none kV35 dc35 pm35 an35 cd35 ct35),sl35⟩) (k35:ar K cd35 "system_by" = sG) (p35:aj K (.ref f35)=sG)
  (a36:al K oK "first_entries" = sE (sE (.ref f36))) (l36:K.lookup f36=sE ⟨oc36,od36,.func (av "first_entries" "first_entries" (zp zY) (zl zY) (zb zY) .none kV36 dc36 pm36 an36 cd36 ct36),sl36⟩) (k36:ar K cd36 "first_entries" = sG) (p36:aj K (.ref f36)=sG)
  (a37:al K oK "is_beyond" = sE (sE (.ref f37))) (l37:K.lookup f37=sE ⟨oc37,od37,.func (av "is_beyond" "is_beyond" (zp yJ) (zl yJ) (zb yJ) .none kV37 dc37 pm37 an37 cd37 ct37),sl37⟩) (k37:ar K cd37 "is_beyond" = sG) (p37:aj K (.ref f37)=sG)
  (a38:al K oK "thinned_within" = sE (sE (.ref f38))) (l38:K.lookup f38=sE ⟨oc38,od38,.func (av "thinned_within" "thinned_within" (zp z6) (zl z6) (zb z6) .none kV38 dc38 pm38 an38 cd38 ct38),sl38⟩) (k38:ar K cd38 "thinned_within" = sG) (p38:aj K (.ref f38)=sG)
  (a39:al K oK "unmet_within" = sE (sE (.ref f39))) (l39:K.lookup f39=sE ⟨oc39,od39,.func (av "unmet_within" "unmet_within" (zp yt) (zl yt) (zb yt) .none kV39 dc39 pm39 an39 cd39 ct39),sl39⟩) (k39:ar K cd39 "unmet_within" = sG) (p39:aj K (.ref f39)=sG)
  (a40:al K oK "entry_of" = sE (sE (.ref f40))) (l40:K.lookup f40=sE ⟨oc40,od40,.func (av "entry_of" "entry_of" (zp xA) (zl xA) (zb xA) .none kV40 dc40 pm40 an40 cd40 ct40),sl40⟩) (k40:ar K cd40 "entry_of" = sG) (p40:aj K (.ref f40)=sG)
  (a41:al K oK "completed" = sE (sE (.ref f41))) (l41:K.lookup f41=sE ⟨oc41,od41,.func (av "completed" "completed" (zp yK) (zl yK) (zb yK) .none kV41 dc41 pm41 an41 cd41 ct41),sl41⟩) (k41:ar K cd41 "completed" = sG) (p41:aj K (.ref f41)=sG)
  (a42:al K oK "_law_told" = sE (sE (.ref f42))) (l42:K.lookup f42=sE ⟨oc42,od42,.func (av "_law_told" "_law_told" (zp jG) (zl jG) (zb jG) .none kV42 dc42 pm42 an42 cd42 ct42),sl42⟩) (k42:ar K cd42 "_law_told" = sG) (p42:aj K (.ref f42)=sG)
  (a43:al K oK "_law_down" = sE (sE (.ref f43))) (l43:K.lookup f43=sE ⟨oc43,od43,.func (av "_law_down" "_law_down" (zp jI) (zl jI) (zb jI) .none kV43 dc43 pm43 an43 cd43 ct43),sl43⟩) (k43:ar K cd43 "_law_down" = sG) (p43:aj K (.ref f43)=sG)
  (a44:al K oK "_law_words" = sE (sE (.ref f44))) (l44:K.lookup f44=sE ⟨oc44,od44,.func (av "_law_words" "_law_words" (zp uq) (zl uq) (zb uq) .none kV44 dc44 pm44 an44 cd44 ct44),sl44⟩) (k44:ar K cd44 "_law_words" = sG) (p44:aj K (.ref f44)=sG)
  (a45:al K oK "law" = sE (sE (.ref f45))) (l45:K.lookup f45=sE ⟨oc45,od45,.func (av "law" "law" (zp ui) (zl ui) (zb ui) .none kV45 dc45 pm45 an45 cd45 ct45),sl45⟩) (k45:ar K cd45 "law" = sG) (p45:aj K (.ref f45)=sG)
  (g_LetterError:al K oK "LetterError" = sE (sE (.ref nE)))
  (g_NoLetters:al K oK "NoLetters" = sE (sE (.ref fQ)))
  (g_NoOrder:al K oK "NoOrder" = sE (sE (.ref fV)))
  (g_Order:al K oK "Order" = sE (sE (.ref fM)))
  (g_FromRight:al K oK "FromRight" = sE (sE (.ref fL)))
  (g_ByWeights:al K oK "ByWeights" = sE (sE (.ref fJ)))
  (g_NotTurned:al K oK "NotTurned" = sE (sE (.ref fO)))
  (g_System:al K oK "System" = sE (sE (.ref fP)))
  (g_NoUse:al K oK "NoUse" = sE (sE (.ref fW)))
  (g_TooFar:al K oK "TooFar" = sE (sE (.ref fN)))
  (kbb:aS K (.type "bool") (.type "bool")=sE sG)
  (kt:aS K (.type "tuple") (.type "tuple")=sE sG)
  (ki:aS K (.type "int") (.type "int")=sE sG)
  (kb:aS K (.type "int") (.type "bool")=sE sH)
  (kl:aS K (.type "list") (.type "list")=sE sG)
  (x7:cB K (.builtin "object.__class__") "__get__" = sE (sE (.builtin "getset_descriptor.__get__")))
  (x8:dB K (.builtin "object.__class__")=sE sG)
  (x1:ZY K fQ=sG)
  (x2:ah K (.ref fQ) "__setattr__" = sE (sE (.builtin "object.__setattr__")))
  (x3:ah K (.ref fQ) "__getattribute__" = sE (sE (.builtin "BaseException.__getattribute__")))
  (x4:ah K (.ref fQ) "__getattr__" = sE sF)
  (x5:aj K (.ref fQ)=sG)
  (x6:ah K (.ref fQ) "__class__" = sE (sE (.builtin "object.__class__")))
  (x9:bN K fQ (.type "object")=sE sG)
  (xi:ah K (.ref fQ) "__init__" = sE (sE (.builtin "ValueError.__init__")))
  (y1:ZY K fV=sG)
  (y2:ah K (.ref fV) "__setattr__" = sE (sE (.builtin "object.__setattr__")))
  (y3:ah K (.ref fV) "__getattribute__" = sE (sE (.builtin "BaseException.__getattribute__")))
  (y4:ah K (.ref fV) "__getattr__" = sE sF)
  (y5:aj K (.ref fV)=sG)
  (y6:ah K (.ref fV) "__class__" = sE (sE (.builtin "object.__class__")))
  (y9:bN K fV (.type "object")=sE sG)
  (yi:ah K (.ref fV) "__init__" = sE (sE (.builtin "ValueError.__init__")))
  (most:al K oK "MOST_LETTERS" = sE (sE (.int 6 t6)))
  (mostw:al K oK "MOST_WEIGHT" = sE (sE (.int 1000000 t7)))
  (mT:bS K fM eK=sG)
  (mU:bP K fM=sG)
  (mV:cA K fM=sG)
  (mX:ah K (.ref fM) "__setattr__" = sE (sE (.builtin "object.__setattr__")))
  (mY:cJ K fM=sG)
  (mZ:aj K (.ref fM)=sG)
  (nc:ah K (.ref fM) "letters" = sE sF)
  (nQ:aS K (.ref fM) (.ref fM)=sE sG)
  (nR:ah K (.ref fM) "__class__" = sE (sE (.builtin "object.__class__")))
  (nS:bN K fM (.type "object")=sE sG)
  (lw:bS K fL eK=sG)
  (lx:bP K fL=sG)
  (ly:cA K fL=sG)
  (lA:ah K (.ref fL) "__setattr__" = sE (sE (.builtin "object.__setattr__")))
  (lB:cJ K fL=sG)
  (lC:aj K (.ref fL)=sG)
  (lD:ah K (.ref fL) "letters" = sE sF)
  (mv:aS K (.ref fL) (.ref fM)=sE sG)
  (mw:ah K (.ref fL) "__class__" = sE (sE (.builtin "object.__class__")))
  (mx:bN K fL (.type "object")=sE sG)
  (lE:bS K fJ eK=sG)
  (lF:bP K fJ=sG)
  (lG:cA K fJ=sG)
  (lH:ah K (.ref fJ) "__setattr__" = sE (sE (.builtin "object.__setattr__")))
  (lJ:cJ K fJ=sG)
  (lK:aj K (.ref fJ)=sG)
  (lL:ah K (.ref fJ) "letters" = sE sF)
  (my:aS K (.ref fJ) (.ref fM)=sE sG)
  (mz:ah K (.ref fJ) "__class__" = sE (sE (.builtin "object.__class__")))
  (mB:bN K fJ (.type "object")=sE sG)
  (nw_ByWeights:ah K (.ref fJ) "weights" = sE sF)
  (sgO:cB K (.ref fM) "__getattribute__" = sE (sE (.builtin "type.__getattribute__")))
  (rdO:fA K fM (.type "type")=sG)
  (win:al K oK "WINDOW" = sE (sE (.int 128 t8)))
  (tt1:ZY K fO=sG)
  (tt2:ah K (.ref fO) "__setattr__" = sE (sE (.builtin "object.__setattr__")))
  (tt3:ah K (.ref fO) "__getattribute__" = sE (sE (.builtin "BaseException.__getattribute__")))
  (tt4:ah K (.ref fO) "__getattr__" = sE sF)
  (tt5:aj K (.ref fO)=sG)
  (tt6:ah K (.ref fO) "__class__" = sE (sE (.builtin "object.__class__")))
  (tt9:bN K fO (.type "object")=sE sG)
  (nn:ah K (.ref fO) "number" = sE sF)
  (ini:ah K (.ref fO) "__init__" = sE (sE (.ref fI)))
  (lI:K.lookup fI=sE ⟨ocI,odI,.func (av "__init__" "NotTurned.__init__" (zp z9) (zl z9) (zb z9) .none kVI dcI pmI anI cdI ctI),slI⟩)
  (kI:ar K cdI "NotTurned.__init__" = sG)
  (pI:aj K (.ref fI)=sG)
  (fnI:bc K (.ref fI)=sG)
  (mC:bS K fP eK=sG)
  (mD:bP K fP=sG)
  (mE:cA K fP=sG)
  (mF:ah K (.ref fP) "__setattr__" = sE (sE (.builtin "object.__setattr__")))
  (mG:cJ K fP=sG)
  (mH:aj K (.ref fP)=sG)
  (no_System:ah K (.ref fP) "order" = sE sF)
  (nr_System:ah K (.ref fP) "rules" = sE sF)
  (u1:ZY K fW=sG)
  (u2:ah K (.ref fW) "__setattr__" = sE (sE (.builtin "object.__setattr__")))
  (u3:ah K (.ref fW) "__getattribute__" = sE (sE (.builtin "BaseException.__getattribute__")))
  (u4:ah K (.ref fW) "__getattr__" = sE sF)
  (u5:aj K (.ref fW)=sG)
  (u6:ah K (.ref fW) "__class__" = sE (sE (.builtin "object.__class__")))
  (u9:bN K fW (.type "object")=sE sG)
  (ua:ah K (.ref fW) "at" = sE sF)
  (iniU:ah K (.ref fW) "__init__" = sE (sE (.ref fU)))
  (lU:K.lookup fU=sE ⟨ocU,odU,.func (av "__init__" "NoUse.__init__" (zp yR) (zl yR) (zb yR) .none kVU dcU pmU anU cdU ctU),slU⟩)
  (kU:ar K cdU "NoUse.__init__" = sG)
  (pU:aj K (.ref fU)=sG)
  (fnU:bc K (.ref fU)=sG)
  (v1:ZY K fN=sG)
  (v2:ah K (.ref fN) "__setattr__" = sE (sE (.builtin "object.__setattr__")))
  (v3:ah K (.ref fN) "__getattribute__" = sE (sE (.builtin "BaseException.__getattribute__")))
  (v4:ah K (.ref fN) "__getattr__" = sE sF)
  (v5:aj K (.ref fN)=sG)
  (v6:ah K (.ref fN) "__class__" = sE (sE (.builtin "object.__class__")))
  (v9:bN K fN (.type "object")=sE sG)
  (vi:ah K (.ref fN) "__init__" = sE (sE (.builtin "ValueError.__init__")))
  (sFF:cI K (.ref fN) (.ref fN)=sE sG)
  (ks:aS K (.type "str") (.type "str")=sE sG)
  (nany:al K oK "any" = sE sF)
  (nsorted:al K oK "sorted" = sE sF)
  (mou:al K oK "MOST_USES_thinning" = sE (sE (.int 40 tmu)))
  (mos:al K oK "MOST_STEPS" = sE (sE (.int 240 tms)))
  (mod_:al K oK "MOST_SIDE_thinning" = sE (sE (.int 60 tmd)))
  (mop:al K oK "MOST_PASSES" = sE (sE (.int 20 tmp)))
  (mcu:al K oK "MOST_USES_completing" = sE (sE (.int 40 tcu)))
  (mce:al K oK "MOST_ENTRIES" = sE (sE (.int 12 tce)))
  (mcd:al K oK "MOST_SIDE_completing" = sE (sE (.int 10 tcd)))
  (mcp:al K oK "MOST_PEAKS" = sE (sE (.int 8 tcp)))
  (iQ:ah K (.ref fM) "__init__" = sE (sE (.ref gg)))
  (iR:K.lookup gg=sE ⟨oc_order_init,od_order_init,.func (av "__init__" "Order.__init__" (zp yU) (zl yU) (zb yU) .none kV_order_init dc_order_init pm_order_init an_order_init cd_order_init ct_order_init),sl_order_init⟩)
  (iS:ar K cd_order_init "Order.__init__" = sG)
  (ik:aj K (.ref gg)=sG)
  (il:bc K (.ref gg)=sG)
  (iw:ah K (.ref fM) "weight" = sE (sE (.ref gp)))
  (iz:K.lookup gp=sE ⟨oc_order_weight,od_order_weight,.func (av "weight" "Order.weight" (zp yq) (zl yq) (zb yq) .none kV_order_weight dc_order_weight pm_order_weight an_order_weight cd_order_weight ct_order_weight),sl_order_weight⟩)
  (iA:ar K cd_order_weight "Order.weight" = sG)
  (gq:aj K (.ref gp)=sG)
  (gL:bc K (.ref gp)=sG)
  (iT:ah K (.ref fM) "seen" = sE (sE (.ref gD)))
  (iU:K.lookup gD=sE ⟨oc_order_seen,od_order_seen,.func (av "seen" "Order.seen" (zp yL) (zl yL) (zb yL) .none kV_order_seen dc_order_seen pm_order_seen an_order_seen cd_order_seen ct_order_seen),sl_order_seen⟩)
  (iV:ar K cd_order_seen "Order.seen" = sG)
  (gE:aj K (.ref gD)=sG)
  (im:bc K (.ref gD)=sG)
  (gQ:ah K (.ref fL) "seen" = sE (sE (.ref gv)))
  (gT:K.lookup gv=sE ⟨oc_fromright_seen,od_fromright_seen,.func (av "seen" "FromRight.seen" (zp z7) (zl z7) (zb z7) .none kV_fromright_seen dc_fromright_seen pm_fromright_seen an_fromright_seen cd_fromright_seen ct_fromright_seen),sl_fromright_seen⟩)
  (gU:ar K cd_fromright_seen "FromRight.seen" = sG)
  (gx:aj K (.ref gv)=sG)
  (gX:bc K (.ref gv)=sG)
  (gY:ah K (.ref fJ) "__init__" = sE (sE (.ref gw)))
  (gZ:K.lookup gw=sE ⟨oc_byweights_init,od_byweights_init,.func (av "__init__" "ByWeights.__init__" (zp z8) (zl z8) (zb z8) .none kV_byweights_init dc_byweights_init pm_byweights_init an_byweights_init cd_byweights_init ct_byweights_init),sl_byweights_init⟩)
  (ic:ar K cd_byweights_init "ByWeights.__init__" = sG)
  (ie:aj K (.ref gw)=sG)
  (ig:bc K (.ref gw)=sG)
  (gG:ah K (.ref fJ) "weight" = sE (sE (.ref ge)))
  (gH:K.lookup ge=sE ⟨oc_byweights_weight,od_byweights_weight,.func (av "weight" "ByWeights.weight" (zp zM) (zl zM) (zb zM) .none kV_byweights_weight dc_byweights_weight pm_byweights_weight an_byweights_weight cd_byweights_weight ct_byweights_weight),sl_byweights_weight⟩)
  (gJ:ar K cd_byweights_weight "ByWeights.weight" = sG)
  (gf:aj K (.ref ge)=sG)
  (gK:bc K (.ref ge)=sG)
  (iW:ah K (.ref fM) "rank" = sE (sE (.ref gh)))
  (iX:K.lookup gh=sE ⟨oc_order_rank,od_order_rank,.func (av "rank" "Order.rank" (zp yz) (zl yz) (zb yz) .none kV_order_rank dc_order_rank pm_order_rank an_order_rank cd_order_rank ct_order_rank),sl_order_rank⟩)
  (iY:ar K cd_order_rank "Order.rank" = sG)
  (gk:aj K (.ref gh)=sG)
  (gF:bc K (.ref gh)=sG)
  (iB:ah K (.ref fM) "before" = sE (sE (.ref fX)))
  (iC:K.lookup fX=sE ⟨oc_order_before,od_order_before,.func (av "before" "Order.before" (zp yo) (zl yo) (zb yo) .none kV_order_before dc_order_before pm_order_before an_order_before cd_order_before ct_order_before),sl_order_before⟩)
  (iD:ar K cd_order_before "Order.before" = sG)
  (fY:aj K (.ref fX)=sG)
  (gr:bc K (.ref fX)=sG)
  (iK:ah K (.ref fP) "__init__" = sE (sE (.ref gP)))
  (iL:K.lookup gP=sE ⟨oc_system_init,od_system_init,.func (av "__init__" "System.__init__" (zp yB) (zl yB) (zb yB) .none kV_system_init dc_system_init pm_system_init an_system_init cd_system_init ct_system_init),sl_system_init⟩)
  (iM:ar K cd_system_init "System.__init__" = sG)
  (iN:aj K (.ref gP)=sG)
  (iO:bc K (.ref gP)=sG)
  (gy:ah K (.ref fP) "rules_told" = sE (sE (.ref gb)))
  (gz:K.lookup gb=sE ⟨oc_system_rules_told,od_system_rules_told,.func (av "rules_told" "System.rules_told" (zp zQ) (zl zQ) (zb zQ) .none kV_system_rules_told dc_system_rules_told pm_system_rules_told an_system_rules_told cd_system_rules_told ct_system_rules_told),sl_system_rules_told⟩)
  (gA:ar K cd_system_rules_told "System.rules_told" = sG)
  (gc:aj K (.ref gb)=sG)
  (gB:bc K (.ref gb)=sG)
  (mJ:K.lookup mI=sE ⟨d1_gone,d2_gone,.seq #[.int 4000 lu] d3_gone,d4_gone⟩)
  (md:K.lookup lZ=sE ⟨d1_unmet,d2_unmet,.seq #[.int 4000 lY] d3_unmet,d4_unmet⟩)
  (fcO:fB K (.ref fM) (.type "type") "__init__" = sE (.val (.ref gg)))
  (fiR_init:ah K (.ref fL) "__init__" = sE (sE (.ref gg)))
  (fiR_weight:ah K (.ref fL) "weight" = sE (sE (.ref gp)))
  (fiW_seen:ah K (.ref fJ) "seen" = sE (sE (.ref gD)))
  (fiR_rank:ah K (.ref fL) "rank" = sE (sE (.ref gh)))
  (fiW_rank:ah K (.ref fJ) "rank" = sE (sE (.ref gh)))
  (fiR_before:ah K (.ref fL) "before" = sE (sE (.ref fX)))
  (fiW_before:ah K (.ref fJ) "before" = sE (sE (.ref fX)))
  (b0:al K oK "len" = sE sF)
  (b1:al K oK "range" = sE sF)
  (b2:al K oK "isinstance" = sE sF)
  (b3:al K oK "str" = sE sF)
  (b4:al K oK "int" = sE sF)
  (b5:al K oK "tuple" = sE sF)
  (b6:al K oK "list" = sE sF)
  (b7:al K oK "bool" = sE sF)
  (b8:al K oK "enumerate" = sE sF)
  (b9:al K oK "all" = sE sF)
  (b10:al K oK "ValueError" = sE sF)
  (b11:al K oK "max" = sE sF)
  (b12:al K oK "reversed" = sE sF)
  (b13:al K oK "zip" = sE sF)
  (b14:al K oK "sum" = sE sF)
  (b15:al K oK "sorted" = sE sF)
  : ∃fd:oU,(∀(s:oR) (v:oQ),rR s fd ⟨[v],[]⟩ [("_law_script",v)])/\∀base:pb,K.In base->base.Ns oK mg->base.BuiltinsAt mg TB->PySem.W.CodeHd base cc TB->yg l.prog w K mg base CX0 11 fa fd ["_law_script"] (Xi K TB):=by
 have e:=hfa.symm.trans (ao X G a45)
 cases e
 have B:Bt mg:=⟨aN X G b0,aN X G b1,aN X G b2,aN X G b3,aN X G b4,aN X G b5,aN X G b6,aN X G b7,aN X G b8,aN X G b9,aN X G b10,aN X G b11,aN X G b12,aN X G b13,aN X G b14,aN X G b15⟩
 have F0:=zD (st:=zX) l0 k0 p0
 have B0:=F0.binds (ps:=["sign"]) λ_ _ _ _ _ _ us hl=>by obtain⟨_,rfl⟩:=Z0 hl;rfl
 have M0:=ao X G a0
 have F1:=zD (st:=yO) l1 k1 p1
 have B1:=F1.binds (ps:=["text"]) λ_ _ _ _ _ _ us hl=>by obtain⟨_,rfl⟩:=Z0 hl;rfl
 have M1:=ao X G a1
 have F2:=zD (st:=y8) l2 k2 p2
 have B2:=F2.binds (ps:=["word","place","part"]) λ_ _ _ _ _ _ us hl=>by obtain⟨_,_,_,rfl⟩:=ZZ hl;rfl
 have M2:=ao X G a2
 have F3:=zD (st:=We) l3 k3 p3
 have B3:=F3.binds (ps:=["word","place","old","new"]) λ_ _ _ _ _ _ us hl=>by obtain⟨_,_,_,_,rfl⟩:=KZ hl;rfl
 have M3:=ao X G a3
 have F4:=zD (st:=yu) l4 k4 p4
 have B4:=F4.binds (ps:=["rules","word","start","end"]) λ_ _ _ _ _ _ us hl=>by obtain⟨_,_,_,_,rfl⟩:=KZ hl;rfl
 have M4:=ao X G a4
 have F5:=zD (st:=yM) l5 k5 p5
 have B5:=F5.binds (ps:=["rules","word","start"]) λ_ _ _ _ _ _ us hl=>by obtain⟨_,_,_,rfl⟩:=ZZ hl;rfl
 have M5:=ao X G a5
 have F6:FunD K "gone" "gone" ve (.ref mI) f6 (av "gone" "gone" (zp ve) (zl ve) (zb ve) (.ref mI) kV6 dc6 pm6 an6 cd6 ct6):=⟨⟨_,_,_,_,_,_,_,_,_,rfl,l6,k6⟩⟩
 have M6:=ao X G a6
 have F7:=zD (st:=qk) l7 k7 p7
 have B7:=F7.binds (ps:=["steps"]) λ_ _ _ _ _ _ us hl=>by obtain⟨_,rfl⟩:=Z0 hl;rfl
 have M7:=ao X G a7
 have F8:=zD (st:=vn) l8 k8 p8
 have B8:=F8.binds (ps:=["steps","size"]) λ_ _ _ _ _ _ us hl=>by obtain⟨_,_,rfl⟩:=uw hl;rfl
 have M8:=ao X G a8
 have F9:=zD (st:=xx) l9 k9 p9
 have B9:=F9.binds (ps:=["entries","steps"]) λ_ _ _ _ _ _ us hl=>by obtain⟨_,_,rfl⟩:=uw hl;rfl
 have M9:=ao X G a9
 have F10:=zD (st:=xf) l10 k10 p10
 have B10:=F10.binds (ps:=["entries"]) λ_ _ _ _ _ _ us hl=>by obtain⟨_,rfl⟩:=Z0 hl;rfl
 have M10:=ao X G a10
 have F11:=zD (st:=xX) l11 k11 p11
 have B11:=F11.binds (ps:=["order","entry"]) λ_ _ _ _ _ _ us hl=>by obtain⟨_,_,rfl⟩:=uw hl;rfl
 have M11:=ao X G a11
 have F12:=zD (st:=yP) l12 k12 p12
 have B12:=F12.binds (ps:=["order","entries"]) λ_ _ _ _ _ _ us hl=>by obtain⟨_,_,rfl⟩:=uw hl;rfl
 have M12:=ao X G a12
 have F13:=zD (st:=yv) l13 k13 p13
 have B13:=F13.binds (ps:=["entries","entry"]) λ_ _ _ _ _ _ us hl=>by obtain⟨_,_,rfl⟩:=uw hl;rfl
 have M13:=ao X G a13
 have F14:=zD (st:=yf) l14 k14 p14
 have B14:=F14.binds (ps:=["entry"]) λ_ _ _ _ _ _ us hl=>by obtain⟨_,rfl⟩:=Z0 hl;rfl
 have M14:=ao X G a14
 have F15:=zD (st:=yN) l15 k15 p15
 have B15:=F15.binds (ps:=["order","entries"]) λ_ _ _ _ _ _ us hl=>by obtain⟨_,_,rfl⟩:=uw hl;rfl
 have M15:=ao X G a15
 have F16:=zD (st:=xV) l16 k16 p16
 have B16:=F16.binds (ps:=["order","entries"]) λ_ _ _ _ _ _ us hl=>by obtain⟨_,_,rfl⟩:=uw hl;rfl
 have M16:=ao X G a16
 have F17:=zD (st:=jj) l17 k17 p17
 have B17:=F17.binds (ps:=["_law_script","_law_k"]) λ_ _ _ _ _ _ us hl=>by obtain⟨_,_,rfl⟩:=uw hl;rfl
 have M17:=ao X G a17
 have F18:=zD (st:=vW) l18 k18 p18
 have B18:=F18.binds (ps:=["_law_cell_here","_law_turn"]) λ_ _ _ _ _ _ us hl=>by obtain⟨_,_,rfl⟩:=uw hl;rfl
 have M18:=ao X G a18
 have F19:=zD (st:=xZ) l19 k19 p19
 have B19:=F19.binds (ps:=["_law_cell_here","_law_many"]) λ_ _ _ _ _ _ us hl=>by obtain⟨_,_,rfl⟩:=uw hl;rfl
 have M19:=ao X G a19
 have F20:=zD (st:=jA) l20 k20 p20
 have B20:=F20.binds (ps:=["_law_number","_law_letters_here","_law_most"]) λ_ _ _ _ _ _ us hl=>by obtain⟨_,_,_,rfl⟩:=ZZ hl;rfl
 have M20:=ao X G a20
 have F21:=zD (st:=jl) l21 k21 p21
 have B21:=F21.binds (ps:=["_law_cell_here","_law_letters_here","_law_most"]) λ_ _ _ _ _ _ us hl=>by obtain⟨_,_,_,rfl⟩:=ZZ hl;rfl
 have M21:=ao X G a21
 have F22:=zD (st:=ud) l22 k22 p22
 have B22:=F22.binds (ps:=["_law_found"]) λ_ _ _ _ _ _ us hl=>by obtain⟨_,rfl⟩:=Z0 hl;rfl
 have M22:=ao X G a22
 have F23:=zD (st:=vZ) l23 k23 p23
 have B23:=F23.binds (ps:=["_law_found"]) λ_ _ _ _ _ _ us hl=>by obtain⟨_,rfl⟩:=Z0 hl;rfl
 have M23:=ao X G a23
 have F24:=zD (st:=jq) l24 k24 p24
 have B24:=F24.binds (ps:=["_law_pacts","_law_word_here","_law_step"]) λ_ _ _ _ _ _ us hl=>by obtain⟨_,_,_,rfl⟩:=ZZ hl;rfl
 have M24:=ao X G a24
 have F25:=zD (st:=jm) l25 k25 p25
 have B25:=F25.binds (ps:=["_law_pacts","_law_word_here","_law_most"]) λ_ _ _ _ _ _ us hl=>by obtain⟨_,_,_,rfl⟩:=ZZ hl;rfl
 have M25:=ao X G a25
 have F26:=zD (st:=vT) l26 k26 p26
 have B26:=F26.binds (ps:=["_law_kind","_law_letters_here","_law_weights"]) λ_ _ _ _ _ _ us hl=>by obtain⟨_,_,_,rfl⟩:=ZZ hl;rfl
 have M26:=ao X G a26
 have F27:=zD (st:=xU) l27 k27 p27
 have B27:=F27.binds (ps:=["_law_found"]) λ_ _ _ _ _ _ us hl=>by obtain⟨_,rfl⟩:=Z0 hl;rfl
 have M27:=ao X G a27
 have F28:=zD (st:=vE) l28 k28 p28
 have B28:=F28.binds (ps:=["_law_kind","_law_letters_here","_law_weights","_law_word_here"]) λ_ _ _ _ _ _ us hl=>by obtain⟨_,_,_,_,rfl⟩:=KZ hl;rfl
 have M28:=ao X G a28
 have F29:=zD (st:=ub) l29 k29 p29
 have B29:=F29.binds (ps:=["one","other","place"]) λ_ _ _ _ _ _ us hl=>by obtain⟨_,_,_,rfl⟩:=ZZ hl;rfl
 have M29:=ao X G a29
 have F30:=zD (st:=xy) l30 k30 p30
 have B30:=F30.binds (ps:=["rules"]) λ_ _ _ _ _ _ us hl=>by obtain⟨_,rfl⟩:=Z0 hl;rfl
 have M30:=ao X G a30
 have F31:=zD (st:=jn) l31 k31 p31
 have B31:=F31.binds (ps:=["rules","overlap"]) λ_ _ _ _ _ _ us hl=>by obtain⟨_,_,rfl⟩:=uw hl;rfl
 have M31:=ao X G a31
 have F32:=zD (st:=wa) l32 k32 p32
 have B32:=F32.binds (ps:=["rules","word","most","forms"]) λ_ _ _ _ _ _ us hl=>by obtain⟨_,_,_,_,rfl⟩:=KZ hl;rfl
 have M32:=ao X G a32
 have F33:=zD (st:=w9) l33 k33 p33
 have B33:=F33.binds (ps:=["rules","overlap","most","forms"]) λ_ _ _ _ _ _ us hl=>by obtain⟨_,_,_,_,rfl⟩:=KZ hl;rfl
 have M33:=ao X G a33
 have F34:FunD K "unmet" "unmet" xP (.ref lZ) f34 (av "unmet" "unmet" (zp xP) (zl xP) (zb xP) (.ref lZ) kV34 dc34 pm34 an34 cd34 ct34):=⟨⟨_,_,_,_,_,_,_,_,_,rfl,l34,k34⟩⟩
 have M34:=ao X G a34
 have F35:=zD (st:=xb) l35 k35 p35
 have B35:=F35.binds (ps:=["order","entries"]) λ_ _ _ _ _ _ us hl=>by obtain⟨_,_,rfl⟩:=uw hl;rfl
 have M35:=ao X G a35
 have F36:=zD (st:=zY) l36 k36 p36
 have B36:=F36.binds (ps:=["pacts"]) λ_ _ _ _ _ _ us hl=>by obtain⟨_,rfl⟩:=Z0 hl;rfl
 have M36:=ao X G a36
 have F37:=zD (st:=yJ) l37 k37 p37
 have B37:=F37.binds (ps:=["entries"]) λ_ _ _ _ _ _ us hl=>by obtain⟨_,rfl⟩:=Z0 hl;rfl
 have M37:=ao X G a37
 have F38:=zD (st:=z6) l38 k38 p38
 have B38:=F38.binds (ps:=["order","entries"]) λ_ _ _ _ _ _ us hl=>by obtain⟨_,_,rfl⟩:=uw hl;rfl
 have M38:=ao X G a38
 have F39:=zD (st:=yt) l39 k39 p39
 have B39:=F39.binds (ps:=["order","entries"]) λ_ _ _ _ _ _ us hl=>by obtain⟨_,_,rfl⟩:=uw hl;rfl
 have M39:=ao X G a39
 have F40:=zD (st:=xA) l40 k40 p40
 have B40:=F40.binds (ps:=["entries","overlap"]) λ_ _ _ _ _ _ us hl=>by obtain⟨_,_,rfl⟩:=uw hl;rfl
 have M40:=ao X G a40
 have F41:=zD (st:=yK) l41 k41 p41
 have B41:=F41.binds (ps:=["order","pacts","rounds"]) λ_ _ _ _ _ _ us hl=>by obtain⟨_,_,_,rfl⟩:=ZZ hl;rfl
 have M41:=ao X G a41
 have F42:=zD (st:=jG) l42 k42 p42
 have B42:=F42.binds (ps:=["_law_found"]) λ_ _ _ _ _ _ us hl=>by obtain⟨_,rfl⟩:=Z0 hl;rfl
 have M42:=ao X G a42
 have F43:=zD (st:=jI) l43 k43 p43
 have B43:=F43.binds (ps:=["_law_rules","_law_word_here","_law_last"]) λ_ _ _ _ _ _ us hl=>by obtain⟨_,_,_,rfl⟩:=ZZ hl;rfl
 have M43:=ao X G a43
 have F44:=zD (st:=uq) l44 k44 p44
 have B44:=F44.binds (ps:=["_law_pacts","_law_word_here","_law_cells"]) λ_ _ _ _ _ _ us hl=>by obtain⟨_,_,_,rfl⟩:=ZZ hl;rfl
 have M44:=ao X G a44
 have F45:=zD (st:=ui) l45 k45 p45
 have B45:=F45.binds (ps:=["_law_script"]) λ_ _ _ _ _ _ us hl=>by obtain⟨_,rfl⟩:=Z0 hl;rfl
 have M45:=ao X G a45
 have HCC:cd12=.ref cc:=by
  obtain⟨ai,oi,fdi,m1,m2,m3,m4⟩:=hlam
  have e1:=m1.symm.trans (ao X G a12)
  cases e1
  have e2:=m2.symm.trans (X _ _ l12)
  cases e2
  cases m3
  exact m4
 refine⟨av "law" "law" (zp ui) (zl ui) (zb ui) .none kV45 dc45 pm45 an45 cd45 ct45,λs v=>.of_eq rfl,λbase _ _ HBT HCH=>?_⟩
 have XIl:XI K fQ:=⟨⟨x1,x2,x3,x4,x5⟩,x6,x7,x8,x9⟩
 have XIo:XI K fV:=⟨⟨y1,y2,y3,y4,y5⟩,y6,x7,x8,y9⟩
 have TL:zcX K mg fQ:=⟨XIl,xi,ao X G g_NoLetters,t6,ao X G most⟩
 have TN:zcT K mg fV:=⟨XIo,yi,ao X G g_NoOrder,t7,ao X G mostw⟩
 have TO:TOrd K mg fM fL fJ:=⟨⟨mT,mU,mV,mX⟩,⟨lw,lx,ly,lA⟩,⟨lE,lF,lG,lH⟩,ao X G g_Order,ao X G g_FromRight,ao X G g_ByWeights,nc,lD,lL,nw_ByWeights⟩
 have XIt:XI K fO:=⟨⟨tt1,tt2,tt3,tt4,tt5⟩,tt6,x7,x8,tt9⟩
 have TNt:TNT K mg fO:=⟨XIt,ao X G g_NotTurned,nn⟩
 have FI:=zD (st:=z9) lI kI pI
 have BI:=FI.binds (ps:=["self","number"]) λ_ _ _ _ _ _ us hl=>by obtain⟨_,_,rfl⟩:=uw hl;rfl
 have TD:DNT l.prog w K mg base fO:=⟨TNt,_,_,ini,fnI,uf TNt FI,BI⟩
 have TS:zah K mg fP:=⟨⟨mC,mD,mE,mF⟩,ao X G g_System,no_System,nr_System⟩
 have TWi:zcF mg:=⟨t8,ao X G win⟩
 have XIu:XI K fW:=⟨⟨u1,u2,u3,u4,u5⟩,u6,x7,x8,u9⟩
 have TNu:TNU K mg fW:=⟨XIu,ao X G g_NoUse,ua⟩
 have FU:=zD (st:=yR) lU kU pU
 have BU:=FU.binds (ps:=["self","at"]) λ_ _ _ _ _ _ us hl=>by obtain⟨_,_,rfl⟩:=uw hl;rfl
 have TUd:DNU l.prog w K mg base fW:=⟨TNu,_,_,iniU,fnU,kj TNu FU,BU⟩
 have XIf:XI K fN:=⟨⟨v1,v2,v3,v4,v5⟩,v6,x7,x8,v9⟩
 have TF:K4 K mg fN:=⟨XIf,vi,ao X G g_TooFar⟩
 have TMk:TMo mg:=⟨⟨tmu,ao X G mou⟩,⟨tms,ao X G mos⟩,⟨tmd,ao X G mod_⟩,⟨tmp,ao X G mop⟩⟩
 have TMcc:TMc mg:=⟨⟨tcu,ao X G mcu⟩,⟨tce,ao X G mce⟩,⟨tcd,ao X G mcd⟩,⟨tcp,ao X G mcp⟩⟩
 have D0:Df l.prog w K mg base CX0 1 "is_small_letter" ["sign"] [] uR:=⟨_,_,Ul F0,M0,p0,B0⟩
 have D1:Df l.prog w K mg base (CXx l.prog w) 2 "letters_of" ["text"] [] (wm fQ):=⟨_,_,kL B TL F1 D0,M1,p1,B1⟩
 have D2:Df l.prog w K mg base CX0 1 "stands_at" ["word","place","part"] [] xK:=⟨_,_,Zm B F2,M2,p2,B2⟩
 have D3:Df l.prog w K mg base (CXx l.prog w) 3 "put" ["word","place","old","new"] [] (ZF fW):=⟨_,_,zaN B TUd F3 D2,M3,p3,B3⟩
 have io:=zD (st:=yU) iR iS ik
 have iZ:=io.binds (ps:=["self","letters"]) λ_ _ _ _ _ _ us hl=>by obtain⟨_,_,rfl⟩:=uw hl;rfl
 have nF:DMk l.prog w K mg base CX0 3 fM ["self","letters"] (uS K):=⟨_,_,⟨mY,iQ,il,mZ⟩,wn B io D1,iZ⟩
 have DI:DOI l.prog w K mg base fM:=⟨_,_,⟨sgO,rdO,fcO,ik⟩,wn B io D1,iZ⟩
 have iE:=zD (st:=yq) iz iA gq
 have lN:=iE.binds (ps:=["self","word"]) λ_ _ _ _ _ _ us hl=>by obtain⟨_,_,rfl⟩:=uw hl;rfl
 have nt:DM l.prog w K mg base CX0 1 fM "weight" ["self","word"] kE:=⟨_,_,⟨iw,gL,gq⟩,wX B iE,lN⟩
 have la:=zD (st:=yL) iU iV gE
 have mi:=la.binds (ps:=["self","word"]) λ_ _ _ _ _ _ us hl=>by obtain⟨_,_,rfl⟩:=uw hl;rfl
 have nG:DM l.prog w K mg base CX0 1 fM "seen" ["self","word"] Xs:=⟨_,_,⟨iT,im,gE⟩,vH B la,mi⟩
 have lh:=zD (st:=z7) gT gU gx
 have mK:=lh.binds (ps:=["self","word"]) λ_ _ _ _ _ _ us hl=>by obtain⟨_,_,rfl⟩:=uw hl;rfl
 have mL:DM l.prog w K mg base CX0 1 fL "seen" ["self","word"] Z3:=⟨_,_,⟨gQ,gX,gx⟩,uk B lh,mK⟩
 have lm:=zD (st:=z8) gZ ic ie
 have mM:=lm.binds (ps:=["self","letters","weights"]) λ_ _ _ _ _ _ us hl=>by obtain⟨_,_,_,rfl⟩:=ZZ hl;rfl
 have mN:DMk l.prog w K mg base (CXx l.prog w) 4 fJ ["self","letters","weights"] (jY K fJ):=⟨_,_,⟨lJ,gY,ig,lK⟩,vV B TO TN DI lm,mM⟩
 have iH:=zD (st:=zM) gH gJ gf
 have mj:=iH.binds (ps:=["self","word"]) λ_ _ _ _ _ _ us hl=>by obtain⟨_,_,rfl⟩:=uw hl;rfl
 have ml:DM l.prog w K mg base CX0 1 fJ "weight" ["self","word"] (Yx fJ):=⟨_,_,⟨gG,gK,gf⟩,vq B TO iH,mj⟩
 have TT:TWS l.prog w K mg base fM fL fJ:=⟨TO,nF,⟨_,_,⟨lB,fiR_init,il,lC⟩,wn B io D1,iZ⟩,mN,nt,⟨_,_,⟨fiR_weight,gL,gq⟩,wX B iE,lN⟩,ml,nG,mL,⟨_,_,⟨fiW_seen,im,gE⟩,vH B la,mi⟩⟩
 have ip:=zD (st:=yz) iX iY gk
 have lb:=ip.binds (ps:=["self","word"]) λ_ _ _ _ _ _ us hl=>by obtain⟨_,_,rfl⟩:=uw hl;rfl
 have nH:DM l.prog w K mg base CX0 2 fM "rank" ["self","word"] (qK fM fL fJ):=⟨_,_,⟨iW,gF,gk⟩,wg B TT ip,lb⟩
 have DRk:DR l.prog w K mg base fM fL fJ:=⟨λC h=>by rcases h with e | e | e; (rw[e];exact⟨TO.cO,nH⟩); (rw[e];exact⟨TO.cR,⟨_,_,⟨fiR_rank,gF,gk⟩,wg B TT ip,lb⟩⟩); (rw[e];exact⟨TO.cW,⟨_,_,⟨fiW_rank,gF,gk⟩,wg B TT ip,lb⟩⟩)⟩
 have gM:=zD (st:=yo) iC iD fY
 have iF:=gM.binds (ps:=["self","one","other"]) λ_ _ _ _ _ _ us hl=>by obtain⟨_,_,_,rfl⟩:=ZZ hl;rfl
 have nv:DM l.prog w K mg base CX0 3 fM "before" ["self","one","other"] (Vo fM fL fJ):=⟨_,_,⟨iB,gr,fY⟩,xC B DRk gM,iF⟩
 have DBk:DB l.prog w K mg base fM fL fJ:=⟨λC h=>by rcases h with e | e | e; (rw[e];exact⟨TO.cO,nv⟩); (rw[e];exact⟨TO.cR,⟨_,_,⟨fiR_before,gr,fY⟩,xC B DRk gM,iF⟩⟩); (rw[e];exact⟨TO.cW,⟨_,_,⟨fiW_before,gr,fY⟩,xC B DRk gM,iF⟩⟩)⟩
 have D4:Df l.prog w K mg base CX0 1 "first_within" ["rules","word","start","end"] [] (va K):=⟨_,_,qp B F4,M4,p4,B4⟩
 have D5:Df l.prog w K mg base CX0 2 "first_from" ["rules","word","start"] [] (uP K):=⟨_,_,kM B TWi F5 D4,M5,p5,B5⟩
 have O6:=KS (P:=l.prog) (w:=w) (base:=base) B TF TUd F6 D5 D3
 have D6:Df l.prog w K mg base (CXx l.prog w) 4 "gone" ["rules","word","most"] [] (wS K fN):=⟨_,_,O6,M6,p6,λs us hK hl=>by obtain⟨_,_,_,rfl⟩:=ZZ (us:=us) (by simpa using hl);exact BindsTo.of_defaults rfl (hK _ _ mJ) rfl rfl rfl⟩
 have D6d:Df l.prog w K mg base (CXx l.prog w) 4 "gone" ["rules","word","most"] [.int 4000 lu] (wS K fN):=⟨_,_,O6,M6,p6,λs us hK hl=>by obtain⟨_,_,rfl⟩:=uw (us:=us) (by simpa using hl);exact BindsTo.of_defaults rfl (hK _ _ mJ) rfl rfl rfl⟩
 have D7:Df l.prog w K mg base CX0 1 "back" ["steps"] [] (uc K):=⟨_,_,JS B F7,M7,p7,B7⟩
 have D8:Df l.prog w K mg base CX0 1 "moved" ["steps","size"] [] (uX K):=⟨_,_,Qb B F8,M8,p8,B8⟩
 have D9:Df l.prog w K mg base CX0 2 "by_pacts" ["entries","steps"] [] (VS K):=⟨_,_,Yy B F9 D8 D7,M9,p9,B9⟩
 have D10:Df l.prog w K mg base CX0 1 "pairs_of" ["entries"] [] (wj K):=⟨_,_,Yf B F10,M10,p10,B10⟩
 have D11:Df l.prog w K mg base CX0 4 "as_rule" ["order","entry"] [] (xY K fM fL fJ):=⟨_,_,Xw B DBk F11 D7,M11,p11,B11⟩
 have D12:Df l.prog w K mg base CX0 6 "in_order" ["order","entries"] [] (qb K fM fL fJ TB):=⟨_,_,Z7 B DRk (aN X G nsorted) HCH HBT hgT F12 HCC D11,M12,p12,B12⟩
 have D13:Df l.prog w K mg base (CXx l.prog w) 5 "brought_down" ["entries","entry"] [] (jN K fN):=⟨_,_,qZ B TMk F13 D10 D6 D6d D9 D7,M13,p13,B13⟩
 have D14:Df l.prog w K mg base (CXx l.prog w) 1 "refuse_beyond" ["entry"] [] (vI K fN):=⟨_,_,uI B TF TMk F14,M14,p14,B14⟩
 have D15:Df l.prog w K mg base (CXx l.prog w) 6 "built_anew" ["order","entries"] [] (u7 K fM fL fJ fN):=⟨_,_,kQ B F15 D13 D14 D11,M15,p15,B15⟩
 have D16:Df l.prog w K mg base (CXx l.prog w) 7 "thinned" ["order","entries"] [] (Yo K fM fL fJ TB fN):=⟨_,_,Wg B TF TMk F16 D12 D15 D10,M16,p16,B16⟩
 have D17:Df l.prog w K mg base CX0 1 "_law_cell" ["_law_script","_law_k"] [] (qf K):=⟨_,_,J6 B F17,M17,p17,B17⟩
 have D18:Df l.prog w K mg base CX0 1 "_law_mixed" ["_law_cell_here","_law_turn"] [] wk:=⟨_,_,Qy B F18,M18,p18,B18⟩
 have D19:Df l.prog w K mg base CX0 2 "_law_letters" ["_law_cell_here","_law_many"] [] w4:=⟨_,_,XB B F19 D18,M19,p19,B19⟩
 have D20:Df l.prog w K mg base CX0 1 "_law_word" ["_law_number","_law_letters_here","_law_most"] [] qV:=⟨_,_,Kq B F20,M20,p20,B20⟩
 have D21:Df l.prog w K mg base CX0 2 "_law_pair" ["_law_cell_here","_law_letters_here","_law_most"] [] qy:=⟨_,_,Js B F21 D20 D18,M21,p21,B21⟩
 have D22:Df l.prog w K mg base CX0 1 "_law_whole" ["_law_found"] [] uZ:=⟨_,_,UH B ⟨ki,kb⟩ F22,M22,p22,B22⟩
 have D23:Df l.prog w K mg base CX0 2 "_law_steps" ["_law_found"] [] (jV K):=⟨_,_,UK B ⟨kl,kt,kbb⟩ F23 D22,M23,p23,B23⟩
 have D24:Df l.prog w K mg base CX0 1 "_law_used" ["_law_pacts","_law_word_here","_law_step"] [] (vz K):=⟨_,_,KL B F24,M24,p24,B24⟩
 have D25:Df l.prog w K mg base CX0 2 "_law_uses" ["_law_pacts","_law_word_here","_law_most"] [] (kA K):=⟨_,_,KH B F25 D24,M25,p25,B25⟩
 have D26:Df l.prog w K mg base CX0 6 "_law_order" ["_law_kind","_law_letters_here","_law_weights"] [] (jU K fM fL fJ):=⟨_,_,Uu B TT F26,M26,p26,B26⟩
 have D27:Df l.prog w K mg base CX0 3 "_law_entries" ["_law_found"] [] (Z6 K):=⟨_,_,XM B ⟨kl,kt,kbb⟩ ⟨ks⟩ F27 D23,M27,p27,B27⟩
 have D28:Df l.prog w K mg base CX0 1 "_law_rank" ["_law_kind","_law_letters_here","_law_weights","_law_word_here"] [] vx:=⟨_,_,JH B F28,M28,p28,B28⟩
 have lV:=zD (st:=yB) iL iM iN
 have nA:=lV.binds (ps:=["self","order","rules"]) λ_ _ _ _ _ _ us hl=>by obtain⟨_,_,_,rfl⟩:=ZZ hl;rfl
 have nB:DMk l.prog w K mg base (CXx l.prog w) 5 fP ["self","order","rules"] (qe K fM fL fJ fO fP):=⟨_,_,⟨mG,iK,iO,mH⟩,jh B TD TS DBk lV,nA⟩
 have MS:MkS l.prog w K mg base fM fL fJ fO fP:=nB
 have D29:Df l.prog w K mg base CX0 1 "agree" ["one","other","place"] [] uT:=⟨_,_,QD B F29,M29,p29,B29⟩
 have D30:Df l.prog w K mg base CX0 2 "overlaps" ["rules"] [] (wl K):=⟨_,_,Yq B F30 D29,M30,p30,B30⟩
 have D31:Df l.prog w K mg base CX0 4 "peak" ["rules","overlap"] [] (qJ K):=⟨_,_,JR B F31 D3,M31,p31,B31⟩
 have D32:Df l.prog w K mg base (CXx l.prog w) 5 "form_of" ["rules","word","most","forms"] [] (kK l.prog w K fN):=⟨_,_,XD B F32 D6 D6d,M32,p32,B32⟩
 have D33:Df l.prog w K mg base (CXx l.prog w) 6 "is_met" ["rules","overlap","most","forms"] [] (uV l.prog w K fN):=⟨_,_,V6 B F33 D31 D32,M33,p33,B33⟩
 have iG:=zD (st:=zQ) gz gA gc
 have me:=iG.binds (ps:=["self"]) λ_ _ _ _ _ _ us hl=>by obtain⟨_,rfl⟩:=Z0 hl;rfl
 have mf:DM l.prog w K mg base CX0 1 fP "rules_told" ["self"] (kd K fP):=⟨_,_,⟨gy,gB,gc⟩,vb B TS iG,me⟩
 have O34:=UL (P:=l.prog) (w:=w) (base:=base) B TS F34 D30 D33 mf
 have D34:Df l.prog w K mg base (CXx l.prog w) 7 "unmet" ["system","most"] [] (vP K fP fN):=⟨_,_,O34,M34,p34,λs us hK hl=>by obtain⟨_,_,rfl⟩:=uw (us:=us) (by simpa using hl);exact BindsTo.of_defaults rfl (hK _ _ md) rfl rfl rfl⟩
 have D34d:Df l.prog w K mg base (CXx l.prog w) 7 "unmet" ["system","most"] [.int 4000 lY] (vP K fP fN):=⟨_,_,O34,M34,p34,λs us hK hl=>by obtain⟨_,rfl⟩:=Z0 (us:=us) (by simpa using hl);exact BindsTo.of_defaults rfl (hK _ _ md) rfl rfl rfl⟩
 have D35:Df l.prog w K mg base CX0 7 "system_by" ["order","entries"] [] (jM K fM fL fJ fP):=⟨_,_,Za B TS MS F35 D10,M35,p35,B35⟩
 have D36:Df l.prog w K mg base CX0 1 "first_entries" ["pacts"] [] (jT K):=⟨_,_,uG B F36,M36,p36,B36⟩
 have D37:Df l.prog w K mg base CX0 1 "is_beyond" ["entries"] [] (ql K):=⟨_,_,ZH B (aN X G nany) TMcc F37,M37,p37,B37⟩
 have D38:Df l.prog w K mg base CX0 8 "thinned_within" ["order","entries"] [] (VQ K fM fL fJ TB):=⟨_,_,vS B TF ⟨sFF⟩ F38 D16 D37,M38,p38,B38⟩
 have D39:Df l.prog w K mg base CX0 9 "unmet_within" ["order","entries"] [] (Ue K fM fL fJ):=⟨_,_,qX B TF ⟨sFF⟩ TMcc F39 D34 D34d D35,M39,p39,B39⟩
 have D40:Df l.prog w K mg base CX0 5 "entry_of" ["entries","overlap"] [] (uW K):=⟨_,_,Yw B F40 D31 D9 D10,M40,p40,B40⟩
 have D41:Df l.prog w K mg base CX0 10 "completed" ["order","pacts","rounds"] [] (V9 K fM fL fJ TB):=⟨_,_,ZO B TMcc F41 D36 D38 D39 D40,M41,p41,B41⟩
 have D42:Df l.prog w K mg base CX0 4 "_law_told" ["_law_found"] [] (ku K):=⟨_,_,Jy B ⟨kt,kbb⟩ F42 D27,M42,p42,B42⟩
 have D43:Df l.prog w K mg base CX0 1 "_law_down" ["_law_rules","_law_word_here","_law_last"] [] (u8 K):=⟨_,_,JT B F43,M43,p43,B43⟩
 have D44:Df l.prog w K mg base CX0 3 "_law_words" ["_law_pacts","_law_word_here","_law_cells"] [] (qc K):=⟨_,_,UO B F44 D25 D24 D18,M44,p44,B44⟩
 exact zaO B (aN X G nany) F45 D17 D19 D41 D20 D43 D21 D26 D42 D18 D44 D28
theorem walk{l:PySem.W.OpenLaw}{q:oV}{loose:List oW}{XP:(oW->Option oQ)->pb->Prop}{YP:oX->pb->Prop}{d:DefRec}{K:Params->oO}(hn:l.most=sE 63)(hdf:d.params.defaults=[])
  (hY:∀(w:oX) (h:pb),YP w h->(K w.params).In h) (hj:((PyProof.Rows.recsOf q).find? λr=>r.name == ("in_order" : oW)).isSome=sG) (hno:∀w:oX,JN (K w.params)=sG)
  (F:∀(w:oX) (mg:oW->Option oQ) (fa:oP) (h:pb) (cc T:oP),(K w.params).In h->h.Ns oK mg->mg d.name=sE (.ref fa)->(∃a o fd,mg "in_order" = sE (.ref a)/\h.get? a=sE o/\o.data=.func fd/\fd.code=.ref cc)->oK≠T ->
   ∃fd:oU,(∀(s:oR) (u:oQ),rR s fd ⟨[u],[]⟩ [("_law_script",u)])/\∀base:pb,(K w.params).In base->base.Ns oK mg->base.BuiltinsAt mg T->PySem.W.CodeHd base cc T->yg l.prog w (K w.params) mg base CX0 11 fa fd ["_law_script"] (Xi (K w.params) T)) :
  PySem.W.WalkO q loose XP YP l.row.toRowW d [] (λf vs=>fF f vs):=by
 obtain⟨din,hd⟩:=Option.isSome_iff_exists.mp hj
 have hnm:din.name="in_order":=by simpa using dF hd
 exact L3.walk_ofT (n:=63) (k:=11) (x:="_law_script") (CX:=λ_=>CX0) (din:=din) (sp:=λw T=>Xi (K w.params) T) hn (by decide) hdf ⟨rfl,by decide,by decide⟩ (d6 hd) hY hno (λw mg fa h cc T a b c e g=>F w mg fa h cc T a b c (by rw[hnm] at e;exact e) g) (λ_ _ a ns T hl hB hT hS=>⟨a,ns,rfl,hS,hB,hT,λ_=>rfl⟩) λ_ _ _ _ _ z=>z
end LL
namespace PySem.W.Fast
def tw603058647414640369:=Nat
def tw18029133404133750423:=Nat
def tw5742425407577744524:=Nat
def tw3761356440325705186:=Nat
def tw17048221473440164688:=Nat
def tw17701679134474731439:=Nat
def tw6683229542913808659:=Nat
def tw8248784671266856097:=Nat
def tw306175451229670418:=Nat
def tw14296900238920435681:=Nat
def tw10935157207462932376:=Nat
def tw377104554025832063:=Nat
def tw11285717911881780088:=Nat
def tw3769982842475584662:=Nat
def tw16020954068577130052:=Nat
def tw14680204926909749237:=Nat
def tw13543536447975275700:=Nat
def tw7010454650384415133:=Nat
def tw2884179830022585475:=Nat
def tw11482943721508320871:=Nat
def tw15351919694386129175:=Nat
def tw9897014891252861495:=Nat
def tw10434952134382937295:=Nat
def tw643726915004782697:=Nat
def tw10731187172912530952:=Nat
def tw12899368934102552736:=Nat
def tw661023223955678389:=Nat
def tw2723367949135061227:=Nat
def tw6644998597285456620:=Nat
def tw13132658231466761300:=Nat
def tw8417383880363663461:=Nat
def tw1233677854228141648:=Nat
def tw15984493701717772794:=Nat
def tw16247799620356337501:=Nat
def tw2098944712204929051:=Nat
def tw7863450285634008223:=Nat
def tw9120861660745071432:=Nat
def tw6205812050616563361:=Nat
def tw18110301637259341397:=Nat
def tw6230062058371192250:=Nat
def tw3814405121946664204:=Nat
def tw1802011363473318330:=Nat
def tw12595626717132810342:=Nat
def tw760059269095209307:=Nat
def tw3584848591367179386:=Nat
def tw5630737908659563427:=Nat
def tw1319664931991411421:=Nat
def tw17197060338154295591:=Nat
def tw3770811436221836958:=Nat
def tw18052518590171872667:=Nat
def tw5297037216034589025:=Nat
def tw46958326061110345:=Nat
def tw1001469557272762284:=Nat
def tw2057945473151368503:=Nat
def tw15659391581705483221:=Nat
def tw10607369962035698732:=Nat
def tw1095252721992789216:=Nat
def tw18027307477200103027:=Nat
def tw71077448786643852:=Nat
def tw9922217161086223742:=Nat
def tw4335012181836369803:=Nat
def tw2815143610964970817:=Nat
def tw16974285938122006522:=Nat
def tw1726575160431181364:=Nat
def tw14512307215154354310:=Nat
def tw17223626215377722103:=Nat
def tw10139251669968692687:=Nat
def tw3709412063512076566:=Nat
def tw15102459190739377197:=Nat
def tw2723926123641505310:=Nat
def tw11407187920405402686:=Nat
def tw14725199437390423807:=Nat
def tw9160787242581902881:=Nat
def tw9783656673616609101:=Nat
def tw1023950828279688876:=Nat
def tw8655612222362897801:=Nat
def tw3410223961575376184:=Nat
def tw4072571141979226356:=Nat
def tw2757227916134692923:=Nat
def tw18240982291164434164:=Nat
def tw15458428934840661008:=Nat
def tw796855094039365396:=Nat
def tw8545165721159355128:=Nat
def tw13166665840164658717:=Nat
def tw6116629455105680252:=Nat
def tw6710131673905013728:=Nat
def tw12301588783588488356:=Nat
def tw1174833525360097848:=Nat
def tw11593598342865148748:=Nat
def tw5462966020719088406:=Nat
def tw10917806407215288349:=Nat
def tw13967898887282327516:=Nat
def tw5177816346267488201:=Nat
def tw1482403207246225695:=Nat
def tw15455700362847656239:=Nat
def tw17380896216917983757:=Nat
def tw12246226230886480446:=Nat
def tw9647063643604212482:=Nat
def tw14383395158398550394:=Nat
def tw5932859707819064074:=Nat
def tw14737213724821508569:=Nat
def tw10408760523190524157:=Nat
def tw6000393214096516374:=Nat
def tw12141252889280466574:=Nat
def tw16006336694741088907:=Nat
def tw7621367132084039723:=Nat
def tw13405180572993252031:=Nat
def tw14131810517678422219:=Nat
def tw7899468210977420983:=Nat
def tw11508157210624419411:=Nat
def tw2618546423973580290:=Nat
def tw6846847609706274569:=Nat
def tw15304464775301356976:=Nat
def tw6040018462199633611:=Nat
def tw176446207849285986:=Nat
def tw1867763789883707275:=Nat
def tw16190620636543665381:=Nat
def tw3412446448386160502:=Nat
def tw16119106053524627227:=Nat
def tw15146869147914945201:=Nat
def tw15237103818549151263:=Nat
def tw14333717725234736661:=Nat
def tw15763497899526745676:=Nat
def tw4443437252564233829:=Nat
def tw5821976898872069262:=Nat
def tw4133065345317360459:=Nat
def tw17514392268142926442:=Nat
def tw6010995493743114305:=Nat
def tw3906130246007048027:=Nat
def tw9727374399913425366:=Nat
def tw8212248958572846306:=Nat
def tw12950769837700533115:=Nat
def tw14785971103212988946:=Nat
def tw14972120377864970634:=Nat
def tw15062823065135312406:=Nat
def tw15980365725843464212:=Nat
def tw138083180743789767:=Nat
def tw5025061625103440205:=Nat
def tw7767769691369324219:=Nat
def tw4297850870410891115:=Nat
def tw15202610559534938725:=Nat
def tw17806591851617906354:=Nat
def tw271224906892240432:=Nat
def tw15082281586023111360:=Nat
def tw2408457633998243734:=Nat
def tw12458199529667468182:=Nat
def tw14278590487636595416:=Nat
def tw14797435398496390500:=Nat
def tw17886826638379602370:=Nat
def tw9996515119850061609:=Nat
def tw14548077688492319001:=Nat
def tw7412709277980310218:=Nat
def tw18068901287036446807:=Nat
def tw4338788994833200385:=Nat
def tw13628231953461000178:=Nat
def tw8349822747779886051:=Nat
def tw9133324275737593115:=Nat
def tw7696469808255008413:=Nat
def tw578239567782935842:=Nat
def tw5646878562238102695:=Nat
def tw11149914457177550659:=Nat
def tw14093343189951618953:=Nat
def tw16639866805695332069:=Nat
def tw6974386589327585042:=Nat
def tw10140926315689812362:=Nat
def tw9705232341978811050:=Nat
def tw7826045743509936937:=Nat
def tw14204405257067880421:=Nat
def tw8142005455596751047:=Nat
def tw13600096126182677689:=Nat
def tw5369136575893040722:=Nat
def tw6064250670752099392:=Nat
def tw3099044567288785224:=Nat
def tw4794785241774755941:=Nat
def tw13675415469273812054:=Nat
def tw18315841488912112423:=Nat
def tw15080108543897093042:=Nat
def tw14356718037042914796:=Nat
def tw5282974558536658282:=Nat
def tw391173618877889831:=Nat
def tw4387905026974851795:=Nat
def tw5489244601792230662:=Nat
def tw17555271018267351944:=Nat
def tw5246276384486471555:=Nat
def tw7514897216897107642:=Nat
def tw16141299036667820834:=Nat
def tw11316943562018565323:=Nat
def tw15360707407994580875:=Nat
def tw17655824889375261669:=Nat
def tw5287231358760781017:=Nat
def tw6246563714013097217:=Nat
def tw512787711791897421:=Nat
def tw1878939107449757702:=Nat
def tw9177586376121888868:=Nat
def tw911859774590591514:=Nat
def tw9267728253554302675:=Nat
def tw3934004233295506538:=Nat
def tw11979204359626955722:=Nat
def tw14582855165755421836:=Nat
end PySem.W.Fast
open PySem PySem.W PyProof.Rows
set_option maxRecDepth 100000 in
set_option maxHeartbeats 0 in
theorem PySem.Challenge.cw_letterlaw_k80_whole_least_of_class_holds : PySem.Challenge.rw_letterlaw_k80_whole_least_of_class.Holds := by
 w_on;o_law;k_head; (case hw=>w_witness2)
 k_fill
 refine LL.walk (l:=PySem.Challenge.rw_letterlaw_k80_whole_least_of_class) rfl rfl (λw h Y=>PySem.W.km_in_of Y) ?hJJ ?hNN ?hFF
 case hJJ=>first | kernel_rfl | rfl | decide +kernel
 case hNN=>intro w;first | kernel_rfl | rfl
 case hFF =>
  intro w mg fa h cc T KX G hmg hlam hgT
  refine' LL.all_mk KX G hmg hlam hgT ?a0 ?l0 ?k0 ?p0 ?a1 ?l1 ?k1 ?p1 ?a2 ?l2 ?k2 ?p2 ?a3 ?l3 ?k3 ?p3 ?a4 ?l4 ?k4 ?p4 ?a5 ?l5 ?k5 ?p5 ?a6 ?l6 ?k6 ?p6 ?a7 ?l7 ?k7 ?p7 ?a8 ?l8 ?k8 ?p8 ?a9 ?l9 ?k9 ?p9 ?a10 ?l10 ?k10 ?p10 ?a11 ?l11 ?k11 ?p11 ?a12 ?l12 ?k12 ?p12 ?a13 ?l13 ?k13 ?p13 ?a14 ?l14 ?k14 ?p14 ?a15 ?l15 ?k15 ?p15 ?a16 ?l16 ?k16 ?p16 ?a17 ?l17 ?k17 ?p17 ?a18 ?l18 ?k18 ?p18 ?a19 ?l19 ?k19 ?p19 ?a20 ?l20 ?k20 ?p20 ?a21 ?l21 ?k21 ?p21 ?a22 ?l22 ?k22 ?p22 ?a23 ?l23 ?k23 ?p23 ?a24 ?l24 ?k24 ?p24 ?a25 ?l25 ?k25 ?p25 ?a26 ?l26 ?k26 ?p26 ?a27 ?l27 ?k27 ?p27 ?a28 ?l28 ?k28 ?p28 ?a29 ?l29 ?k29 ?p29 ?a30 ?l30 ?k30 ?p30 ?a31 ?l31 ?k31 ?p31 ?a32 ?l32 ?k32 ?p32 ?a33 ?l33 ?k33 ?p33 ?a34 ?l34 ?k34 ?p34 ?a35 ?l35 ?k35 ?p35 ?a36 ?l36 ?k36 ?p36 ?a37 ?l37 ?k37 ?p37 ?a38 ?l38 ?k38 ?p38 ?a39 ?l39 ?k39 ?p39 ?a40 ?l40 ?k40 ?p40 ?a41 ?l41 ?k41 ?p41 ?a42 ?l42 ?k42 ?p42 ?a43 ?l43 ?k43 ?p43 ?a44 ?l44 ?k44 ?p44 ?a45 ?l45 ?k45 ?p45 ?g_LetterError ?g_NoLetters ?g_NoOrder ?g_Order ?g_FromRight ?g_ByWeights ?g_NotTurned ?g_System ?g_NoUse ?g_TooFar ?kbb ?kt ?ki ?kb ?kl ?x7 ?x8 ?x1 ?x2 ?x3 ?x4 ?x5 ?x6 ?x9 ?xi ?y1 ?y2 ?y3 ?y4 ?y5 ?y6 ?y9 ?yi ?most ?mostw ?mT ?mU ?mV ?mX ?mY ?mZ ?nc ?nQ ?nR ?nS ?lw ?lx ?ly ?lA ?lB ?lC ?lD ?mv ?mw ?mx ?lE ?lF ?lG ?lH ?lJ ?lK ?lL ?my ?mz ?mB ?nw_ByWeights ?sgO ?rdO ?win ?tt1 ?tt2 ?tt3 ?tt4 ?tt5 ?tt6 ?tt9 ?nn ?ini ?lI ?kI ?pI ?fnI ?mC ?mD ?mE ?mF ?mG ?mH ?no_System ?nr_System ?u1 ?u2 ?u3 ?u4 ?u5 ?u6 ?u9 ?ua ?iniU ?lU ?kU ?pU ?fnU ?v1 ?v2 ?v3 ?v4 ?v5 ?v6 ?v9 ?vi ?sFF ?ks ?nany ?nsorted ?mou ?mos ?mod_ ?mop ?mcu ?mce ?mcd ?mcp ?iQ ?iR ?iS ?ik ?il ?iw ?iz ?iA ?gq ?gL ?iT ?iU ?iV ?gE ?im ?gQ ?gT ?gU ?gx ?gX ?gY ?gZ ?ic ?ie ?ig ?gG ?gH ?gJ ?gf ?gK ?iW ?iX ?iY ?gk ?gF ?iB ?iC ?iD ?fY ?gr ?iK ?iL ?iM ?iN ?iO ?gy ?gz ?gA ?gc ?gB ?mJ ?md ?fcO ?fiR_init ?fiR_weight ?fiW_seen ?fiR_rank ?fiW_rank ?fiR_before ?fiW_before ?b0 ?b1 ?b2 ?b3 ?b4 ?b5 ?b6 ?b7 ?b8 ?b9 ?b10 ?b11 ?b12 ?b13 ?b14 ?b15
  case a0|l0|k0|p0|a1|l1|k1|p1|a2|l2|k2|p2|a3|l3|k3|p3|a4|l4|k4|p4|a5|l5|k5|p5|a6|l6|k6|p6|a7|l7|k7|p7|a8|l8|k8|p8|a9|l9|k9|p9|a10|l10|k10|p10|a11|l11|k11|p11|a12|l12|k12|p12|a13|l13|k13|p13|a14|l14|k14|p14|a15|l15|k15|p15|a16|l16|k16|p16|a17|l17|k17|p17|a18|l18|k18|p18|a19|l19|k19|p19|a20|l20|k20|p20|a21|l21|k21|p21|a22|l22|k22|p22|a23|l23|k23|p23|a24|l24|k24|p24|a25|l25|k25|p25|a26|l26|k26|p26|a27|l27|k27|p27|a28|l28|k28|p28|a29|l29|k29|p29|a30|l30|k30|p30|a31|l31|k31|p31|a32|l32|k32|p32|a33|l33|k33|p33|a34|l34|k34|p34|a35|l35|k35|p35|a36|l36|k36|p36|a37|l37|k37|p37|a38|l38|k38|p38|a39|l39|k39|p39|a40|l40|k40|p40|a41|l41|k41|p41|a42|l42|k42|p42|a43|l43|k43|p43|a44|l44|k44|p44|a45|l45|k45|p45|g_LetterError|g_NoLetters|g_NoOrder|g_Order|g_FromRight|g_ByWeights|g_NotTurned|g_System|g_NoUse|g_TooFar=>k_is
  (case kbb=>first | kernel_rfl | rfl)
  (case kt=>first | kernel_rfl | rfl)
  (case ki=>first | kernel_rfl | rfl)
  (case kb=>first | kernel_rfl | rfl)
  (case kl=>first | kernel_rfl | rfl)
  case x7|x8=>k_is
  (case x1=>first | kernel_rfl | rfl | decide +kernel)
  case x2|x3|x4|x5|x6|x9|xi=>k_is
  (case y1=>first | kernel_rfl | rfl | decide +kernel)
  case y2|y3|y4|y5|y6|y9|yi|most|mostw=>k_is
  (case mT=>first | kernel_rfl | rfl | k_is | decide +kernel)
  (case mU=>first | kernel_rfl | rfl | k_is)
  (case mV=>first | kernel_rfl | rfl | k_is | decide +kernel)
  case mX=>k_is
  (case mY=>first | kernel_rfl | rfl | k_is | decide +kernel)
  case mZ|nc=>k_is
  (case nQ=>first | kernel_rfl | rfl)
  case nR|nS=>k_is
  (case lw=>first | kernel_rfl | rfl | k_is | decide +kernel)
  (case lx=>first | kernel_rfl | rfl | k_is)
  (case ly=>first | kernel_rfl | rfl | k_is | decide +kernel)
  case lA=>k_is
  (case lB=>first | kernel_rfl | rfl | k_is | decide +kernel)
  case lC|lD=>k_is
  (case mv=>first | kernel_rfl | rfl)
  case mw|mx=>k_is
  (case lE=>first | kernel_rfl | rfl | k_is | decide +kernel)
  (case lF=>first | kernel_rfl | rfl | k_is)
  (case lG=>first | kernel_rfl | rfl | k_is | decide +kernel)
  case lH=>k_is
  (case lJ=>first | kernel_rfl | rfl | k_is | decide +kernel)
  case lK|lL=>k_is
  (case my=>first | kernel_rfl | rfl)
  case mz|mB|nw_ByWeights|sgO=>k_is
  (case rdO=>first | kernel_rfl | rfl | k_is | decide +kernel)
  case win=>k_is
  (case tt1=>first | kernel_rfl | rfl | decide +kernel)
  case tt2|tt3|tt4|tt5|tt6|tt9|nn|ini|lI|kI|pI=>k_is
  (case fnI=>first | kernel_rfl | rfl | k_is)
  (case mC=>first | kernel_rfl | rfl | k_is | decide +kernel)
  (case mD=>first | kernel_rfl | rfl | k_is)
  (case mE=>first | kernel_rfl | rfl | k_is | decide +kernel)
  case mF=>k_is
  (case mG=>first | kernel_rfl | rfl | k_is | decide +kernel)
  case mH|no_System|nr_System=>k_is
  (case u1=>first | kernel_rfl | rfl | decide +kernel)
  case u2|u3|u4|u5|u6|u9|ua|iniU|lU|kU|pU=>k_is
  (case fnU=>first | kernel_rfl | rfl | k_is)
  (case v1=>first | kernel_rfl | rfl | decide +kernel)
  case v2|v3|v4|v5|v6|v9|vi|sFF=>k_is
  (case ks=>first | kernel_rfl | rfl)
  case nany|nsorted|mou|mos|mod_|mop|mcu|mce|mcd|mcp|iQ|iR|iS|ik=>k_is
  (case il=>first | kernel_rfl | rfl | k_is)
  case iw|iz|iA|gq=>k_is
  (case gL=>first | kernel_rfl | rfl | k_is)
  case iT|iU|iV|gE=>k_is
  (case im=>first | kernel_rfl | rfl | k_is)
  case gQ|gT|gU|gx=>k_is
  (case gX=>first | kernel_rfl | rfl | k_is)
  case gY|gZ|ic|ie=>k_is
  (case ig=>first | kernel_rfl | rfl | k_is)
  case gG|gH|gJ|gf=>k_is
  (case gK=>first | kernel_rfl | rfl | k_is)
  case iW|iX|iY|gk=>k_is
  (case gF=>first | kernel_rfl | rfl | k_is)
  case iB|iC|iD|fY=>k_is
  (case gr=>first | kernel_rfl | rfl | k_is)
  case iK|iL|iM|iN=>k_is
  (case iO=>first | kernel_rfl | rfl | k_is)
  case gy|gz|gA|gc=>k_is
  (case gB=>first | kernel_rfl | rfl | k_is)
  case mJ|md|fcO|fiR_init|fiR_weight|fiW_seen|fiR_rank|fiW_rank|fiR_before|fiW_before|b0|b1|b2|b3|b4|b5|b6|b7|b8|b9|b10|b11|b12|b13|b14|b15=>k_is
#print axioms PySem.Challenge.cw_letterlaw_k80_whole_least_of_class_holds
