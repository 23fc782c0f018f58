import PyProof.Rows.All
import Wide.All
import OpenK.AllK
import Wide.FinOn
import PyProof.EqAt
import PyProof.EqKinds
import PyProof.NeKinds
import PyProof.TupleCall
import KE.KRevIter
import PyProof.ZipIter
import PyProof.Rows.SetFrom
import PyProof.StrWalks
import PyProof.DictStraight
import PyProof.StrLawsFrom
import PyProof.Rows.StrNews2
import KE.KMinBuiltin
import PyProof.Rows.CallKwBuiltin
import PyProof.Rows.SortShell
import KE.KSortTup
import KE.KBoundM
import KE.KLam
import Lean
import PySem.Challenge.RW_letterlaw_k57_whole_only_one_list
set_option compiler.extract_closed false
open PySem.Heap renaming get?_push_of_some→aa,lt_size→ay,get?_push_size→aI,get?_update_other→aL,size_push→bH,get?_update_self→bW,size_update→dn
open List renaming getD_eq_getElem?_getD→ac,length_map→ae,mem_of_getElem?→af,getElem?_eq_getElem→al,length_append→am,size_toArray→ao,mem_cons_of_mem→aw,append_assoc→ax,mem_cons_self→az,mem_append_right→aA,map_cons→aC,getElem?_map→aG,map_append→aH,length_take→aK,length_cons→aM,map_nil→aN,take_length→aQ,mem_append_left→aR,append_nil→aS,take_append_of_le_length→aU,drop_eq_getElem_cons→aV,lookup_cons→aW,range→aY,drop_of_length_le→aZ,take_of_length_le→bf,toArray→bh,set_cons_zero→bi,set_cons_succ→bj,replicate→bp,lookup→bq,length_drop→br,sum_cons→bt,mem_of_mem_take→bu,nil_append→bv,getElem?_take_of_lt→bx,getElem?_eq_none→bz,take_zero→bA,cons_append→bF,take_append_drop→bK,getElem?_reverse→bL,drop_append_of_le_length→bM,getElem?_append_right→bS,getElem?_append_left→bY,mem_of_mem_drop→cf,idxOf_lt_length_of_mem→cq,length_replicate→cr,length_singleton→cu,length_nil→cw,drop_left→cD,map_congr_left→cF,countP_cons_of_pos→cG,eraseIdx_cons_succ→cH,range_succ→cM,filter_append→cN,length_filter_le→cQ,take_left→cS,replicate_succ→cX,flatMap_append→cY,of_mem_zip→da,forIn_cons→db,filter_nil→dc,contains_cons→df,zip_cons_cons→dg,append_cancel_left→dh,countP_cons_of_neg→di,length_range→dj,mem_cons→dm,map_map→dw,find?_some→dz,eq_nil_of_length_eq_zero→dA,filterMap_cons→dB,take_succ_cons→dF,drop_zero→dI,drop_drop→dJ,getElem_idxOf→dL,pairwise_map→dQ,eraseIdx_nil→dW,extract_eq_drop_take→dX,pairwise_iff_getElem→dY,mem_of_find?_eq_some→dZ,drop_length→d6,mem_nil_iff→d8,filter_cons→ef,getElem?_replicate→eg,pairwise_singleton→eh,getElem?_cons_zero→em,filter_cons_of_pos→eC,filter_cons_of_neg→eD,getElem?_set_self→eG,length→eJ,range_succ_eq_map→eK,forIn_nil→eO,mem_range→eP,take_take→eQ,mem_of_mem_head?→eR,getElem?_set_ne→eS,length_reverse→eX,getElem?_drop→e9,getElem_range→fg
open PySem.W renaming findIn→ah,keepIn→aj,nsIn→ak,mg_of→aq,codeIn→ar,fnOf→av,mg_none_of→aP,kitOne→aT,isFn→bg,kia_one→bn,emptyDict→bJ,callWith_K→bN,mroIn→bP,hasDictIn→bQ,plainGet→bT,methodCall_KW→bV,kla_fn→bX,instObj→bZ,plainOver→cz,specialIn→cA,looks_findIn→cB,subIn→cJ,makesIn→cK,takesIn→du,plainGet_of→dD,lookIn→dH,methodObj→dO,kitx_list→dP,envX→ee,takerIn→eE,cellsFrom_some→eI,callWith_K0→eW,kitx_tuple→eZ,set_plain→fh,kitx_dict→fj,handedIn→fm,bind_fn→fq,findObj→ft,readsIn→fu,findCls→fv,kat_nil→fz,kas_ask→fA
open Nat renaming le_refl→au,lt_of_lt_of_le→aD,ne_of_lt→aE,zero_le→aJ,le_trans→aO,ne_of_gt→cb,lt_succ_of_lt→ci,le_add_right→cj,lt_of_le_of_lt→cp,min_eq_left→cy,le_succ→cC,lt_irrefl→cI,not_lt_zero→cL,le_of_not_lt→cT,le_of_lt→de,min_eq_right→dq,lt_trichotomy→dU,lt_succ_self→d4,succ_mul→d5,lt_or_ge→d7,zero_add→d9,min_self→e7
open PySem renaming boot_len→aB,mem_of_lookup→bR,strKind→cU,frameOf→dM,passOn→e8,call→fw
open Bool renaming false_ne_true→aF,false_eq_true→bO,eq_false_or_eq_true→ce,and_eq_true→cE,eq_iff_iff→cZ,or_true→dv,and_false→eN,and_true→eV
open Int renaming toNat_natCast→aX,emod_lt_of_pos→ba,emod_nonneg→be,eq_ofNat_of_zero_le→bE,le_refl→fk
open PySem.F renaming plainAttrs_list→bc,slot_list_append→bB,type_list_append→bC,plain_max_loop→bI,plainAttrs_str→cP,entry_max_loop→dk,excBase_ValueError→dN,slot_str_count→eL,type_str_count→eM
open Decidable renaming byContradiction→bw
open PyProof.Rows renaming callWith_type1→bD
open PySem.Str renaming ofString→bG,empty→eF
open Option renaming bind_some→bU,getD_none→fo
open Array renaming length_toList→dC,getD→eU,toList_append→eY
open PySem renaming wpAny_bind→oH,wpAny_pure→oJ,mainGlobals→oK,starEach→oM,sizeLine→oN
open PySem.W renaming Frag→oO
open PySem renaming Addr→oP,Value→oQ,Shared→oR,wpAny→oS,FuncData→oU,Program→oV,Str→oW,World→oX,Around→oY,Expr→oZ,Heap→pb,Stmt→pc,keywordEach→pf,compareOp→ph,wpAny_field→pi,backTo→pj,strIterType→pq,wpAny_Call_Name_kw→pz,sizeLine_eq→pA,wpAny_truthy_bool→pB,wpAny_noRaise→pC,Obj→pD,wpAny_holding→pE,bootBuiltins→pF,backToKw→pG,wpAny_seqItems→pH,wpAny_loadPart_at→pJ,Scope→pK,IsPair→pL,wpAny_passesOwn→pM,wpAny_standAt→pN,codeAny→pO,wpAny_setField→pP,wpAny_setField_rec→pQ,wpAny_execs_nil→pR,Pos→pS,wpAny_mono→pT,wpAny_call→pV,wpAny_execs_cons→pW,codeAny_mono→pX,wpAny_isSubtype_exc→pY,wpAny_comprehension_free→pZ,codeAny_builtin→ra,wpAny_letGo→rb,wpAny_tryCatch→re,plainObj_wpAny_Assign_Attribute→rf,wpAny_attempt→rg,wpAny_newFunctionEnv→rh,codeAny_call_builtin→rj,NameKind→rm,Arguments→rq,IsZip→rz,wpAny_pyIter_list→rA,wpAny_newObj_type→rB,Tok→rD,wpAny_getItem_str_slice→rE,wpAny_call_entry→rF,wpAny_rule→rG,codeAny_compStart_list→rJ,wpAny_updateSeq→rK,Env→rL,wpAny_updateSeq_pair→rM,wpAny_pyIter_revIter→rN,wpAny_loadPart→rO,recursionLimit→rP,excClassObj→rQ,Result→rR,BindsTo→rS,wpAny_onRaise→rT,wpAny_newList→rV,ExceptHandler→rX,wpAny_pyIter_tuple→rY,wpAny_pyIter_enum→rZ,wpAny_assign_Name→sf,wpAny_Return_some→si,wpAny_Assign_Name→sj,Model→sk,GenState→sq,wpAny_pyIter_zip→sr,wpAny_lookBehind→su,wpAny_Try_except→sv,isCodeTable→sw,Sem→sx,Keyword→sy,wpAny_Name→sA,TriplesOk→sC,Paired→sE
open PyProof.Rows renaming seqObj→pw,envOfC→rn,AllBare→rp,subscriptTail_builtinR→rH,subscriptTail→rW,IntsAre→so,Subscript_→sB
open Option renaming some→sF,none→sG
open Bool renaming true→sH,false→sI
open PySem PySem.Spec PyProof.Rows
set_option Elab.async false
set_option linter.all false
set_option maxRecDepth 100000
set_option maxHeartbeats 4000000
namespace L2
noncomputable abbrev Key:=Sum Int oW
noncomputable def zaI:Key->oQ->Bool
 | .inl k,v=>Value.isInt k v
 | .inr x,v=>Value.isStrOf x v
noncomputable def zdt(w:oX):Key->Int
 | .inl k=>hashInt k
 | .inr x=>hashStr w x
theorem yl:∀{k:Key} {v:oQ},zaI k v=sH->(∃i t,k=Sum.inl i/\v=Value.int i t)\/(∃x t,k=Sum.inr x/\v=Value.str x t)
 | .inl i,v,h=>by
  obtain⟨t,e⟩:=Value.isInt_shape (k:=i) (v:=v) h
  exact .inl ⟨i,t,rfl,e⟩
 | .inr x,v,h=>by
  obtain⟨t,e⟩:=Value.isStrOf_shape (x:=x) (v:=v) h
  exact .inr ⟨x,t,rfl,e⟩
theorem zaK(a b:Int):decide ((Sum.inl a:Key)=Sum.inl b)=(a == b):=by
 by_cases e:a=b
 ·subst e;simp
 ·have h:¬ (Sum.inl a:Key)=Sum.inl b:=λq=>e (Sum.inl.inj q)
  rw[decide_eq_false h]
  exact (beq_eq_false_iff_ne.mpr e).symm
theorem zav(a b:oW):decide ((Sum.inr a:Key)=Sum.inr b)=decide (a=b):=by
 by_cases e:a=b
 ·subst e;simp
 ·have h:¬ (Sum.inr a:Key)=Sum.inr b:=λq=>e (Sum.inr.inj q)
  rw[decide_eq_false h,decide_eq_false e]
theorem zaF(a:Int)(b:oW):decide ((Sum.inl a:Key)=Sum.inr b)=sI:=decide_eq_false (λq=>nomatch q)
theorem zaj(a:oW)(b:Int):decide ((Sum.inr a:Key)=Sum.inl b)=sI:=decide_eq_false (λq=>nomatch q)
noncomputable def Yo(prog:oV)(w:oX):PySem.KeyKind prog w Key where
 is:=zaI
 hash:=zdt w
 inj:=λv a b ha hb=>by
  rcases yl ha with ⟨i,t,rfl,rfl⟩ | ⟨x,t,rfl,rfl⟩
  ·rcases yl hb with ⟨j,u,rfl,e⟩ | ⟨y,u,rfl,e⟩
   ·injection e with e1 _;rw[e1]
   ·exact nomatch e
  ·rcases yl hb with ⟨j,u,rfl,e⟩ | ⟨y,u,rfl,e⟩
   ·exact nomatch e
   ·injection e with e1 _;rw[e1]
 byValue:=λk v h=>by
  rcases yl h with ⟨i,t,rfl,rfl⟩ | ⟨x,t,rfl,rfl⟩ <;> rfl
 pyHash:=λhv h=>by
  rcases yl hv with ⟨i,t,rfl,rfl⟩ | ⟨x,t,rfl,rfl⟩
  ·exact wpAny_pyHash_int h
  ·exact wpAny_pyHash_str h
 eqBool:=λhu hv h=>by
  rcases yl hu with ⟨i,t,rfl,rfl⟩ | ⟨x,t,rfl,rfl⟩
  ·rcases yl hv with ⟨j,u,rfl,rfl⟩ | ⟨y,u,rfl,rfl⟩
   ·rw[zaK] at h;exact wpAny_eqBool_int h
   ·rw[zaF] at h;exact SeqAt.EqAt.int_str i t y u _ _ _ _ h
  ·rcases yl hv with ⟨j,u,rfl,rfl⟩ | ⟨y,u,rfl,rfl⟩
   ·rw[zaj] at h;exact SeqAt.EqAt.str_int x t j u _ _ _ _ h
   ·rw[zav] at h;exact wpAny_eqBool_str h
 «strs»:=λk x t v h=>by
  rcases yl h with ⟨i,u,rfl,e⟩ | ⟨y,u,rfl,e⟩
  ·exact nomatch e
  ·injection e with e1 _
   subst e1
   cases v <;> rfl
end L2
namespace L2
inductive V where
 | non | bl (b:Bool) | int (i:Int) | str (x:oW) | byt (b:Array UInt8) | flt (b:UInt64) | ref (a:oP) | ty (n:String)
 deriving DecidableEq
def RelV:V->oQ->Prop
 | .non,u=>u=Value.none
 | .bl b,u=>u=Value.bool b
 | .int i,u=>∃t,u=Value.int i t
 | .str x,u=>∃t,u=Value.str x t
 | .byt b,u=>∃t,u=Value.bytes b t
 | .flt b,u=>∃t,u=Value.float b t
 | .ref a,u=>u=Value.ref a
 | .ty n,u=>u=Value.type n
abbrev Vals:List V->List oQ->Prop:=sE RelV
theorem Vals.length{xs:List V}{us:List oQ}(r:Vals xs us):xs.length=us.length:=Paired.length r
theorem Vals.get:∀{xs:List V} {us:List oQ} {i:Nat} {x:V},Vals xs us->xs[i]? = sF x->∃u,us[i]? = sF u/\RelV x u
 | _,_,_,_,.nil,e=>by simp at e
 | _,_,0,_,.cons r _,e=>by simp at e;subst e;exact⟨_,rfl,r⟩
 | _,_,i+1,x,.cons _ t,e=>by
  obtain⟨u,h1,h2⟩:=Vals.get (i:=i) (x:=x) t (by simpa using e)
  exact⟨u,by simpa using h1,h2⟩
theorem Vals.set{x:V}{u:oQ}(r:RelV x u):∀{xs:List V} {us:List oQ} (i:Nat),Vals xs us->Vals (xs.set i x) (us.set i u)
 | _,_,_,.nil=>.nil
 | _,_,0,.cons _ t=>.cons r t
 | _,_,i+1,.cons q t=>.cons q (Vals.set r i t)
theorem Vals.append:∀{xs ys:List V} {us ws:List oQ},Vals xs us->Vals ys ws->Vals (xs ++ ys) (us ++ ws)
 | _,_,_,_,.nil,s=>s
 | _,_,_,_,.cons r t,s=>.cons r (Vals.append t s)
theorem Vals.take:∀{xs:List V} {us:List oQ} (n:Nat),Vals xs us->Vals (xs.take n) (us.take n)
 | _,_,0,_=>.nil
 | _,_,_+1,.nil=>.nil
 | _,_,n+1,.cons r t=>.cons r (Vals.take n t)
theorem Vals.drop:∀{xs:List V} {us:List oQ} (n:Nat),Vals xs us->Vals (xs.drop n) (us.drop n)
 | _,_,0,r=>r
 | _,_,_+1,.nil=>.nil
 | _,_,n+1,.cons _ t=>Vals.drop n t
def RelO:Option V->Option oQ->Prop
 | some v,sF u=>RelV v u
 | none,sG=>True
 | _,_=>False
def KV{κ:Type}:List (κ × V)->List (κ × oQ)->Prop:=sE λ(p:κ × V) (q:κ × oQ)=>p.1=q.1/\RelV p.2 q.2
noncomputable def kV:Key->V
 | .inl i=>.int i
 | .inr x=>.str x
inductive HO where
  | lst (xs:List V)
  | tup (xs:List V)
  | dK (kvs:List (Key × V)) | dT (kvs:List (List Key × V))
  | set (S:Int->Bool) (n:Nat)
  | ins (C dx:oP) (fs:List (oW × V))
  | own (x:oP)
  | xd (fs:List (oW × V))
  | met (f x:oP)
  | rng (lo hi:Int)
  | frz (o:pD) (u:HO)
  | tbl (ps:Array oQ)
  | ext (φ:pb->Prop)
noncomputable abbrev Hp:=oP->Option HO
noncomputable def upd(H:Hp)(a:oP)(o:HO):Hp:=λb=>if b=a then sF o else H b
theorem zf{H:Hp}{a:oP}{o:HO}:upd H a o a=sF o:=by unfold upd;rw[if_pos rfl]
theorem zo{H:Hp}{a b:oP}{o:HO}(h:b≠a):upd H a o b=H b:=by unfold upd;rw[if_neg h]
theorem zH{H:Hp}{a b:oP}{o:HO}(h:H a=sF o)(h':H b=sG):a≠b:=by
 intro e;subst e;rw[h] at h';cases h'
section
variable(P:oV)(w:oX)
def ObjOk(H:Hp)(h:pb)(a:oP):HO->Prop
 | .lst xs=>xs.length<=oN/\∃(its:List oQ) (n:Nat),Vals xs its/\h.get? a=sF { cls:=.type "list",data:=.seq its.toArray n }
 | .tup xs=>xs.length<=oN/\∃its:List oQ,Vals xs its/\IsTup h a its.toArray
 | .dK kvs=>kvs.length<=oN/\(a == sysModules)=sI/\∃vs,KV kvs vs/\h.DictOf (Yo P w) a vs
 | .dT kvs=>kvs.length<=oN/\(a == sysModules)=sI/\∃xs:List (List Key × oP × oQ),
   sE (λ(p:List Key × V) (q:List Key × oP × oQ)=>p.1=q.1/\H q.2.1=sF (.tup (p.1.map kV))/\RelV p.2 q.2.2) kvs xs /\
   ∃o es ep,h.get? a=sF o/\o.ExactDict/\o.data=.dict es ep/\es.toList=xs.map (entryOfKey (tupleKind (Yo P w)))/\(xs.map (·.1)).Nodup
 | .set S n=>h.SetOf (intKind P w) a S n
 | .ins C dx fs=>H dx=sF (.own a)/\fs.length<=1000/\dx≠a/\h.get? a=sF (bZ C dx) /\
   ∃mA,h.Ns1 dx mA/\(∀f,RelO (fs.lookup f) (mA f))/\PySem.Within mA (fs.map (·.1))
 | .own _=>∃o,h.get? a=sF o
 | .xd fs=>∃mA,h.Ns1 a mA/\∀f,RelO (fs.lookup f) (mA f)
 | .rng lo hi=>∃t u v,h.get? a=sF { cls:=.type "range",data:=.fields #[.int lo t,.int hi u,.int 1 v] }
 | .frz o u=>h.get? a=sF o/\ObjOk H h a u
 | .tbl ps=>h.get? a=sF { cls:=.none,data:=.fields ps }
 | .met f x=>h.get? a=sF (dO (.ref f) (.ref x))
 | .ext φ=>φ h/\(∃o,h.get? a=sF o)/\∀h1 h2:pb,φ h1->(∀o,h1.get? a=sF o->h2.get? a=sF o)->φ h2
def HOk(H:Hp)(h:pb):Prop:=∀a o,H a=sF o->ObjOk P w H h a o
end
section
variable{P:oV}{w:oX}{H H':Hp}{h h':pb}{a:oP}{o:HO}
theorem ObjOk.lt(x:ObjOk P w H h a o):a<h.objs.size:=by
 cases o with
 | lst xs=>obtain⟨_,_,_,_,e⟩:=x;exact ay e
 | tup xs=>obtain⟨_,_,_,p⟩:=x;exact p.lt
 | dK kvs=>obtain⟨_,_,_,_,o,_,_,e,_⟩:=x;exact ay e
 | dT kvs=>obtain⟨_,_,_,_,o,_,_,e,_⟩:=x;exact ay e
 | set S n=>obtain⟨o,_,_,_,e,_⟩:=x;exact ay e
 | ins C dx fs=>obtain⟨_,_,_,e,_⟩:=x;exact ay e
 | own y=>obtain⟨_,e⟩:=x;exact ay e
 | xd fs=>obtain⟨_,⟨_,_,_,e,_⟩,_⟩:=x;exact ay e
 | rng lo hi=>obtain⟨_,_,_,e⟩:=x;exact ay e
 | frz ob u=>obtain⟨e,_⟩:=x;exact ay e
 | tbl ps=>exact ay (show h.get? a=sF _ from x)
 | met f y=>exact ay (show h.get? a=sF _ from x)
 | ext φ=>obtain⟨_,⟨_,e⟩,_⟩:=x;exact ay e
theorem Paired.mapP{α β:Type}{F G:α->β->Prop}:∀{l₁:List α} {l₂:List β},sE F l₁ l₂->(∀a b,F a b->G a b)->sE G l₁ l₂
 | _,_,.nil,_=>.nil
 | _,_,.cons r t,f=>.cons (f _ _ r) (Paired.mapP t f)
theorem ObjOk.stay(x:ObjOk P w H h a o)(k:∀b u,(b=a\/H b=sF (.own a))->h.get? b=sF u->h'.get? b=sF u)
  (ho:∀b,H b=sF (.own a)->H' b=sF (.own a)) (ht:∀b xs,H b=sF (.tup xs)->H' b=sF (.tup xs)):ObjOk P w H' h' a o:=by
 induction o with
 | lst xs=>obtain⟨z,its,n,r,e⟩:=x;exact⟨z,its,n,r,k _ _ (.inl rfl) e⟩
 | tup xs=>obtain⟨z,its,r,ob,e,c⟩:=x;exact⟨z,its,r,ob,k _ _ (.inl rfl) e,c⟩
 | dK kvs=>obtain⟨z,y,vs,r,ob,es,ep,e,c⟩:=x;exact⟨z,y,vs,r,ob,es,ep,k _ _ (.inl rfl) e,c⟩
 | dT kvs =>
  obtain⟨z,y,xs,r,ob,es,ep,e,c⟩:=x
  exact⟨z,y,xs,Paired.mapP r λp q z=>⟨z.1,ht _ _ z.2.1,z.2.2⟩,ob,es,ep,k _ _ (.inl rfl) e,c⟩
 | set S n=>obtain⟨ob,es,ep,t,e,c⟩:=x;exact⟨ob,es,ep,t,k _ _ (.inl rfl) e,c⟩
 | ins C dx fs =>
  obtain⟨d,z,ne,e,mA,⟨od,es,ep,e2,c⟩,r⟩:=x
  exact⟨ho _ d,z,ne,k _ _ (.inl rfl) e,mA,⟨od,es,ep,k _ _ (.inr d) e2,c⟩,r⟩
 | own y=>obtain⟨ob,e⟩:=x;exact⟨ob,k _ _ (.inl rfl) e⟩
 | xd fs=>obtain⟨mA,⟨od,es,ep,e,c⟩,r⟩:=x;exact⟨mA,⟨od,es,ep,k _ _ (.inl rfl) e,c⟩,r⟩
 | rng lo hi=>obtain⟨t,u,v,e⟩:=x;exact⟨t,u,v,k _ _ (.inl rfl) e⟩
 | frz ob u ih=>obtain⟨e,q⟩:=x;exact⟨k _ _ (.inl rfl) e,ih q⟩
 | tbl ps =>
  have e:h.get? a=sF { cls:=.none,data:=.fields ps }:=x
  show h'.get? a=sF { cls:=.none,data:=.fields ps }
  exact k a _ (.inl rfl) e
 | met f y =>
  have e:h.get? a=sF (dO (.ref f) (.ref y)):=x
  show h'.get? a=sF (dO (.ref f) (.ref y))
  exact k a _ (.inl rfl) e
 | ext φ=>obtain⟨p,⟨o,e⟩,st⟩:=x;exact⟨st _ _ p λo q=>k _ _ (.inl rfl) q,⟨o,k _ _ (.inl rfl) e⟩,st⟩
theorem HOk.lt(x:HOk P w H h)(e:H a=sF o):a<h.objs.size:=(x a o e).lt
theorem HOk.fresh(x:HOk P w H h)(e:h.objs.size<=a):H a=sG:=by
 cases q:H a with
 | none=>rfl
 | some u=>exact absurd (aD (x.lt q) e) (cI _)
theorem HOk.kept(x:HOk P w H h)(k:∀b u,h.get? b=sF u->h'.get? b=sF u):HOk P w H h':=λa o e =>
 (x a o e).stay (λb u _ q=>k b u q) (λ_ q=>q) λ_ _ q=>q
theorem HOk.laid(x:HOk P w H h)(k:∀b u,h.get? b=sF u->h'.get? b=sF u)(hp:h.objs.size<=a)(new:ObjOk P w (upd H a o) h' a o):HOk P w (upd H a o) h':=λb u e=>by
 have hn:=x.fresh hp
 by_cases hb:b=a
 ·subst hb;rw[zf] at e;cases e;exact new
 ·rw[zo hb] at e
  exact (x b u e).stay (λc v _ q=>k c v q) (λc q=>by rw[zo (zH q hn)];exact q) λc xs q=>by rw[zo (zH q hn)];exact q
end
def Rd(H:Hp)(a:oP)(u:HO):Prop:=H a=sF u\/∃o,H a=sF (.frz o u)
theorem Rd.ok{P:oV}{w:oX}{H:Hp}{h:pb}{a:oP}{u:HO}(r:Rd H a u)(x:HOk P w H h):ObjOk P w H h a u:=by
 rcases r with r | ⟨o,r⟩
 ·exact x a u r
 ·obtain⟨_,q⟩:=x a _ r
  exact q
def Mut:Option HO->Prop
 | some (.lst _)=>True
 | some (.dK _)=>True
 | some (.dT _)=>True
 | some (.set _ _)=>True
 | some (.ins _ _ _)=>True
 | some (.ext _)=>True
 | _=>False
section
variable{P:oV}{w:oX}{H:Hp}{h h':pb}{x e:oP}{o':HO}
theorem HOk.write(ok:HOk P w H h)(mu:Mut (H x))(he:e=x\/H e=sF (.own x))(k:∀b u,b≠e->h.get? b=sF u->h'.get? b=sF u)(heo:∃u,h'.get? e=sF u)
  (new:ObjOk P w (upd H x o') h' x o'):HOk P w (upd H x o') h':=λb u q=>by
 have nown:∀c y,H c=sF (.own y)->c≠x:=λc y r z=>by subst z;rw[r] at mu;exact mu
 have ntup:∀c xs,H c=sF (.tup xs)->c≠x:=λc xs r z=>by subst z;rw[r] at mu;exact mu
 by_cases hb:b=x
 ·subst hb;rw[zf] at q;cases q;exact new
 ·rw[zo hb] at q
  by_cases hbe:b=e
  ·have q':H b=sF (.own x):=by
    rcases he with z | z
    ·exact absurd (hbe.trans z) hb
    ·rw[hbe];exact z
   rw[q] at q';cases q'
   obtain⟨v,hv⟩:=heo
   exact⟨v,by rw[hbe];exact hv⟩
  ·refine (ok b u q).stay (λc v hc r=>k c v ?_ r) (λc r=>by rw[zo (nown c b r)];exact r) λc xs r=>by rw[zo (ntup c xs r)];exact r
   rcases hc with rfl | hc
   ·exact hbe
   ·rintro rfl
    rcases he with z | z
    ·exact nown c b hc z
    ·rw[hc] at z;cases z;exact hb rfl
end
structure Un(fs ex:List oP)(H H':Hp)(h h':pb):Prop where
 keep:∀b o,h.get? b=sF o->H b=sG->b ∉ fs->b ∉ ex->h'.get? b=sF o
 slot:∀b o,h.get? b=sF o->H b=sG->b ∈ fs->b ∉ ex->∃sl,h'.get? b=sF { o with slots:=sl }
 free:∀b o,h.get? b=sF o->H b=sG->b ∉ ex->H' b=sG
 there:∀b o,h.get? b=sF o->b ∉ ex->∃o',h'.get? b=sF o'
 tups:∀b xs,H b=sF (.tup xs)->H' b=sF (.tup xs)
 frzs:∀b o u,H b=sF (.frz o u)->H' b=sF (.frz o u)
 tbls:∀b ps,H b=sF (.tbl ps)->∃more,H' b=sF (.tbl (ps ++ more))
section
variable{fs fs' ex ex':List oP}{H H1 H2:Hp}{h h1 h2 h':pb}{a x e:oP}{o:HO}
theorem Un.any(u:Un fs ex H H1 h h1){b:oP}{ob:pD}(q:h.get? b=sF ob)(n:H b=sG)(hx:b ∉ ex):∃sl,h1.get? b=sF { ob with slots:=sl }:=by
 by_cases hb:b ∈ fs
 ·exact u.slot b ob q n hb hx
 ·exact⟨ob.slots,u.keep b ob q n hb hx⟩
theorem Un.kept(k:∀b u,h.get? b=sF u->h'.get? b=sF u):Un fs ex H H h h' :=
 ⟨λb ob q _ _ _=>k b ob q,λb ob q _ _ _=>⟨ob.slots,k b ob q⟩,λ_ _ _ n _=>n,λb ob q _=>⟨ob,k b ob q⟩,λ_ _ q=>q,λ_ _ _ q=>q,λ_ ps q=>⟨#[],by rw[q];simp⟩⟩
theorem Un.refl:Un fs ex H H h h:=Un.kept λ_ _ q=>q
theorem Un.laid(k:∀b u,h.get? b=sF u->h'.get? b=sF u)(hp:h.objs.size<=a)(hn:H a=sG):Un fs ex H (upd H a o) h h' where
 keep:=λb u q _ _ _=>k b u q
 slot:=λb u q _ _ _=>⟨u.slots,k b u q⟩
 free:=λb u q n _=>by rw[zo (aE (aD (ay q) hp))];exact n
 there:=λb u q _=>⟨u,k b u q⟩
 tups:=λb xs q=>by rw[zo (zH q hn)];exact q
 frzs:=λb u xs q=>by rw[zo (zH q hn)];exact q
 tbls:=λb ps q=>⟨#[],by rw[zo (zH q hn),q];simp⟩
theorem Un.write(mu:Mut (H x))(he:e=x\/H e=sF (.own x))(k:∀b u,b≠e->h.get? b=sF u->h'.get? b=sF u)(heo:∃u,h'.get? e=sF u):Un fs ex H (upd H x o) h h':=by
 have hx:∀b,H b=sG->b≠x:=λb n z=>by subst z;rw[n] at mu;exact mu
 have hb:∀b,H b=sG->b≠e:=λb n z=>by
  subst z
  rcases he with r | r
  ·exact hx b n r
  ·rw[n] at r;cases r
 have hm:∀b u,H b=sF u->¬ Mut (sF u)->b≠x:=λb u q nm z=>by subst z;rw[q] at mu;exact nm mu
 refine⟨λb u q n _ _=>k b u (hb b n) q,λb u q n _ _=>⟨u.slots,k b u (hb b n) q⟩,λb u q n _=>by rw[zo (hx b n)];exact n,λb u q _=>?_,
  λb xs q=>by rw[zo (hm b _ q λz=>z)];exact q,λb u xs q=>by rw[zo (hm b _ q λz=>z)];exact q,λb ps q=>⟨#[],by rw[zo (hm b _ q λz=>z),q];simp⟩⟩
 by_cases hbe:b=e
 ·subst hbe;exact heo
 ·exact⟨u,k b u hbe q⟩
end
noncomputable def trk(h:pb)(H:Hp):List oP:=(aY h.objs.size).filter λa=>(H a).isSome
noncomputable def WS(h:pb)(H:Hp):pb:=PySem.W.hideAll h (trk h H)
theorem WY(h:pb)(H:Hp):(WS h H).objs.size=h.objs.size:=PySem.W.hideAll_size _ _
theorem Y3{h:pb}{H:Hp}{b:oP}{o:pD}(e:h.get? b=sF o)(n:H b=sG):(WS h H).get? b=sF o :=
 PySem.W.hideAll_get _ e λhm=>by
  have q:(H b).isSome=sH:=(List.mem_filter.mp hm).2
  rw[n] at q;simp at q
theorem KF{h:pb}{H:Hp}{b:oP}{o:pD}(e:(WS h H).get? b=sF o):h.get? b=sF o/\H b=sG:=by
 have e':h.get? b=sF o:=PySem.W.of_hideAll (trk h H) e
 refine⟨e',?_⟩
 cases q:H b with
 | none=>rfl
 | some x =>
  have hm:b ∈ trk h H:=List.mem_filter.mpr ⟨List.mem_range.mpr (ay e'),by simp [q]⟩
  have z:(WS h H).get? b=sG:=PySem.W.hideAll_none (trk h H) hm
  rw[z] at e;cases e
noncomputable def KR(g h:pb)(L:oP):List (oP × pD):=(aY h.objs.size).filterMap λa=>if a=L\/(g.get? a).isSome=sH then sG else (h.get? a).map λo=>(a,o)
noncomputable def rest(g h:pb)(L d:oP):List (oP × pD):=(KR g h L).filter λp=>decide (p.1≠d)
end L2
namespace L2
structure Mod(K:oO)(mg:oW->Option oQ)(base:pb):Prop where
 kin:K.In base
 glob:base.Ns oK mg
 blt:∃mb,base.Ns builtinsNs mb/\∀x:oW,x≠"__name__"->mb x=pF x
 nolimit:base.NoLimit
structure Cx where
 prog:oV
 w:oX
 K:oO
 mg:oW->Option oQ
 base:pb
 A:oY
 N:List oW
 s₀:oR
 H₀:Hp
 env:rL
 outer:List rL
 stack:List rL
 ex:List oP
 fn:oW->Bool
 calm:Bool
 pn:List (oP × pD)
 xe:oQ->oR->Prop
noncomputable def frs(l:List rL):List oP:=l.filterMap (·.frame)
noncomputable abbrev Cx.fs(X:Cx):List oP:=frs X.outer
def Vis(sc:pK)(x:oW):Prop:=sc.names.lookup x=sF .local\/sc.names.lookup x=sF .cell\/sc.names.lookup x=sF .free
def Loc(sc:pK)(x:oW):Prop:=sc.names.lookup x=sF .local\/sc.names.lookup x=sF .cell
def zde(env:rL)(h:pb)(m:oW->Option oQ)(x:oW)(u:oQ):Prop :=
 (env.kindOf x=sF .local/\m x=sF u)\/((env.kindOf x=sF .cell\/env.kindOf x=sF .free)/\∃c,env.cells.lookup x=sF c/\h.IsCell c (sF u))
structure Cx.Ok(X:Cx):Prop where
 mod:Mod X.K X.mg X.base
 kind:X.env.scope.kind=.function
 glob:X.env.globals=oK
 blt:X.env.builtins=builtinsNs
 above:X.s₀.heap.objs.size<=X.env.locals
 inj:∀x y c,X.env.cells.lookup x=sF c->X.env.cells.lookup y=sF c->x=y
 has:∀x,(X.env.kindOf x=sF .cell\/X.env.kindOf x=sF .free)->∃c,X.env.cells.lookup x=sF c
 cab:∀x c,X.fn x=sH->X.env.cells.lookup x=sF c->X.s₀.heap.objs.size<=c
 hd:X.calm=sH->X.A.handled=sG
 frames:X.A.frames=sF X.stack
 stk:X.stack=X.outer\/(X.stack=X.env::X.outer/\X.env.frame=sF X.env.locals)
 exf:∀b ∈ X.ex,b≠X.env.locals/\∀x c,X.env.cells.lookup x=sF c->c≠b
 bs:∀b o,X.base.get? b=sF o->X.s₀.heap.get? b=sF o/\X.H₀ b=sG
 bsz:X.base.objs.size<=X.s₀.heap.objs.size
 noex:∀b o,X.base.get? b=sF o->b ∉ X.ex
 exfs:∀b ∈ X.ex,b ∉ X.fs
 funs:X.s₀.heap.FunFrames X.base X.outer
 frf:∀b ∈ X.fs,X.H₀ b=sG
structure Inv(X:Cx)(sJ:List (oP × pD))(σ:List (Option V))(H:Hp)(s:oR):Prop where
 ok:X.Ok
 os:s.os=X.s₀.os
 bare:rp s.gens
 base:Un X.fs X.ex X.H₀ H X.s₀.heap s.heap
 loc:∃m,s.heap.Ns X.env.locals m/\∀(i:Nat) (x:oW) (v:V),X.N[i]? = sF x->σ[i]? = sF (sF v)->Vis X.env.scope x->∃u,RelV v u/\zde X.env s.heap m x u
 cell:∀x c,X.env.cells.lookup x=sF c->∃v,s.heap.IsCell c v
 free:H X.env.locals=sG
 freeC:∀x c,X.env.cells.lookup x=sF c->H c=sG
 pin:∀p ∈ X.pn ++ sJ,s.heap.get? p.1=sF p.2/\H p.1=sG/\p.1≠X.env.locals/\p.1 ∉ X.fs/\∀v,p.2.data≠.cell v
 hok:HOk X.prog X.w H s.heap
 len:σ.length=X.N.length
section
variable{X:Cx}{sJ:List (oP × pD)}{σ:List (Option V)}{H H':Hp}{s:oR}{h':pb}
theorem Cx.Ok.nofr(ok:X.Ok){b:oP}{o:pD}(e:X.base.get? b=sF o):b ∉ X.fs:=λhb=>by
 have:=(ok.funs.mem hb).1
 rw[e] at this;cases this
theorem Inv.bs(I:Inv X sJ σ H s):∀b o,X.base.get? b=sF o->s.heap.get? b=sF o/\H b=sG:=λb o e =>
 ⟨I.base.keep b o (I.ok.bs b o e).1 (I.ok.bs b o e).2 (I.ok.nofr e) (I.ok.noex b o e),I.base.free b o (I.ok.bs b o e).1 (I.ok.bs b o e).2 (I.ok.noex b o e)⟩
theorem Inv.bk(I:Inv X sJ σ H s):∀b o,X.base.get? b=sF o->s.heap.get? b=sF o:=λb o e=>(I.bs b o e).1
theorem Inv.mod(I:Inv X sJ σ H s):Mod X.K X.mg X.base:=I.ok.mod
theorem Inv.kIn(I:Inv X sJ σ H s):X.K.In s.heap:=I.ok.mod.kin.keeps I.bk
theorem Inv.nolimit(I:Inv X sJ σ H s):s.heap.NoLimit:=I.ok.mod.nolimit.keeps I.bk
theorem Inv.fr(I:Inv X sJ σ H s):∃m,Fr X.base X.env.locals s.heap m :=
 let ⟨m,hn,_⟩:=I.loc
 ⟨m,hn,I.bk,aO I.ok.bsz I.ok.above⟩
theorem Inv.lt(I:Inv X sJ σ H s):X.env.locals<s.heap.objs.size:=let ⟨_,hn,_⟩:=I.loc;hn.lt
theorem Inv.sz(I:Inv X sJ σ H s):X.s₀.heap.objs.size<=s.heap.objs.size:=aO I.ok.above (de I.lt)
theorem Inv.nofs(I:Inv X sJ σ H s){a:oP}(h:s.heap.objs.size<=a):a ∉ X.fs:=λhb=>by
 obtain⟨_,o,ho,_⟩:=I.ok.funs.mem hb
 exact absurd (aD (ay ho) (aO I.sz h)) (cI _)
theorem Inv.cne(I:Inv X sJ σ H s):∀x c,X.env.cells.lookup x=sF c->c≠X.env.locals:=λx c e z=>by
 obtain⟨v,o,ho,hd⟩:=I.cell x c e
 obtain⟨m,⟨o',es,ep,ho',hd',_⟩,_⟩:=I.loc
 rw[z,ho'] at ho;cases ho;rw[hd'] at hd;cases hd
theorem Inv.funs(I:Inv X sJ σ H s):s.heap.FunFrames X.base X.outer:=by
 have all:∀(l:List rL),(∀b ∈ frs l,b ∈ X.fs)->X.s₀.heap.FunFrames X.base l->s.heap.FunFrames X.base l:=by
  intro l
  induction l with
  | nil=>intro _ _;trivial
  | cons env r ih =>
   intro hs hl
   obtain⟨hk,⟨L,o,hf,hn,ho,hd⟩,hr⟩:=hl
   have hL:L ∈ X.fs:=hs L (by unfold frs;rw[dB,hf];exact az)
   obtain⟨sl,e⟩:=I.base.slot L o ho (I.ok.frf L hL) hL λz=>I.ok.exfs L z hL
   exact⟨hk,⟨L,_,hf,hn,e,hd⟩,ih (λb hb=>hs b (by unfold frs;rw[dB,hf];exact aw _ hb)) hr⟩
 exact all X.outer (λ_ hb=>hb) I.ok.funs
theorem Inv.stack(I:Inv X sJ σ H s):s.heap.FunFrames X.base X.stack:=by
 rcases I.ok.stk with e | ⟨e,hf⟩
 ·rw[e];exact I.funs
 ·rw[e]
  obtain⟨m,hn,_⟩:=I.loc
  refine .cons (by rw[I.ok.kind];decide) hf hn ?_ I.funs
  exact Heap.get?_none_of_le (aO I.ok.bsz I.ok.above)
theorem Inv.stkSub(I:Inv X sJ σ H s):∀b ∈ frs X.stack,b ∈ X.env.locals::X.fs:=λb hb=>by
 rcases I.ok.stk with e | ⟨e,hf⟩
 ·rw[e] at hb;exact aw _ hb
 ·rw[e] at hb
  unfold frs at hb
  rw[dB,hf] at hb
  exact hb
theorem Inv.stkFree(I:Inv X sJ σ H s):∀b ∈ frs X.stack,H b=sG:=λb hb=>by
 rcases List.mem_cons.mp (I.stkSub b hb) with e | hb
 ·rw[e];exact I.free
 ·obtain⟨_,o,ho,_⟩:=I.ok.funs.mem hb
  exact I.base.free b o ho (I.ok.frf b hb) λz=>I.ok.exfs b z hb
theorem Inv.step{g':Array sq}{t':Nat}{d':Drawn}{ch:List oP}(I:Inv X sJ σ H s)
  (hch:∀b ∈ ch,(b ∈ X.ex\/X.s₀.heap.objs.size<=b)/\b≠X.env.locals/\(∀x c,X.env.cells.lookup x=sF c->c≠b)/\∀p ∈ X.pn ++ sJ,p.1≠b)
  (keep:∀b o,b≠X.env.locals->b ∉ X.fs->b ∉ ch->s.heap.get? b=sF o->H b=sG->h'.get? b=sF o)
  (slot:∀b o,b≠X.env.locals->b ∈ X.fs->b ∉ ch->s.heap.get? b=sF o->H b=sG->∃sl,h'.get? b=sF { o with slots:=sl }) (free:∀b o,b ∉ ch->s.heap.get? b=sF o->H b=sG->H' b=sG)
  (there:∀b o,b ∉ ch->s.heap.get? b=sF o->∃o',h'.get? b=sF o')
  (tups:∀b xs,H b=sF (.tup xs)->H' b=sF (.tup xs)) (frzs:∀b o u,H b=sF (.frz o u)->H' b=sF (.frz o u)) (tbls:∀b ps,H b=sF (.tbl ps)->∃more,H' b=sF (.tbl (ps ++ more)))
  (ns:∀m,s.heap.Ns X.env.locals m->h'.Ns X.env.locals m) (hok:HOk X.prog X.w H' h') (hg:rp g') :
  Inv X sJ σ H' { s with heap:=h',gens:=g',drawn:=d',toks:=t' }:=by
 have neL:∀b o,X.s₀.heap.get? b=sF o->b≠X.env.locals:=λb o e=>aE (aD (ay e) I.ok.above)
 have neC:∀b o,X.s₀.heap.get? b=sF o->b ∉ X.ex->b ∉ ch:=λb o e hx hb=>by
  rcases (hch b hb).1 with z | z
  ·exact hx z
  ·exact absurd (aD (ay e) z) (cI _)
 have cellK:∀x c,X.env.cells.lookup x=sF c->∀v,s.heap.IsCell c v->h'.IsCell c v:=λx c e v ⟨o,ho,hd⟩=>by
  have nch:c ∉ ch:=λz=>(hch c z).2.2.1 x c e rfl
  by_cases hc:c ∈ X.fs
  ·obtain⟨sl,q⟩:=slot c o (I.cne x c e) hc nch ho (I.freeC x c e)
   exact⟨_,q,hd⟩
  ·exact⟨o,keep c o (I.cne x c e) hc nch ho (I.freeC x c e),hd⟩
 refine⟨I.ok,I.os,hg,⟨λb o e n hb hx=>?_,λb o e n hb hx=>?_,λb o e n hx=>?_,λb o e hx=>?_,λb xs e=>tups b xs (I.base.tups b xs e),λb o xs e=>frzs b o xs (I.base.frzs b o xs e),λb ps e=>?_⟩,?_,λx c e=>?_,?_,λx c e=>?_,λp hp=>?_,hok,I.len⟩
 ·exact keep b o (neL b o e) hb (neC b o e hx) (I.base.keep b o e n hb hx) (I.base.free b o e n hx)
 ·obtain⟨sl,e1⟩:=I.base.slot b o e n hb hx
  obtain⟨sl',e2⟩:=slot b _ (neL b o e) hb (neC b o e hx) e1 (I.base.free b o e n hx)
  exact⟨sl',e2⟩
 ·obtain⟨o',e1⟩:=I.base.there b o e hx
  exact free b o' (neC b o e hx) e1 (I.base.free b o e n hx)
 ·obtain⟨o',e1⟩:=I.base.there b o e hx
  exact there b o' (neC b o e hx) e1
 ·obtain⟨m1,e1⟩:=I.base.tbls b ps e
  obtain⟨m2,e2⟩:=tbls b _ e1
  exact⟨m1 ++ m2,by rw[e2,Array.append_assoc]⟩
 ·obtain⟨m,hn,hl⟩:=I.loc
  refine⟨m,ns m hn,λi x v e1 e2 e3=>?_⟩
  obtain⟨u,r,l⟩:=hl i x v e1 e2 e3
  refine⟨u,r,?_⟩
  rcases l with l | ⟨k,c,e,z⟩
  ·exact .inl l
  ·exact .inr ⟨k,c,e,cellK x c e _ z⟩
 ·obtain⟨v,z⟩:=I.cell x c e
  exact⟨v,cellK x c e v z⟩
 ·obtain⟨m,⟨o,_,_,ho,_⟩,_⟩:=I.loc
  exact free _ o (λz=>(hch _ z).2.1 rfl) ho I.free
 ·obtain⟨v,o,ho,hd⟩:=I.cell x c e
  exact free c o (λz=>(hch c z).2.2.1 x c e rfl) ho (I.freeC x c e)
 ·obtain⟨e,n,ne,nf,d⟩:=I.pin p hp
  have nch:p.1 ∉ ch:=λz=>(hch p.1 z).2.2.2 p hp rfl
  exact⟨keep p.1 p.2 ne nf nch e n,free p.1 p.2 nch e n,ne,nf,d⟩
theorem Inv.un{t':Nat}(I:Inv X sJ σ H s)(u:Un X.fs [] H H' s.heap h')(hok:HOk X.prog X.w H' h'):Inv X sJ σ H' { s with heap:=h',toks:=t' }:=by
 obtain⟨m,⟨o,es,ep,ho,r⟩,_⟩:=id I.loc
 obtain⟨sl,hL⟩:=u.any ho I.free (by simp)
 exact I.step (g':=s.gens) (d':=s.drawn) (ch:=[]) (λ_ z=>nomatch z) (λb o _ hb _ e n=>u.keep b o e n hb (by simp)) (λb o _ hb _ e n=>u.slot b o e n hb (by simp)) (λb o _ e n=>u.free b o e n (by simp)) (λb o _ e=>u.there b o e (by simp)) u.tups u.frzs u.tbls (λm' hm=>by
  obtain⟨o',es',ep',ho',r'⟩:=hm
  rw[ho] at ho';cases ho'
  exact⟨_,es',ep',hL,r'⟩) hok I.bare
theorem Inv.call{g':Array sq}{t':Nat}{d':Drawn}{ch:List oP}(I:Inv X sJ σ H s)(u:Un (frs X.stack) ch H H' s.heap h')(hok:HOk X.prog X.w H' h')(hg:rp g')
  (hch:∀b ∈ ch,(b ∈ X.ex\/X.s₀.heap.objs.size<=b)/\b≠X.env.locals/\(∀x c,X.env.cells.lookup x=sF c->c≠b)/\∀p ∈ X.pn ++ sJ,p.1≠b) :
  Inv X sJ σ H' { s with heap:=h',gens:=g',drawn:=d',toks:=t' }:=by
 obtain⟨m,⟨o,es,ep,ho,r⟩,_⟩:=id I.loc
 obtain⟨sl,hL⟩:=u.any ho I.free λz=>(hch _ z).2.1 rfl
 exact I.step (ch:=ch) hch (λb o hL hb hc e n=>u.keep b o e n (λz=>(List.mem_cons.mp (I.stkSub b z)).elim hL hb) hc) (λb o _ _ hc e n=>u.any e n hc) (λb o hc e n=>u.free b o e n hc) (λb o hc e=>u.there b o e hc) u.tups u.frzs u.tbls (λm' hm=>by
  obtain⟨o',es',ep',ho',r'⟩:=hm
  rw[ho] at ho';cases ho'
  exact⟨_,es',ep',hL,r'⟩) hok hg
theorem Inv.turned{t':Nat}{it:oP}(I:Inv X sJ σ H s)(k:∀b o,b≠it->s.heap.get? b=sF o->h'.get? b=sF o)(hn:H it=sG)(hL:it≠X.env.locals)
  (h1:it ∈ X.ex\/X.s₀.heap.objs.size<=it) (h2:∀x c,X.env.cells.lookup x=sF c->c≠it) (h3:∀p ∈ X.pn ++ sJ,p.1≠it):Inv X sJ σ H { s with heap:=h',toks:=t' }:=by
 have nit:∀b u,H b=sF u->b≠it:=λb u e z=>by rw[z,hn] at e;cases e
 refine I.step (g':=s.gens) (d':=s.drawn) (ch:=[it]) (λb hb=>?_) (λb o _ _ hc e _=>k b o (λz=>hc (by simp [z])) e) (λb o _ _ hc e _=>⟨o.slots,k b o (λz=>hc (by simp [z])) e⟩) (λ_ _ _ _ n=>n)
  (λb o hc e=>⟨o,k b o (λz=>hc (by simp [z])) e⟩) (λ_ _ e=>e) (λ_ _ _ e=>e) (λb ps e=>⟨#[],by rw[e];simp⟩) (λm hm=>?_) (λb u e=>?_) I.bare
 ·have e:b=it:=by simpa using hb
  subst e
  exact⟨h1,hL,h2,h3⟩
 ·obtain⟨o,es,ep,ho,r⟩:=hm
  exact⟨o,es,ep,k _ o (Ne.symm hL) ho,r⟩
 ·refine (I.hok b u e).stay (λc v hc q=>k c v ?_ q) (λ_ q=>q) λ_ _ q=>q
  rcases hc with z | z
  ·rw[z];exact nit b u e
  ·exact nit c _ z
theorem Inv.tok(I:Inv X sJ σ H s)(t:Nat):Inv X sJ σ H { s with toks:=t }:=I.un (h':=s.heap) (t':=t) Un.refl I.hok
theorem Inv.kept{t':Nat}(I:Inv X sJ σ H s)(k:∀b u,s.heap.get? b=sF u->h'.get? b=sF u):Inv X sJ σ H { s with heap:=h',toks:=t' }:=I.un (Un.kept k) (I.hok.kept k)
theorem Inv.laid{a:oP}{o:HO}{t':Nat}(I:Inv X sJ σ H s)(k:∀b u,s.heap.get? b=sF u->h'.get? b=sF u)(hp:s.heap.objs.size<=a)(new:ObjOk X.prog X.w (upd H a o) h' a o) :
  Inv X sJ σ (upd H a o) { s with heap:=h',toks:=t' }:=I.un (Un.laid k hp (I.hok.fresh hp)) (I.hok.laid k hp new)
theorem Inv.write{x e:oP}{o:HO}{t':Nat}(I:Inv X sJ σ H s)(mu:Mut (H x))(he:e=x\/H e=sF (.own x))(k:∀b u,b≠e->s.heap.get? b=sF u->h'.get? b=sF u)(heo:∃u,h'.get? e=sF u)
  (new:ObjOk X.prog X.w (upd H x o) h' x o):Inv X sJ σ (upd H x o) { s with heap:=h',toks:=t' }:=I.un (Un.write mu he k heo) (I.hok.write mu he k heo new)
theorem Inv.weak{σ':List (Option V)}(I:Inv X sJ σ H s)(hl:σ'.length=σ.length)(w:∀(i:Nat) v,σ'[i]? = sF (sF v)->σ[i]? = sF (sF v)):Inv X sJ σ' H s :=
 ⟨I.ok,I.os,I.bare,I.base,let ⟨m,hn,hl'⟩:=I.loc; ⟨m,hn,λi x v e1 e2 e3=>hl' i x v e1 (w i v e2) e3⟩,I.cell,I.free,I.freeC,I.pin,I.hok,hl.trans I.len⟩
theorem Inv.pins_of{pins':List (oP × pD)}(I:Inv X sJ σ H s)(h:∀p ∈ pins',s.heap.get? p.1=sF p.2/\H p.1=sG/\p.1≠X.env.locals/\p.1 ∉ X.fs/\∀v,p.2.data≠.cell v):Inv X pins' σ H s :=
 ⟨I.ok,I.os,I.bare,I.base,I.loc,I.cell,I.free,I.freeC,λp hp=>(List.mem_append.mp hp).elim (λz=>I.pin p (aR _ z)) (h p),I.hok,I.len⟩
theorem Xj{N:List oW}(hN:N.Nodup){i j:Nat}{x:oW}(a:N[i]? = sF x)(b:N[j]? = sF x):i=j:=by
 obtain⟨h1,e1⟩:=List.getElem?_eq_some_iff.mp a
 obtain⟨h2,e2⟩:=List.getElem?_eq_some_iff.mp b
 exact (List.getElem_inj hN).mp (e1.trans e2.symm)
theorem ZO{M:sk}{A:oY}{E:oQ->oR->Prop}{i:Nat}{x:oW}{v:V}{u:oQ}{Q:Unit->oR->Prop}(I:Inv X sJ σ H s)(hN:X.N.Nodup)(hi:X.N[i]? = sF x)(hx:Loc X.env.scope x)(r:RelV v u)
  (h:∀s',Inv X sJ (σ.set i (sF v)) H s'->(∃a,Heap.SameBut a s.heap s'.heap/\(a=X.env.locals\/X.env.cells.lookup x=sF a))->Q () s') (hf:X.fn x=sH\/X.env.scope.names.lookup x=sF .local:=by first | exact .inl rfl | exact .inr rfl | assumption):oS M A (storeName X.env x u) Q E s:=by
 obtain⟨m,hn,hl⟩:=id I.loc
 have hcls:(X.env.scope.kind == .class || (X.env.scope.kind == .module && X.env.locals != X.env.globals))=sI:=by rw[I.ok.kind];rfl
 have hiσ:i<σ.length:=by rw[I.len];exact (List.getElem?_eq_some_iff.mp hi).1
 have cne:=I.cne
 have tracked:∀{a:oP} {h':pb},(∃o,s.heap.get? a=sF o/\H a=sG)->Heap.SameBut a s.heap h'->HOk X.prog X.w H h':=λ{a h'} ha hs b ob e=>by
  obtain⟨_,_,hfree⟩:=ha
  refine (I.hok b ob e).stay (λc w' hc q=>(hs.2 c ?_).trans q) (λ_ q=>q) λ_ _ q=>q
  rintro rfl
  rcases hc with rfl | hc
  ·rw[hfree] at e;cases e
  ·rw[hfree] at hc;cases hc
 rcases hx with hk | hk
 ·refine wpAny_storeName_local hk hn (λh' hn' hs=>?_) hcls
  obtain⟨oL,_,_,hoL,_⟩:=id hn
  refine h _ ⟨I.ok,I.os,I.bare,⟨λb o e n hb hx=>?_,λb o e n hb hx=>?_,I.base.free,λb o e hx=>?_,I.base.tups,I.base.frzs,I.base.tbls⟩,⟨_,hn',λj y v' e1 e2 e3=>?_⟩,λy c e=>?_,I.free,I.freeC,λp hp=>?_,tracked ⟨oL,hoL,I.free⟩ hs,by simpa using I.len⟩ ⟨_,hs,.inl rfl⟩
  ·exact (hs.2 b (aE (aD (ay e) I.ok.above))).trans (I.base.keep b o e n hb hx)
  ·obtain⟨sl,e1⟩:=I.base.slot b o e n hb hx
   exact⟨sl,(hs.2 b (aE (aD (ay e) I.ok.above))).trans e1⟩
  ·obtain⟨o',e1⟩:=I.base.there b o e hx
   exact⟨o',(hs.2 b (aE (aD (ay e) I.ok.above))).trans e1⟩
  ·by_cases hj:j=i
   ·subst hj
    rw[hi] at e1;cases e1
    rw[eG hiσ] at e2
    cases e2
    exact⟨u,r,.inl ⟨hk,by simp⟩⟩
   ·rw[eS (Ne.symm hj)] at e2
    obtain⟨u',r',q⟩:=hl j y v' e1 e2 e3
    refine⟨u',r',?_⟩
    rcases q with ⟨k,e⟩ | ⟨k,c,e,z⟩
    ·refine .inl ⟨k,?_⟩
     have:y≠x:=λe=>hj (Xj hN e1 (e ▸ hi))
     simp [this,e]
    ·exact .inr ⟨k,c,e,z.sameBut hs (cne y c e)⟩
  ·obtain⟨w',z⟩:=I.cell y c e
   exact⟨w',z.sameBut hs (cne y c e)⟩
  ·obtain⟨e,n,ne,nf,d⟩:=I.pin p hp
   exact⟨(hs.2 p.1 ne).trans e,n,ne,nf,d⟩
 ·have hfn:X.fn x=sH:=by
   rcases hf with z | z
   ·exact z
   ·rw[z] at hk;cases hk
  obtain⟨c,hc⟩:=I.ok.has x (.inl hk)
  obtain⟨w',z⟩:=I.cell x c hc
  refine wpAny_storeName_cell I.ok.kind hk hc z (λh' hc' hs=>?_)
  obtain⟨oc,hoc,hocd⟩:=id z
  refine h { s with heap:=h' } ⟨I.ok,I.os,I.bare,⟨λb o e n hb hx=>?_,λb o e n hb hx=>?_,I.base.free,λb o e hx=>?_,I.base.tups,I.base.frzs,I.base.tbls⟩,⟨m,hn.sameBut hs (Ne.symm (cne x c hc)),λj y v' e1 e2 e3=>?_⟩,λy c' e=>?_,I.free,I.freeC,λp hp=>?_,tracked ⟨oc,hoc,I.freeC x c hc⟩ hs,by simpa using I.len⟩ ⟨c,hs,.inr hc⟩
  ·exact (hs.2 b (aE (aD (ay e) (I.ok.cab x c hfn hc)))).trans (I.base.keep b o e n hb hx)
  ·obtain⟨sl,e1⟩:=I.base.slot b o e n hb hx
   exact⟨sl,(hs.2 b (aE (aD (ay e) (I.ok.cab x c hfn hc)))).trans e1⟩
  ·obtain⟨o',e1⟩:=I.base.there b o e hx
   exact⟨o',(hs.2 b (aE (aD (ay e) (I.ok.cab x c hfn hc)))).trans e1⟩
  ·by_cases hj:j=i
   ·subst hj
    rw[hi] at e1;cases e1
    rw[eG hiσ] at e2
    cases e2
    exact⟨u,r,.inr ⟨.inl hk,c,hc,hc'⟩⟩
   ·rw[eS (Ne.symm hj)] at e2
    obtain⟨u',r',q⟩:=hl j y v' e1 e2 e3
    refine⟨u',r',?_⟩
    rcases q with q | ⟨k,c',e,z'⟩
    ·exact .inl q
    ·refine .inr ⟨k,c',e,z'.sameBut hs ?_⟩
     rintro rfl
     exact hj (Xj hN e1 (I.ok.inj _ _ _ e hc ▸ hi))
  ·by_cases hcc:c'=c
   ·subst hcc;exact⟨_,hc'⟩
   ·obtain⟨w2,z2⟩:=I.cell y c' e
    exact⟨w2,z2.sameBut hs hcc⟩
  ·obtain⟨e,n,ne,nf,d⟩:=I.pin p hp
   refine⟨(hs.2 p.1 ?_).trans e,n,ne,nf,d⟩
   intro q
   rw[q,hoc] at e
   have q':oc=p.2:=Option.some.inj e
   exact d w' (by rw[<- q'];exact hocd)
theorem kA{M:sk}{A:oY}{E:oQ->oR->Prop}{i:Nat}{x:oW}{v:V}{u:oQ}{Q:Unit->oR->Prop}(I:Inv X sJ σ H s)(hN:X.N.Nodup)(hi:X.N[i]? = sF x)(hx:Loc X.env.scope x)(r:RelV v u)
  (h:∀s',Inv X sJ (σ.set i (sF v)) H s'->Q () s') (hf:X.fn x=sH\/X.env.scope.names.lookup x=sF .local:=by first | exact .inl rfl | exact .inr rfl | assumption):oS M A (storeName X.env x u) Q E s :=
 ZO I hN hi hx r (λs' I' _=>h s' I') hf
theorem Inv.call'{s':oR}{ch:List oP}(I:Inv X sJ σ H s)(ho:s'.os=s.os)(u:Un (frs X.stack) ch H H' s.heap s'.heap)(hok:HOk X.prog X.w H' s'.heap)(hg:rp s'.gens)
  (hch:∀b ∈ ch,(b ∈ X.ex\/X.s₀.heap.objs.size<=b)/\b≠X.env.locals/\(∀x c,X.env.cells.lookup x=sF c->c≠b)/\∀p ∈ X.pn ++ sJ,p.1≠b):Inv X sJ σ H' s':=by
 obtain⟨h',g',d',t',o'⟩:=s'
 have e:o'=s.os:=ho
 subst e
 exact I.call (g':=g') (t':=t') (d':=d') u hok hg hch
end
noncomputable abbrev XK:=oQ->Option oP->Hp->Prop
noncomputable abbrev St:=List (Option V)
noncomputable abbrev VK:=V->Hp->Prop
noncomputable abbrev TE:=St->Hp->VK->Prop
noncomputable abbrev TT:=St->Hp->(Bool->Hp->Prop)->Prop
noncomputable abbrev TA:=St->Hp->(List V->Hp->Prop)->Prop
structure vk where
 nx:St->Hp->Prop
 rt:VK
 bk:St->Hp->Prop:=λ_ _=>False
 ct:St->Hp->Prop:=λ_ _=>False
noncomputable abbrev TS:=vk->St->Hp->Prop
def EP(X:Cx)(sJ:List (oP × pD))(σ:St)(Q:VK)(u:oQ)(s':oR):Prop:=∃v H',Inv X sJ σ H' s'/\RelV v u/\Q v H'
def TP(X:Cx)(sJ:List (oP × pD))(σ:St)(Q:Bool->Hp->Prop)(b:Bool)(s':oR):Prop:=∃H',Inv X sJ σ H' s'/\Q b H'
def AP(X:Cx)(sJ:List (oP × pD))(σ:St)(Q:List V->Hp->Prop)(us:List oQ)(s':oR):Prop:=∃vs H',Inv X sJ σ H' s'/\Vals vs us/\Q vs H'
def SP(X:Cx)(sJ:List (oP × pD))(D:vk)(f:Flow)(s':oR):Prop :=
 match f with
 | .next=>∃σ' H',Inv X sJ σ' H' s'/\D.nx σ' H'
 | .brk=>∃σ' H',Inv X sJ σ' H' s'/\D.bk σ' H'
 | .cont=>∃σ' H',Inv X sJ σ' H' s'/\D.ct σ' H'
 | .ret u=>∃v σ' H',Inv X sJ σ' H' s'/\RelV v u/\D.rt v H'
def PE(X:Cx)(e:oZ)(t:TE):Prop :=
 ∀(sJ:List (oP × pD)) (s:oR) (σ:St) (H:Hp) (Q:VK),Inv X sJ σ H s->t σ H Q->oS (model X.prog X.w) X.A (eval e X.env) (EP X sJ σ Q) X.xe s
def PT(X:Cx)(e:oZ)(t:TT):Prop :=
 ∀(sJ:List (oP × pD)) (s:oR) (σ:St) (H:Hp) (Q:Bool->Hp->Prop),Inv X sJ σ H s->t σ H Q->oS (model X.prog X.w) X.A (isTrue e X.env (eval e X.env)) (TP X sJ σ Q) X.xe s
def PW(X:Cx)(e:oZ)(t:TT):Prop :=
 ∀(whole:sx oQ) (sJ:List (oP × pD)) (s:oR) (σ:St) (H:Hp) (Q:Bool->Hp->Prop),Inv X sJ σ H s->t σ H Q->oS (model X.prog X.w) X.A (isTrue e X.env whole) (TP X sJ σ Q) X.xe s
theorem PW.pt{X:Cx}{e:oZ}{t:TT}(h:PW X e t):PT X e t:=h _
def PA(X:Cx)(es:List oZ)(t:TA):Prop :=
 ∀(pos:pS) (sJ:List (oP × pD)) (s:oR) (σ:St) (H:Hp) (Q:List V->Hp->Prop),Inv X sJ σ H s->t σ H Q->oS (model X.prog X.w) X.A (spliced (pj pos (oM es X.env))) (AP X sJ σ Q) X.xe s
def PS(X:Cx)(st:pc)(t:TS):Prop :=
 ∀(sJ:List (oP × pD)) (s:oR) (σ:St) (H:Hp) (D:vk),Inv X sJ σ H s->t D σ H->oS (model X.prog X.w) X.A (exec st X.env) (SP X sJ D) X.xe s
def PSs(X:Cx)(st:List pc)(t:TS):Prop :=
 ∀(sJ:List (oP × pD)) (s:oR) (σ:St) (H:Hp) (D:vk),Inv X sJ σ H s->t D σ H->oS (model X.prog X.w) X.A (execs st X.env) (SP X sJ D) X.xe s
theorem thn{α:Type}{t:sx α}{Q Q':α->oR->Prop}{M:sk}{A:oY}{E:oQ->oR->Prop}{s:oR}(h:oS M A t Q E s)(hQ:∀a s,Q a s->Q' a s):oS M A t Q' E s:=pT h hQ λ_ _ x=>x
end L2
namespace L2
section
variable{X:Cx}
theorem bin{a b:oZ}{ta tb:TE}(ha:PE X a ta)(hb:PE X b tb){sJ:List (oP × pD)}{s:oR}{σ:St}{H:Hp}{R:V->V->Hp->Prop}(I:Inv X sJ σ H s)(h:ta σ H λx H1=>tb σ H1 λy H2=>R x y H2)
  {α:Type} {Q:α->oR->Prop} {f:oQ->oQ->sx α}
  (hf:∀v u s2 x y H2,Inv X sJ σ H2 s2->RelV x v->RelV y u->R x y H2->oS (model X.prog X.w) X.A (f v u) Q X.xe s2) :
  oS (model X.prog X.w) X.A (eval a X.env) (λv s₁=>oS (model X.prog X.w) X.A (eval b X.env) (λu s₂=>oS (model X.prog X.w) X.A (f v u) Q X.xe s₂) X.xe s₁) X.xe s:=by
 refine thn (ha sJ s σ H _ I h) λv s1 ⟨x,H1,I1,r1,q1⟩=>?_
 refine thn (hb sJ s1 σ H1 _ I1 q1) λu s2 ⟨y,H2,I2,r2,q2⟩=>?_
 exact hf v u s2 x y H2 I2 r1 r2 q2
def xw(i:Nat):TE:=λσ H Q=>∃v,σ[i]? = sF (sF v)/\Q v H
def tC(v:V):TE:=λ_ H Q=>Q v H
theorem zbh{i:Nat}{x:oW}{pos:pS}(hN:X.N[i]? = sF x)(hv:Vis X.env.scope x)(hd:(x == ("__debug__" : oW))=sI:=by decide)(hcd:(x == ("__classdict__" : oW))=sI:=by decide):PE X (.Name x pos) (xw i):=by
 intro sJ s σ H Q I h
 obtain⟨v,e,h⟩:=h
 obtain⟨m,hn,hl⟩:=I.loc
 obtain⟨u,r,l⟩:=hl i x v hN e hv
 have fin:EP X sJ σ Q u s:=⟨v,H,I,r,h⟩
 rcases l with ⟨hk,hm⟩ | ⟨hk,c,hc,hcell⟩
 ·exact sA (wpAny_loadName_local I.ok.kind hk hn hm fin) hd
 ·rcases hk with hk | hk
  ·exact sA (wpAny_loadName_cell I.ok.kind hk hc hcell fin) hd
  ·exact sA (wpAny_loadName_free I.ok.kind hk hc hcell fin hcd) hd
theorem zg{i j pos}:PE X (.Constant (.int i) j pos) (tC (.int i)):=λ_ _ _ H _ I h=>wpAny_Constant_int ⟨.int i,H,I.tok _,⟨_,rfl⟩,h⟩
theorem xO{b j pos}:PE X (.Constant (.bool b) j pos) (tC (.bl b)):=λ_ _ _ H _ I h=>Constant_bool ⟨.bl b,H,I,rfl,h⟩
theorem wj{j pos}:PE X (.Constant .none j pos) (tC .non):=λ_ _ _ H _ I h=>Constant_none ⟨.non,H,I,rfl,h⟩
theorem xS{x j pos}:PE X (.Constant (.str x) j pos) (tC (.str x)):=λ_ _ _ H _ I h=>Calls.Constant_str ⟨.str x,H,I.tok _,⟨_,rfl⟩,h⟩
def Gl(X:Cx)(x:oW):Prop:=X.env.kindOf x=sF .globalImplicit
theorem vt{E:oQ->oR->Prop}{sJ:List (oP × pD)}{s:oR}{σ:St}{H:Hp}{x:oW}{u:oQ}{pos:pS}{Q:oQ->oR->Prop}(I:Inv X sJ σ H s)(hg:Gl X x)(hm:X.mg x=sF u)(h:Q u s)
  (hd:(x == ("__debug__" : oW))=sI:=by decide):oS (model X.prog X.w) X.A (eval (.Name x pos) X.env) Q E s :=
 Calls.Name_function_global I.ok.kind hg (Calls.loadGlobal_global (by rw[I.ok.glob];exact I.mod.glob.keeps I.bk) hm h) hd
theorem vj{E:oQ->oR->Prop}{sJ:List (oP × pD)}{s:oR}{σ:St}{H:Hp}{x:oW}{u:oQ}{pos:pS}{Q:oQ->oR->Prop}(I:Inv X sJ σ H s)(hg:Gl X x)(hm:X.mg x=sG)(hv:pF x=sF u)(h:Q u s)
  (hn:x≠"__name__":=by decide) (hd:(x == ("__debug__" : oW))=sI:=by decide):oS (model X.prog X.w) X.A (eval (.Name x pos) X.env) Q E s:=by
 obtain⟨mb,h1,h2⟩:=I.mod.blt
 exact Calls.Name_function_global I.ok.kind hg (Calls.loadGlobal_builtin (by rw[I.ok.glob];exact I.mod.glob.keeps I.bk) hm (by rw[I.ok.blt];exact h1.keeps I.bk) ((h2 x hn).trans hv) h) hd
theorem xg{x:oW}{v:V}{u:oQ}{pos:pS}(hg:Gl X x)(hm:X.mg x=sF u)(r:RelV v u)(hd:(x == ("__debug__" : oW))=sI:=by decide):PE X (.Name x pos) (tC v) :=
 λ_ _ _ H _ I h=>vt I hg hm ⟨v,H,I,r,h⟩ hd
theorem K1{x:oW}{v:V}{u:oQ}{pos:pS}(hg:Gl X x)(hm:X.mg x=sG)(hv:pF x=sF u)(r:RelV v u)(hn:x≠"__name__":=by decide)(hd:(x == ("__debug__" : oW))=sI:=by decide):PE X (.Name x pos) (tC v) :=
 λ_ _ _ H _ I h=>vj I hg hm hv ⟨v,H,I,r,h⟩ hn hd
variable{a b:oZ}{ta tb:TE}{pos:pS}
variable{tA tB':TT}{rest:List oZ}
def zcC(t u:TT):TT:=λσ H Q=>t σ H λc H1=>if c=sH then u σ H1 Q else Q sI H1
def tOr(t u:TT):TT:=λσ H Q=>t σ H λc H1=>if c=sH then Q sH H1 else u σ H1 Q
def zby(t:TT):TT:=λσ H Q=>t σ H λc H1=>Q (!c) H1
theorem JZ(ha:PT X a tA):PW X (.BoolOp .And [a] pos) tA:=by
 intro wh sJ s σ H Q I h
 refine isTrue_and (thn (ha sJ s σ H Q I h) λc s1 e=>?_)
 cases c with
 | true=>exact isTrue_and_nil e
 | false=>exact e
theorem vH(ha:PT X a tA):PW X (.BoolOp .Or [a] pos) tA:=by
 intro wh sJ s σ H Q I h
 refine isTrue_or (thn (ha sJ s σ H Q I h) λc s1 e=>?_)
 cases c with
 | false=>exact isTrue_or_nil e
 | true=>exact e
theorem zaX(ha:PT X a tA)(hb:PW X (.BoolOp .And (b::rest) pos) tB'):PW X (.BoolOp .And (a::b::rest) pos) (zcC tA tB'):=by
 intro wh sJ s σ H Q I h
 refine isTrue_and (thn (ha sJ s σ H _ I h) λc s1 ⟨H1,I1,q1⟩=>?_)
 cases c with
 | true=>exact hb wh sJ s1 σ H1 Q I1 q1
 | false=>exact⟨H1,I1,q1⟩
theorem ub(ha:PT X a tA)(hb:PW X (.BoolOp .Or (b::rest) pos) tB'):PW X (.BoolOp .Or (a::b::rest) pos) (tOr tA tB'):=by
 intro wh sJ s σ H Q I h
 refine isTrue_or (thn (ha sJ s σ H _ I h) λc s1 ⟨H1,I1,q1⟩=>?_)
 cases c with
 | true=>exact⟨H1,I1,q1⟩
 | false=>exact hb wh sJ s1 σ H1 Q I1 q1
theorem yo(ha:PT X a tA):PT X (.UnaryOp .Not a pos) (zby tA):=by
 intro sJ s σ H Q I h
 exact isTrue_not (ha sJ s σ H (λc H1=>Q (!c) H1) I h)
def zbq(ta tb:TE):TE:=λσ H Q=>ta σ H λx H1=>∃c,x=.bl c/\if c=sH then tb σ H1 Q else Q (.bl sI) H1
def zdu(ta tb:TE):TE:=λσ H Q=>ta σ H λx H1=>∃c,x=.bl c/\if c=sH then Q (.bl sH) H1 else tb σ H1 Q
def JV(ta:TE):TE:=λσ H Q=>ta σ H λx H1=>∃c,x=.bl c/\Q (.bl (!c)) H1
theorem zao{op}{t:TE}(h:PE X a t):PE X (.BoolOp op [a] pos) t:=λsJ s σ H Q I hw=>BoolOp_one (h sJ s σ H Q I hw)
theorem za3(ha:PE X a ta)(hb:PE X (.BoolOp .And (b::rest) pos) tb):PE X (.BoolOp .And (a::b::rest) pos) (zbq ta tb):=by
 intro sJ s σ H Q I h
 refine BoolOp_and (thn (ha sJ s σ H _ I h) λv s1 ⟨x,H1,I1,r1,q1⟩=>?_)
 obtain⟨c,rfl,q1⟩:=q1
 cases r1
 refine pB ?_
 cases c with
 | true=>exact hb sJ s1 σ H1 Q I1 q1
 | false=>exact⟨.bl sI,H1,I1,rfl,q1⟩
theorem Jf(ha:PE X a ta):PE X (.UnaryOp .Not a pos) (JV ta):=by
 intro sJ s σ H Q I h
 refine UnaryOp_ (thn (ha sJ s σ H _ I h) λv s1 ⟨x,H1,I1,r1,q1⟩=>?_)
 obtain⟨c,rfl,q1⟩:=q1
 cases r1
 exact not_of (pB ⟨.bl (!c),H1,I1,rfl,q1⟩)
def tIf(t:TT)(ta tb:TE):TE:=λσ H Q=>t σ H λc H1=>if c=sH then ta σ H1 Q else tb σ H1 Q
theorem kj{c:oZ}(hc:PT X c tA)(ha:PE X a ta)(hb:PE X b tb):PE X (.IfExp c a b pos) (tIf tA ta tb):=by
 intro sJ s σ H Q I h
 refine wpAny_IfExp (thn (hc sJ s σ H _ I h) λd s1 ⟨H1,I1,q1⟩=>?_)
 cases d with
 | true=>exact ha sJ s1 σ H1 Q I1 q1
 | false=>exact hb sJ s1 σ H1 Q I1 q1
end
end L2
namespace L2
def SqL(K:oO)(H:Hp)(a:oP)(xs:List V):Prop :=
 Rd H a (.lst xs) \/
  ∃(o:pD) (its:Array oQ) (n:Nat),K.lookup a=sF o/\o.cls=.type "list"/\o.dict=sG/\o.data=.seq its n/\its.size<=oN/\Vals xs its.toList
def SqT(K:oO)(H:Hp)(a:oP)(xs:List V):Prop :=
 Rd H a (.tup xs) \/
  ∃(o:pD) (its:Array oQ) (n:Nat),K.lookup a=sF o/\o.cls=.type "tuple"/\o.data=.seq its n/\its.size<=oN/\Vals xs its.toList
noncomputable def zdd:oQ->Option V
 | .none=>sF .non
 | .bool b=>sF (.bl b)
 | .int i _=>sF (.int i)
 | .str x _=>sF (.str x)
 | .bytes b _=>sF (.byt b)
 | .float b _=>sF (.flt b)
 | .ref a=>sF (.ref a)
 | .type n=>sF (.ty n)
 | _=>sG
theorem RelV.abs{x:V}{u:oQ}(r:RelV x u):zdd u=sF x:=by
 cases x with
 | non=>cases r;rfl
 | bl _=>cases r;rfl
 | int _=>obtain⟨t,rfl⟩:=r;rfl
 | str _=>obtain⟨t,rfl⟩:=r;rfl
 | byt _=>obtain⟨t,rfl⟩:=r;rfl
 | flt _=>obtain⟨t,rfl⟩:=r;rfl
 | ref _=>cases r;rfl
 | ty _=>cases r;rfl
theorem RelV.inj{x y:V}{u:oQ}(r:RelV x u)(q:RelV y u):x=y:=Option.some.inj (r.abs.symm.trans q.abs)
theorem Vals.inj:∀{xs ys:List V} {us:List oQ},Vals xs us->Vals ys us->xs=ys
 | _,_,_,.nil,.nil=>rfl
 | _,_,_,.cons r t,.cons r' t'=>by rw[r.inj r',Vals.inj t t']
section
variable{X:Cx}{sJ:List (oP × pD)}{σ:St}{H:Hp}{s:oR}{a:oP}{xs ys:List V}
theorem SqL.of{K:oO}(h:H a=sF (.lst xs)):SqL K H a xs:=.inl (.inl h)
theorem SqT.of{K:oO}(h:H a=sF (.tup xs)):SqT K H a xs:=.inl (.inl h)
theorem Inv.list(I:Inv X sJ σ H s)(h:SqL X.K H a xs):∃its:List oQ,Vals xs its/\PlainL s.heap a its.toArray/\xs.length<=oN:=by
 rcases h with h | ⟨o,its,n,hk,hc,hd,hs,hz,r⟩
 ·obtain⟨z,its,n,r,e⟩:=h.ok I.hok
  exact⟨its,r,⟨_,n,e,rfl,rfl,rfl⟩,z⟩
 ·refine⟨its.toList,r,⟨o,n,I.kIn a o hk,hc,hd,by simpa using hs⟩,?_⟩
  have e:=r.length
  simp only[dC] at e
  lia
theorem Inv.tuple(I:Inv X sJ σ H s)(h:SqT X.K H a xs):∃its:List oQ,Vals xs its/\IsTup s.heap a its.toArray/\xs.length<=oN:=by
 rcases h with h | ⟨o,its,n,hk,hc,hs,hz,r⟩
 ·obtain⟨z,its,r,p⟩:=h.ok I.hok
  exact⟨its,r,p,z⟩
 ·refine⟨its.toList,r,⟨o,I.kIn a o hk,hc,n,by simpa using hs⟩,?_⟩
  have e:=r.length
  simp only[dC] at e
  lia
theorem Inv.list_inj(I:Inv X sJ σ H s)(h:SqL X.K H a xs)(h':SqL X.K H a ys):xs=ys:=by
 obtain⟨its,r,⟨o,n,e,_,_,d⟩,_⟩:=I.list h
 obtain⟨its',r',⟨o',n',e',_,_,d'⟩,_⟩:=I.list h'
 rw[e] at e';cases e'
 rw[d] at d'
 injection d' with d1 _
 have:its=its':=by simpa using congrArg Array.toList d1
 subst this
 exact r.inj r'
theorem Inv.tuple_inj(I:Inv X sJ σ H s)(h:SqT X.K H a xs)(h':SqT X.K H a ys):xs=ys:=by
 obtain⟨its,r,⟨o,e,_,n,d⟩,_⟩:=I.tuple h
 obtain⟨its',r',⟨o',e',_,n',d'⟩,_⟩:=I.tuple h'
 rw[e] at e';cases e'
 rw[d] at d'
 injection d' with d1 _
 have:its=its':=by simpa using congrArg Array.toList d1
 subst this
 exact r.inj r'
end
noncomputable abbrev Cx.wish(X:Cx)(E:oQ->oR->Prop):Cx:={ X with xe:=E }
noncomputable abbrev Cx.nox(X:Cx):Cx:=X.wish λ_ _=>False
theorem Cx.Ok.wish{X:Cx}(ok:X.Ok)(E:oQ->oR->Prop):(X.wish E).Ok :=
 ⟨ok.mod,ok.kind,ok.glob,ok.blt,ok.above,ok.inj,ok.has,ok.cab,ok.hd,ok.frames,ok.stk,ok.exf,ok.bs,ok.bsz,ok.noex,ok.exfs,ok.funs,ok.frf⟩
theorem Cx.Ok.unwish{X:Cx}{E:oQ->oR->Prop}(ok:(X.wish E).Ok):X.Ok :=
 ⟨ok.mod,ok.kind,ok.glob,ok.blt,ok.above,ok.inj,ok.has,ok.cab,ok.hd,ok.frames,ok.stk,ok.exf,ok.bs,ok.bsz,ok.noex,ok.exfs,ok.funs,ok.frf⟩
section
variable{X:Cx}{sJ:List (oP × pD)}{σ:St}{H:Hp}{s:oR}{E:oQ->oR->Prop}
theorem Inv.wish(I:Inv X sJ σ H s)(E:oQ->oR->Prop):Inv (X.wish E) sJ σ H s:=⟨I.ok.wish E,I.os,I.bare,I.base,I.loc,I.cell,I.free,I.freeC,I.pin,I.hok,I.len⟩
theorem Inv.unwish(I:Inv (X.wish E) sJ σ H s):Inv X sJ σ H s:=⟨I.ok.unwish,I.os,I.bare,I.base,I.loc,I.cell,I.free,I.freeC,I.pin,I.hok,I.len⟩
theorem SP.unwish{D:vk}{f:Flow}{s':oR}(h:SP (X.wish E) sJ D f s'):SP X sJ D f s':=by
 cases f with
 | next=>obtain⟨σ',H',I,q⟩:=h;exact⟨σ',H',I.unwish,q⟩
 | brk=>obtain⟨σ',H',I,q⟩:=h;exact⟨σ',H',I.unwish,q⟩
 | cont=>obtain⟨σ',H',I,q⟩:=h;exact⟨σ',H',I.unwish,q⟩
 | ret u=>obtain⟨v,σ',H',I,r,q⟩:=h;exact⟨v,σ',H',I.unwish,r,q⟩
theorem PSs.nox{st:List pc}{t:TS}(h:PSs X.nox st t):PSs X st t:=λsJ s σ H D I hw =>
 pT (h sJ s σ H D (I.wish _) hw) (λ_ _ q=>q.unwish) λ_ _ z=>False.elim z
end
section
variable{X:Cx}{st:pc}{rest:List pc}{t u:TS}{e:oZ}{te:TE}{pos:pS}
def zaV:TS:=λD σ H=>D.nx σ H
def zc1(t u:TS):TS:=λD σ H=>t { D with nx:=u D } σ H
theorem zD:PSs X [] zaV:=λ_ _ σ H _ I h=>pR ⟨σ,H,I,h⟩
theorem zN(h1:PS X st t)(h2:PSs X rest u):PSs X (st::rest) (zc1 t u):=by
 intro sJ s σ H D I h
 refine pW (thn (h1 sJ s σ H { D with nx:=u D } I h) λf s1 q=>?_)
 cases f with
 | next =>
  obtain⟨σ',H',I',q⟩:=q
  exact h2 sJ s1 σ' H' D I' q
 | ret v=>exact q
 | brk=>exact q
 | cont=>exact q
theorem zh(h1:PS X st t):PSs X [st] t:=by
 intro sJ s σ H D I h
 refine pW (thn (h1 sJ s σ H D I h) λf s1 q=>?_)
 cases f with
 | next=>exact pR q
 | ret v=>exact q
 | brk=>exact q
 | cont=>exact q
def zaR:TS:=λD σ H=>D.bk σ H
def zbY:TS:=λD σ H=>D.ct σ H
theorem Inv.quiet{sJ:List (oP × pD)}{σ:St}{H:Hp}{s:oR}(I:Inv X sJ σ H s):interactive X.env=sI:=by simp [interactive,I.ok.kind]
def zaq(te:TE):TS:=λD σ H=>te σ H λ_ H1=>D.nx σ H1
theorem xM(he:PE X e te)(hs:swapsWith e sG pos.line X.env=pure sI:=by rfl):PS X (.Expr e pos) (zaq te):=by
 intro sJ s σ H D I h
 exact wpAny_Expr_any (thn (he sJ s σ H _ I h) λv s1 ⟨x,H1,I1,r1,q1⟩=>⟨σ,H1,I1,q1⟩) I.quiet hs
def zbA(te:TE):TS:=λD σ H=>te σ H D.rt
theorem zx(he:PE X e te):PS X (.Return (sF e) pos) (zbA te):=by
 intro sJ s σ H D I h
 exact si (thn (he sJ s σ H _ I h) λv s1 ⟨x,H1,I1,r1,q1⟩=>⟨x,σ,H1,I1,r1,q1⟩)
def zcB:TS:=λD _ H=>D.rt .non H
def zcO(c:TT)(t u:TS):TS:=λD σ H=>c σ H λb H1=>if b=sH then t D σ H1 else u D σ H1
theorem z9{c:oZ}{a b:List pc}{tc:TT}(hc:PT X c tc)(ha:PSs X a t)(hb:PSs X b u):PS X (.If c a b pos) (zcO tc t u):=by
 intro sJ s σ H D I h
 refine wpAny_If (thn (hc sJ s σ H _ I h) λd s1 ⟨H1,I1,q1⟩=>?_)
 cases d with
 | true=>exact ha sJ s1 σ H1 D I1 q1
 | false=>exact hb sJ s1 σ H1 D I1 q1
end
noncomputable abbrev TG:=V->St->Hp->(St->Hp->Prop)->Prop
noncomputable abbrev TGs:=List V->St->Hp->(St->Hp->Prop)->Prop
def PG(X:Cx)(target:oZ)(t:TG):Prop :=
 ∀(sJ:List (oP × pD)) (s:oR) (σ:St) (H:Hp) (v:V) (u:oQ) (Q:St->Hp->Prop),Inv X sJ σ H s->RelV v u->t v σ H Q ->
  oS (model X.prog X.w) X.A (assign target X.env u) (λ_ s'=>∃σ' H',Inv X sJ σ' H' s'/\Q σ' H') X.xe s
def PGs(X:Cx)(ts:List oZ)(t:TGs):Prop :=
 ∀(sJ:List (oP × pD)) (s:oR) (σ:St) (H:Hp) (vs:List V) (us:List oQ) (Q:St->Hp->Prop),Inv X sJ σ H s->Vals vs us->t vs σ H Q ->
  oS (model X.prog X.w) X.A (assignInOrder ((assignEach ts X.env).map (·.2)) us) (λ_ s'=>∃σ' H',Inv X sJ σ' H' s'/\Q σ' H') X.xe s
noncomputable abbrev zb6:=V->V->V->Hp->(Hp->Prop)->Prop
def zcT(X:Cx)(t:zb6):Prop :=
 ∀(sJ:List (oP × pD)) (s:oR) (σ:St) (H:Hp) (o i v:V) (ov iv u:oQ) (Q:Hp->Prop),Inv X sJ σ H s->RelV o ov->RelV i iv->RelV v u->t o i v H Q ->
  oS (model X.prog X.w) X.A (setItem ov iv u) (λ_ s'=>∃H',Inv X sJ σ H' s'/\Q H') X.xe s
section
variable{X:Cx}{pos:pS}
def xy(i:Nat):TG:=λv σ H Q=>Q (σ.set i (sF v)) H
theorem zC{i:Nat}{x:oW}(hN:X.N.Nodup)(hi:X.N[i]? = sF x)(hx:Loc X.env.scope x)(hf:X.fn x=sH\/X.env.scope.names.lookup x=sF .local:=by first | exact .inl rfl | exact .inr rfl | assumption):PG X (.Name x pos) (xy i):=by
 intro sJ s σ H v u Q I r h
 exact sf (kA I hN hi hx r (λs' I'=>⟨_,H,I',h⟩) hf)
def K3:TGs:=λvs σ H Q=>vs=[]/\Q σ H
def j4(t:TG)(u:TGs):TGs:=λvs σ H Q=>∃v r,vs=v::r/\t v σ H λσ' H'=>u r σ' H' Q
theorem wM:PGs X [] K3:=by
 intro sJ s σ H vs us Q I r h
 obtain⟨e,h⟩:=h
 subst e
 cases r
 exact assignInOrder_nil ⟨σ,H,I,h⟩
theorem z8{e:oZ}{es:List oZ}{t:TG}{u:TGs}(h1:PG X e t)(h2:PGs X es u)
  (hs:(assignEach (e::es) X.env).map (·.2)=assign e X.env::(assignEach es X.env).map (·.2):=by rfl):PGs X (e::es) (j4 t u):=by
 intro sJ s σ H vs us Q I r h
 obtain⟨v,vr,e1,h⟩:=h
 subst e1
 cases r with
 | cons r rr =>
  rw[hs]
  refine assignInOrder_cons (thn (h1 sJ s σ H _ _ _ I r h) λ_ s1 ⟨σ1,H1,I1,q1⟩=>?_)
  exact h2 sJ s1 σ1 H1 _ _ Q I1 rr q1
def zac(K:oO)(n:Nat)(t:TGs):TG:=λv σ H Q=>∃a xs,v=.ref a/\SqT K H a xs/\xs.length=n/\t xs σ H Q
theorem uA{es:List oZ}{k:Nat}{t:TGs}{n:Nat}(hc:X.calm=sH)(h:PGs X es t)
  (hn:(assignEach es X.env).length=n:=by rfl) (hst:(assignEach es X.env).findIdx? (·.1)=sG:=by rfl):PG X (.Tuple es k pos) (zac X.K n t):=by
 intro sJ s σ H v u Q I r hw
 obtain⟨a,xs,e1,hq,hl,hw⟩:=hw
 subst e1
 cases r
 obtain⟨its,rv,ht,hz⟩:=I.tuple hq
 refine assign_Tuple_tuple (I.ok.hd hc) ht (by simp [hn,<- hl,rv.length]) hst λh' hx=>?_
 have I1:Inv X sJ σ H { s with heap:=h' }:=I.kept (t':=s.toks) λb o e=>hx b o (aE (ay e)) e
 exact h sJ _ σ H xs _ Q I1 (by simpa using rv) hw
def zcQ(to ti:TE)(t:zb6):TG:=λv σ H Q=>to σ H λo H1=>ti σ H1 λi H2=>t o i v H2 λH3=>Q σ H3
theorem zaD{o i:oZ}{to ti:TE}{t:zb6}(ho:PE X o to)(hi:PE X i ti)(hs:zcT X t)
  (ha:∀v,assign (.Subscript o i pos) X.env v=(do
   let ov <- holding [v] (eval o X.env)
   let iv <- holding [v,ov] (eval i X.env)
   standAt pos
   holding [v,ov,iv] (setItem ov iv v)
   release [v,ov,iv] []):=by intro _;rfl):PG X (.Subscript o i pos) (zcQ to ti t):=by
 intro sJ s σ H v u Q I r h
 rw[ha]
 refine oH (pE (thn (ho sJ s σ H _ I h) λov s1 ⟨x,H1,I1,r1,q1⟩=>?_))
 refine oH (pE (thn (hi sJ s1 σ H1 _ I1 q1) λiv s2 ⟨y,H2,I2,r2,q2⟩=>?_))
 refine oH (pN (oH (pE (thn (hs sJ s2 σ H2 x y v ov iv u _ I2 r1 r2 r q2) λ_ s3 ⟨H3,I3,q3⟩=>?_))))
 exact wpAny_release ⟨σ,H3,I3,q3⟩
def zcv(te:TE)(g:TG):TS:=λD σ H=>te σ H λx H1=>g x σ H1 D.nx
theorem Ju{tg e:oZ}{te:TE}{g:TG}(he:PE X e te)(hg:PG X tg g)(hs:swapsWithSole [tg] e pos.line X.env=pure sI:=by rfl)(hw:swappedStores [tg] e X.env=pure sG:=by rfl)
  (h1:(assignEach [tg] X.env).map (·.2)=[assign tg X.env]:=by rfl):PS X (.Assign [tg] e pos) (zcv te g):=by
 intro sJ s σ H D I h
 refine wpAny_Assign_stores (thn (he sJ s σ H _ I h) λv s1 ⟨x,H1,I1,r1,q1⟩=>?_) hs hw
 rw[h1]
 exact thn (hg sJ s1 σ H1 x v _ I1 r1 q1) λ_ s2 q=>q
theorem zt{i:Nat}{x:oW}{e:oZ}{te:TE}{pos':pS}(hN:X.N.Nodup)(hi:X.N[i]? = sF x)(hx:Loc X.env.scope x)(he:PE X e te)(hs:swapsWith e (sF (.Name x pos')) pos.line X.env=pure sI:=by rfl)(hf:X.fn x=sH\/X.env.scope.names.lookup x=sF .local:=by first | exact .inl rfl | exact .inr rfl | assumption) :
  PS X (.Assign [.Name x pos'] e pos) (zcv te (xy i)):=by
 intro sJ s σ H D I h
 refine sj (thn (he sJ s σ H _ I h) λv s1 ⟨y,H1,I1,r1,q1⟩=>?_) hs
 exact kA I1 hN hi hx r1 (λs2 I2=>⟨_,H1,I2,q1⟩) hf
def zdh(i j:Nat)(ta:TA):TS:=λD σ H=>ta σ H λvs H1=>∃v w,vs=[v,w]/\D.nx ((σ.set i (sF v)).set j (sF w)) H1
end
section
variable{X:Cx}{pos:pS}
def Xl(c:TT)(tb:TS):TS:=λD σ H=>∃W:Nat->St->Hp->Prop,(∃m,W m σ H)/\∀m σ H,W m σ H ->
 c σ H λb H1=>if b=sH then ∃N:St->Hp->Prop,(∀σ' H',N σ' H'->∃m',m'<m/\W m' σ' H')/\tb { D with nx:=N,ct:=N,bk:=D.nx } σ H1 else D.nx σ H1
theorem kG{c:oZ}{body:List pc}{tc:TT}{tb:TS}(hp:PassesOwn (model X.prog X.w) X.A X.env X.xe)(hc:PT X c tc)(hb:PSs X body tb):PS X (.While c body [] pos) (Xl tc tb):=by
 intro sJ s σ H D I h
 obtain⟨W,⟨m0,w0⟩,turn⟩:=h
 refine wpAny_While (codeAny_whileLoop (λn s'=>∃σ' H',Inv X sJ σ' H' s'/\W n σ' H') ?_ m0 ⟨σ,H,I,w0⟩)
 rintro n s1 ⟨σ1,H1,I1,w1⟩
 refine pM hp (thn (hc sJ s1 σ1 H1 _ I1 (turn n σ1 H1 w1)) λb s2 ⟨H2,I2,q2⟩=>?_)
 cases b with
 | true =>
  obtain⟨N,hN,q2⟩:=q2
  rw[if_pos rfl]
  refine pM hp (thn (hb sJ s2 σ1 H2 _ I2 q2) λf s3 q3=>?_)
  cases f with
  | next =>
   obtain⟨σ3,H3,I3,n3⟩:=q3
   obtain⟨m',hm,w3⟩:=hN σ3 H3 n3
   exact⟨m',hm,σ3,H3,I3,w3⟩
  | cont =>
   obtain⟨σ3,H3,I3,n3⟩:=q3
   obtain⟨m',hm,w3⟩:=hN σ3 H3 n3
   exact⟨m',hm,σ3,H3,I3,w3⟩
  | brk=>exact q3
  | ret v=>exact q3
 | false =>
  rw[if_neg aF]
  exact pR ⟨σ1,H2,I2,q2⟩
end
structure It where
 go:Nat->Hp->Prop
 yld:Nat->Hp->V->Hp->Prop
 stop:Nat->Hp->Prop
def xW(X:Cx)(sJ:List (oP × pD))(H:Hp)(b:oP):Prop :=
 H b=sG/\b≠X.env.locals/\b ∉ X.fs/\(b ∈ X.ex\/X.s₀.heap.objs.size<=b)/\(∀x c,X.env.cells.lookup x=sF c->c≠b)/\∀p ∈ X.pn ++ sJ,p.1≠b
theorem Inv.fpOk{X:Cx}{sJ:List (oP × pD)}{σ:St}{H H':Hp}{s:oR}{b:oP}(I:Inv X sJ σ H s)(hb:s.heap.objs.size<=b)(hn:H' b=sG):xW X sJ H' b:=by
 refine⟨hn,cb (aD I.lt hb),I.nofs hb,.inr (aO I.sz hb),λx c e z=>?_,λp hp z=>?_⟩
 ·obtain⟨v,q⟩:=I.cell x c e
  exact absurd (aD q.lt (by rw[z];exact hb)) (cI _)
 ·exact absurd (aD (ay (I.pin p hp).1) (by rw[z];exact hb)) (cI _)
structure Uz(P:oV)(w:oX)(K:oO)(tg:oZ)(J:It)(fp:List oP)(it:oP)(tn:Nat->pb->Prop):Prop where
 mem:it ∈ fp
 obj:∀i h,tn i h->∀b ∈ fp,∃o,h.get? b=sF o/\∀v,o.data≠.cell v
 keep:∀i h h',tn i h->(∀b ∈ fp,∀o,h.get? b=sF o->h'.get? b=sF o)->tn i h'
 item:∀(X:Cx),X.prog=P->X.w=w->X.K=K->X.calm=sH->∀(i:Nat) (sJ:List (oP × pD)) (s:oR) (σ:St) (H:Hp) (E:oQ->oR->Prop),Inv X sJ σ H s->(∀b ∈ fp,xW X sJ H b)->tn i s.heap->J.go i H ->
  oS (model P w) X.A (pyNext (.ref it)) (λr s1=>∃u,r=sF u /\
   oS (model P w) X.A (letOwnedTupleGo tg (.ref it) u) (λ_ s2=>∃x H',Inv X sJ σ H' s2/\RelV x u/\J.yld i H x H'/\tn (i+1) s2.heap/\∀b ∈ fp,H' b=sG) E s1) E s
 done:∀(X:Cx),X.prog=P->X.w=w->X.K=K->X.calm=sH->∀(i:Nat) (sJ:List (oP × pD)) (s:oR) (σ:St) (H:Hp) (E:oQ->oR->Prop),Inv X sJ σ H s->(∀b ∈ fp,xW X sJ H b)->tn i s.heap->J.stop i H ->
  oS (model P w) X.A (pyNext (.ref it)) (λr s1=>r=sG/\Inv X sJ σ H s1) E s
 self:∀(A:oY) (i:Nat) (s:oR) (Q:oQ->oR->Prop) (E:oQ->oR->Prop),tn i s.heap->Q (.ref it) s->oS (model P w) A (pyIter (.ref it)) Q E s
noncomputable abbrev TI:=St->Hp->(It->Hp->Prop)->Prop
def PIE(X:Cx)(sJ:List (oP × pD))(σ:St)(tg:oZ)(R:It->Hp->Prop)(itv:oQ)(s2:oR):Prop :=
 ∃(it:oP) (fp:List oP) (tn:Nat->pb->Prop) (J:It) (H':Hp),itv=.ref it/\Inv X sJ σ H' s2/\Uz X.prog X.w X.K tg J fp it tn/\tn 0 s2.heap/\(∀b ∈ fp,xW X sJ H' b)/\R J H'
def PI(X:Cx)(tg iter:oZ)(wi:TI):Prop :=
 ∀(sJ:List (oP × pD)) (s:oR) (σ:St) (H:Hp) (R:It->Hp->Prop),Inv X sJ σ H s->wi σ H R ->
  oS (model X.prog X.w) X.A (eval iter X.env) (λv s1=>oS (model X.prog X.w) X.A (pyIter v) (PIE X sJ σ tg R) X.xe s1) X.xe s
theorem VM{M:sk}{A:oY}{E:oQ->oR->Prop}{s:oR}{tg:oZ}{it:oP}{u:oQ}{o:pD}{n:String}{vs:Array oQ}{Q:Unit->oR->Prop}(ho:s.heap.get? it=sF o)(hc:o.cls=.type n)(hd:o.data=.fields vs)
    (hn:["enumerate","zip","dict_itemiterator","dict_reverseitemiterator","odict_iterator","itertools.zip_longest","itertools.pairwise"].contains n=sI) (hQ:Q () s):oS M A (letOwnedTupleGo tg (.ref it) u) Q E s:=by
  unfold letOwnedTupleGo
  cases tg <;> first
    | exact oJ hQ
    | (cases u <;> first
        | exact oJ hQ
        | (refine oH (wpAny_load ho ?_)
           rw[hc,hd]
           show oS M A (if (["enumerate","zip","dict_itemiterator","dict_reverseitemiterator","odict_iterator","itertools.zip_longest","itertools.pairwise"].contains n && vs[0]? == sF (rawInt _))=sH then _ else _) Q E s
           rw[if_neg (by intro h;rw[hn,Bool.false_and] at h;cases h)]
           exact oJ hQ))
noncomputable def Itl(K:oO)(a:oP):It :=
 ⟨λi H=>∃xs x,SqL K H a xs/\xs[i]? = sF x,λi H x H'=>H'=H/\∀xs,SqL K H a xs->xs[i]? = sF x,λi H=>∃xs,SqL K H a xs/\xs.length<=i⟩
noncomputable def Itt(K:oO)(a:oP):It :=
 ⟨λi H=>∃xs x,SqT K H a xs/\xs[i]? = sF x,λi H x H'=>H'=H/\∀xs,SqT K H a xs->xs[i]? = sF x,λi H=>∃xs,SqT K H a xs/\xs.length<=i⟩
noncomputable def Itr(lo:Int)(n:Nat):It:=⟨λi _=>i<n,λi H x H'=>H'=H/\x=.int (lo+i),λi _=>n<=i⟩
theorem V2{P:oV}{w:oX}{K:oO}{tg:oZ}(a it:oP):Uz P w K tg (Itl K a) [it] it (λi h=>h.IsListIter it a i) where
 mem:=by simp
 obj:=λi h st b hb=>by
  have e:b=it:=by simpa using hb
  subst e
  obtain⟨o,e,c,d⟩:=st
  exact⟨o,e,λv z=>by rw[d] at z;cases z⟩
 keep:=λi h h' st k=>st.at λo e=>k it (by simp) o e
 item:=by
  intro X hP hw hK hc i sJ s σ H E I hf st hg
  subst hP hw hK
  obtain⟨xs,x,hq,hx⟩:=hg
  obtain⟨its,rv,p,hz⟩:=I.list hq
  obtain⟨u,hu,ru⟩:=rv.get hx
  obtain⟨f0,f1,f2,f3,f4,f5⟩:=hf it (by simp)
  refine wpAny_pyNext_list_item st p.isList (x:=u) (by simpa using hu) λh' st' sb=>?_
  have I1:Inv X sJ σ H { s with heap:=h' }:=I.turned (t':=s.toks) (λb o hb e=>(sb.2 b hb).trans e) f0 f1 f3 f4 f5
  obtain⟨o,e,c,d⟩:=id st'
  exact⟨u,rfl,VM (s:={ s with heap:=h' }) e c d (by decide) ⟨x,H,I1,ru,⟨rfl,λys hy=>by rw[I.list_inj hy hq];exact hx⟩,st',λb hb=>(hf b hb).1⟩⟩
 done:=by
  intro X hP hw hK hc i sJ s σ H E I hf st hg
  subst hP hw hK
  obtain⟨xs,hq,hx⟩:=hg
  obtain⟨its,rv,p,hz⟩:=I.list hq
  obtain⟨f0,f1,f2,f3,f4,f5⟩:=hf it (by simp)
  have hl:=rv.length
  exact wpAny_pyNext_list_end (I.ok.hd hc) st p.isList (by simp;lia) λh' eb=>⟨rfl,I.turned (t':=s.toks) (λb o hb e=>eb b o hb e) f0 f1 f3 f4 f5⟩
 self:=λ_ _ _ _ _ st h=>wpAny_pyIter_listiter st h
theorem XU{P:oV}{w:oX}{K:oO}{tg:oZ}(a it:oP):Uz P w K tg (Itt K a) [it] it (λi h=>h.IsTupleIter it a i) where
 mem:=by simp
 obj:=λi h st b hb=>by
  have e:b=it:=by simpa using hb
  subst e
  obtain⟨o,e,c,d⟩:=st
  exact⟨o,e,λv z=>by rw[d] at z;cases z⟩
 keep:=λi h h' st k=>st.at λo e=>k it (by simp) o e
 item:=by
  intro X hP hw hK hc i sJ s σ H E I hf st hg
  subst hP hw hK
  obtain⟨xs,x,hq,hx⟩:=hg
  obtain⟨its,rv,p,hz⟩:=I.tuple hq
  obtain⟨u,hu,ru⟩:=rv.get hx
  obtain⟨f0,f1,f2,f3,f4,f5⟩:=hf it (by simp)
  refine wpAny_pyNext_tuple_item st (show s.heap.IsTuple a its.toArray from p) (x:=u) (by simpa using hu) λh' st' sb=>?_
  have I1:Inv X sJ σ H { s with heap:=h' }:=I.turned (t':=s.toks) (λb o hb e=>(sb.2 b hb).trans e) f0 f1 f3 f4 f5
  obtain⟨o,e,c,d⟩:=id st'
  exact⟨u,rfl,VM (s:={ s with heap:=h' }) e c d (by decide) ⟨x,H,I1,ru,⟨rfl,λys hy=>by rw[I.tuple_inj hy hq];exact hx⟩,st',λb hb=>(hf b hb).1⟩⟩
 done:=by
  intro X hP hw hK hc i sJ s σ H E I hf st hg
  subst hP hw hK
  obtain⟨xs,hq,hx⟩:=hg
  obtain⟨its,rv,p,hz⟩:=I.tuple hq
  obtain⟨f0,f1,f2,f3,f4,f5⟩:=hf it (by simp)
  have hl:=rv.length
  exact wpAny_pyNext_tuple_end (I.ok.hd hc) st (show s.heap.IsTuple a its.toArray from p) (by simp;lia) λh' eb=>⟨rfl,I.turned (t':=s.toks) (λb o hb e=>eb b o hb e) f0 f1 f3 f4 f5⟩
 self:=λ_ _ _ _ _ st h=>wpAny_pyIter_tupleiter st h
theorem XS{P:oV}{w:oX}{K:oO}{tg:oZ}(it:oP)(lo:Int)(n:Nat):Uz P w K tg (Itr lo n) [it] it (λi h=>IsRangeIter h it (lo+(i:Nat) * 1) ((n:Int) - (i:Nat)) 1) where
 mem:=by simp
 obj:=λi h st b hb=>by
  have e:b=it:=by simpa using hb
  subst e
  exact⟨_,st,λv z=>by
   have z':Data.fields _=Data.cell v:=z
   cases z'⟩
 keep:=λi h h' st k=>k it (by simp) _ st
 item:=by
  intro X hP hw hK hc i sJ s σ H E I hf st hg
  subst hP hw hK
  obtain⟨f0,f1,f2,f3,f4,f5⟩:=hf it (by simp)
  have W:=Walks.range (prog:=X.prog) (w:=X.w) (I.ok.hd hc) it lo 1 n
  refine W.item i s _ _ hg st λv h' tk hv st' kk=>?_
  obtain⟨t,rfl⟩:=hv
  have I1:Inv X sJ σ H { s with heap:=h',toks:=tk }:=I.turned (λb o hb e=>kk b o (by simpa using hb) e) f0 f1 f3 f4 f5
  refine⟨_,rfl,VM (s:={ s with heap:=h',toks:=tk }) (n:="range_iterator") st' rfl rfl (by decide) ⟨.int (lo+i),H,I1,⟨t,?_⟩,⟨rfl,rfl⟩,st',λb hb=>(hf b hb).1⟩⟩
  rw[Int.mul_one]
 done:=by
  intro X hP hw hK hc i sJ s σ H E I hf st hg
  subst hP hw hK
  obtain⟨f0,f1,f2,f3,f4,f5⟩:=hf it (by simp)
  exact wpAny_pyNext_range_end (I.ok.hd hc) st (by have:n<=i:=hg;lia) λh' eb=>⟨rfl,I.turned (t':=s.toks) (λb o hb e=>eb b o hb e) f0 f1 f3 f4 f5⟩
 self:=λ_ _ _ _ _ st h=>wpAny_pyIter_rangeiter st h
end L2
namespace L2
section
variable{X:Cx}{tg:oZ}
def JT(K:oO)(tl:TE):TI:=λσ H R=>tl σ H λx H1=>∃a,x=.ref a/\(∃xs,SqL K H1 a xs)/\R (Itl K a) H1
def zcG(K:oO)(tl:TE):TI:=λσ H R=>tl σ H λx H1=>∃a,x=.ref a/\(∃xs,SqT K H1 a xs)/\R (Itt K a) H1
theorem yC{l:oZ}{tl:TE}(hl:PE X l tl):PI X tg l (JT X.K tl):=by
 intro sJ s σ H R I h
 refine thn (hl sJ s σ H _ I h) λv s1 ⟨x,H1,I1,r1,q1⟩=>?_
 obtain⟨a,e,⟨xs,hq⟩,q⟩:=q1
 subst e
 cases r1
 obtain⟨its,rv,p,hz⟩:=I1.list hq
 refine rA p.isList ?_
 refine⟨s1.heap.objs.size,[s1.heap.objs.size],_,_,H1,rfl,I1.kept (t':=s1.toks) λb o e=>aa _ e,V2 a _,⟨_,aI _ rfl,rfl,rfl⟩,λb hb=>?_,q⟩
 have e:b=s1.heap.objs.size:=by simpa using hb
 subst e
 exact I1.fpOk (au _) (I1.hok.fresh (au _))
theorem zah{l:oZ}{tl:TE}(hl:PE X l tl):PI X tg l (zcG X.K tl):=by
 intro sJ s σ H R I h
 refine thn (hl sJ s σ H _ I h) λv s1 ⟨x,H1,I1,r1,q1⟩=>?_
 obtain⟨a,e,⟨xs,hq⟩,q⟩:=q1
 subst e
 cases r1
 obtain⟨its,rv,p,hz⟩:=I1.tuple hq
 refine rY (show s1.heap.IsTuple a its.toArray from p) ?_
 refine⟨s1.heap.objs.size,[s1.heap.objs.size],_,_,H1,rfl,I1.kept (t':=s1.toks) λb o e=>aa _ e,XU a _,⟨_,aI _ rfl,rfl,rfl⟩,λb hb=>?_,q⟩
 have e:b=s1.heap.objs.size:=by simpa using hb
 subst e
 exact I1.fpOk (au _) (I1.hok.fresh (au _))
theorem Xy{sJ:List (oP × pD)}{σ:St}{H:Hp}{s:oR}{R:It->Hp->Prop}{E:oQ->oR->Prop}{lo hi:Int}{t u v:rD}{tk:Nat}(I:Inv X sJ σ H s)(h1:-(2 ^ 62)<=lo)(h2:lo<2 ^ 62)(h3:-(2 ^ 62)<=hi)(h4:hi<2 ^ 62)
  (q:R (Itr lo (hi - lo).toNat) H):oS (model X.prog X.w) X.A (pyIter (.ref s.heap.objs.size)) (PIE X sJ σ tg R) E { s with heap:=s.heap.push { cls:=.type "range",data:=.fields #[.int lo t,.int hi u,.int 1 v] },toks:=tk }:=by
 refine wpAny_pyIter_range (IsRange.new ..) (small_one h1 h2 h3 h4) ?_
 have I1:Inv X sJ σ H { s with heap:=s.heap.push { cls:=.type "range",data:=.fields #[.int lo t,.int hi u,.int 1 v] },toks:=tk }:=I.kept λb o e=>aa _ e
 refine⟨(s.heap.push { cls:=.type "range",data:=.fields #[.int lo t,.int hi u,.int 1 v] }).objs.size,[(s.heap.push { cls:=.type "range",data:=.fields #[.int lo t,.int hi u,.int 1 v] }).objs.size],_,_,H,rfl,
  I1.kept (t':=tk) λb o e=>aa _ e,XS _ lo (hi - lo).toNat,?_,λb hb=>?_,q⟩
 ·have e1:lo+((0:Nat):Int) * 1=lo:=by simp
  have e2:(((hi - lo).toNat:Nat):Int) - ((0:Nat):Int)=Builtin.Range.rangeSize lo hi 1:=by rw[rangeSize_one];split <;> lia
  show IsRangeIter _ _ (lo+((0:Nat):Int) * 1) ((((hi - lo).toNat:Nat):Int) - ((0:Nat):Int)) 1
  rw[e1,e2]
  exact aI _ rfl
 ·have e:b=(s.heap.push { cls:=.type "range",data:=.fields #[.int lo t,.int hi u,.int 1 v] }).objs.size:=by simpa using hb
  subst e
  exact I1.fpOk (au _) (I1.hok.fresh (au _))
def KC(ta:TA):TI:=λσ H R=>ta σ H λvs H1=>∃j:Int,vs=[.int j]/\-(2 ^ 62)<=j/\j<2 ^ 62/\R (Itr 0 j.toNat) H1
def zaT(ta:TA):TI:=λσ H R=>ta σ H λvs H1=>∃i j:Int,vs=[.int i,.int j]/\(-(2 ^ 62)<=i/\i<2 ^ 62/\-(2 ^ 62)<=j/\j<2 ^ 62)/\R (Itr i (j - i).toNat) H1
theorem xN{a:oZ}{ta:TA}{p pos:pS}(hg:Gl X "range")(hm:X.mg "range" = sG)(ha:PA X [a] ta)(hs:oM [a] X.env=[(sI,eval a X.env)]:=by rfl):PI X tg (.Call (.Name "range" p) [a] [] pos) (KC ta):=by
 intro sJ s σ H R I h
 refine Call_ (vj I hg hm boot_range (bD (thn (ha pos sJ s σ H _ I h) λus s1 ⟨vs,H1,I1,r1,q1⟩=>?_) hs rfl))
 obtain⟨j,e,q1,q2,q⟩:=q1
 subst e
 cases r1 with
 | cons r rr =>
  cases rr
  obtain⟨t,rfl⟩:=r
  exact call_range_1 (Xy I1 (by lia) (by lia) q1 q2 (by simpa using q))
theorem WL{a b:oZ}{ta:TA}{p pos:pS}(hg:Gl X "range")(hm:X.mg "range" = sG)(ha:PA X [a,b] ta)(hs:oM [a,b] X.env=[(sI,eval a X.env),(sI,eval b X.env)]:=by rfl)(hs2:oM [b] X.env=[(sI,eval b X.env)]:=by rfl) :
  PI X tg (.Call (.Name "range" p) [a,b] [] pos) (zaT ta):=by
 intro sJ s σ H R I h
 refine Call_ (vj I hg hm boot_range (bD (thn (ha pos sJ s σ H _ I h) λus s1 ⟨vs,H1,I1,r1,q1⟩=>?_) (by rw[hs,hs2]) (by rw[hs2];rfl)))
 obtain⟨i,j,e,⟨q1,q2,q3,q4⟩,q⟩:=q1
 subst e
 cases r1 with
 | cons r rr =>
  cases rr with
  | cons r' rr =>
   cases rr
   obtain⟨t,rfl⟩:=r
   obtain⟨t',rfl⟩:=r'
   exact call_range_2 (Xy I1 q1 q2 q3 q4 q)
def UE(wi:TI)(g:TG)(tb:TS):TS:=λD σ H=>wi σ H λJ H1=>∃W:Nat->Nat->St->Hp->Prop,(∃m,W 0 m σ H1)/\∀i m σ H,W i m σ H ->
 (J.stop i H/\D.nx σ H)\/(J.go i H/\∃N:St->Hp->Prop,(∀σ' H',N σ' H'->∃m',m'<m/\W (i+1) m' σ' H')/\∀x H',J.yld i H x H'->g x σ H' λσ2 H2=>tb { D with nx:=N,ct:=N,bk:=D.nx } σ2 H2)
noncomputable def jx(fp:List oP)(h:pb):List (oP × pD):=fp.filterMap λb=>(h.get? b).map λo=>(b,o)
theorem xD{fp:List oP}{h:pb}{b:oP}{o:pD}(hb:b ∈ fp)(e:h.get? b=sF o):(b,o) ∈ jx fp h:=List.mem_filterMap.mpr ⟨b,hb,by rw[e];rfl⟩
theorem WO{fp:List oP}{h:pb}{p:oP × pD}(hp:p ∈ jx fp h):p.1 ∈ fp/\h.get? p.1=sF p.2:=by
 obtain⟨b,hb,e⟩:=List.mem_filterMap.mp hp
 cases q:h.get? b with
 | none=>rw[q] at e;cases e
 | some o =>
  rw[q] at e
  have e':(b,o)=p:=Option.some.inj e
  subst e'
  exact⟨hb,q⟩
theorem Inv.pinned{sJ:List (oP × pD)}{σ:St}{H:Hp}{s:oR}{fp:List oP}(I:Inv X sJ σ H s)(hf:∀b ∈ fp,xW X sJ H b)(ho:∀b ∈ fp,∃o,s.heap.get? b=sF o/\∀v,o.data≠.cell v):Inv X (sJ ++ jx fp s.heap) σ H s :=
 I.pins_of λp hp=>(List.mem_append.mp hp).elim (λz=>I.pin p (aA _ z)) λz=>by
  obtain⟨hb,e⟩:=WO z
  obtain⟨f0,f1,f2,_⟩:=hf p.1 hb
  obtain⟨o,e',d⟩:=ho p.1 hb
  rw[e] at e';cases e'
  exact⟨e,f0,f1,f2,d⟩
theorem Inv.unpinned{sJ pl:List (oP × pD)}{σ:St}{H:Hp}{s:oR}(I:Inv X (sJ ++ pl) σ H s):Inv X sJ σ H s:=I.pins_of λp hp=>I.pin p (aA _ (aR _ hp))
theorem yE{iter:oZ}{body:List pc}{wi:TI}{g:TG}{tb:TS}{pos:pS}(hp:PassesOwn (model X.prog X.w) X.A X.env X.xe)(hc:X.calm=sH)(hi:PI X tg iter wi)(hg:PG X tg g)(hb:PSs X body tb)
  (hs:∀x,foldedSetIterable iter X.env x=pure x:=by intro _;rfl):PS X (.For tg iter body [] pos) (UE wi g tb):=by
 intro sJ s σ H D I h
 refine wpAny_For (thn (hi sJ s σ H _ I h) λv s1 h1=>thn h1 λitv s2 h2=>?_) hs
 obtain⟨it,fp,tn,J,H2,e,I2,T,st2,f2,W,⟨m0,w0⟩,turn⟩:=h2
 subst e
 have stat:∀{H':Hp},(∀b ∈ fp,H' b=sG)->∀b ∈ fp,xW X sJ H' b:=λhn b hb=>⟨hn b hb,(f2 b hb).2⟩
 refine codeAny_forLoop_any (λn s'=>∃i σ' H',Inv X sJ σ' H' s'/\tn i s'.heap/\(∀b ∈ fp,H' b=sG)/\W i n σ' H') ?_ m0 ⟨0,σ,H2,I2,st2,λb hb=>(f2 b hb).1,w0⟩
 rintro n s3 ⟨i,σ3,H3,I3,st3,fr3,w3⟩
 rcases turn i n σ3 H3 w3 with ⟨stop,qn⟩ | ⟨go,N,hN,step⟩
 ·refine pM hp (thn (T.done X rfl rfl rfl hc i sJ s3 σ3 H3 X.xe I3 (stat fr3) st3 stop) λr s4 ⟨hr,I4⟩=>?_)
  subst hr
  exact pR ⟨σ3,H3,I4,qn⟩
 ·refine pM hp (thn (T.item X rfl rfl rfl hc i sJ s3 σ3 H3 X.xe I3 (stat fr3) st3 go) λr s4 ⟨u,hr,h4⟩=>?_)
  subst hr
  refine pM hp (thn h4 λ_ s5 ⟨x,H5,I5,r5,y5,st5,fr5⟩=>?_)
  have I5':=I5.pinned (stat fr5) (T.obj _ _ st5)
  refine pM hp (thn (hg _ s5 σ3 H5 x u _ I5' r5 (step x H5 y5)) λ_ s6 ⟨σ6,H6,I6,q6⟩=>?_)
  refine pM hp (thn (hb _ s6 σ6 H6 _ I6 q6) λf s7 q7=>?_)
  have again:∀{σ7:St} {H7:Hp},Inv X (sJ ++ jx fp s5.heap) σ7 H7 s7->N σ7 H7->∃m,m<n/\∃i σ' H',Inv X sJ σ' H' s7/\tn i s7.heap/\(∀b ∈ fp,H' b=sG)/\W i m σ' H':=λ{σ7 H7} I7 n7=>by
   obtain⟨m',hm,w7⟩:=hN σ7 H7 n7
   refine⟨m',hm,i+1,σ7,H7,I7.unpinned,T.keep _ _ _ st5 λb hb o e=>(I7.pin (b,o) (aA _ (aA _ (xD hb e)))).1,λb hb=>?_,w7⟩
   obtain⟨o,e,d⟩:=T.obj _ _ st5 b hb
   exact (I7.pin (b,o) (aA _ (aA _ (xD hb e)))).2.1
  cases f with
  | next=>obtain⟨σ7,H7,I7,n7⟩:=q7;exact again I7 n7
  | cont=>obtain⟨σ7,H7,I7,n7⟩:=q7;exact again I7 n7
  | brk=>obtain⟨σ7,H7,I7,q7⟩:=q7;exact⟨σ7,H7,I7.unpinned,q7⟩
  | ret v=>obtain⟨x7,σ7,H7,I7,r7,q7⟩:=q7;exact⟨x7,σ7,H7,I7.unpinned,r7,q7⟩
end
theorem Qa{K:oO}{a:oP}{xs:List V}{g:TG}{tb:TS}{D:vk}{σ:St}{H:Hp}(Pv:Nat->St->Hp->Prop)(h0:Pv 0 σ H)(hl:∀i σ H,i<=xs.length->Pv i σ H->SqL K H a xs)
  (hs:∀i x σ H,xs[i]? = sF x->Pv i σ H->g x σ H λσ2 H2=>tb { D with nx:=Pv (i+1),ct:=Pv (i+1),bk:=D.nx } σ2 H2) (hd:∀σ H,Pv xs.length σ H->D.nx σ H) :
  ∃W:Nat->Nat->St->Hp->Prop,(∃m,W 0 m σ H)/\∀i m σ H,W i m σ H ->
   ((Itl K a).stop i H/\D.nx σ H)\/((Itl K a).go i H/\∃N:St->Hp->Prop,(∀σ' H',N σ' H'->∃m',m'<m/\W (i+1) m' σ' H')/\∀x H',(Itl K a).yld i H x H'->g x σ H' λσ2 H2=>tb { D with nx:=N,ct:=N,bk:=D.nx } σ2 H2):=by
 refine⟨λi m σ H=>m=xs.length - i/\i<=xs.length/\Pv i σ H,⟨xs.length,by simp,aJ _,h0⟩,?_⟩
 rintro i m σ H ⟨rfl,hi,p⟩
 have q:=hl i σ H hi p
 by_cases hlt:i<xs.length
 ·refine .inr ⟨⟨xs,xs[i],q,by simp [hlt]⟩,Pv (i+1),λσ' H' p'=>⟨xs.length - (i+1),by lia,rfl,hlt,p'⟩,λx H' y=>?_⟩
  obtain⟨e,y⟩:=y
  subst e
  exact hs i x σ _ (y xs q) p
 ·have e:i=xs.length:=by lia
  subst e
  exact .inl ⟨⟨xs,q,au _⟩,hd σ H p⟩
theorem JE{K:oO}{a:oP}{xs:List V}{g:TG}{tb:TS}{D:vk}{σ:St}{H:Hp}(Pv:Nat->St->Hp->Prop)(h0:Pv 0 σ H)(hl:∀i σ H,i<=xs.length->Pv i σ H->SqT K H a xs)
  (hs:∀i x σ H,xs[i]? = sF x->Pv i σ H->g x σ H λσ2 H2=>tb { D with nx:=Pv (i+1),ct:=Pv (i+1),bk:=D.nx } σ2 H2) (hd:∀σ H,Pv xs.length σ H->D.nx σ H) :
  ∃W:Nat->Nat->St->Hp->Prop,(∃m,W 0 m σ H)/\∀i m σ H,W i m σ H ->
   ((Itt K a).stop i H/\D.nx σ H)\/((Itt K a).go i H/\∃N:St->Hp->Prop,(∀σ' H',N σ' H'->∃m',m'<m/\W (i+1) m' σ' H')/\∀x H',(Itt K a).yld i H x H'->g x σ H' λσ2 H2=>tb { D with nx:=N,ct:=N,bk:=D.nx } σ2 H2):=by
 refine⟨λi m σ H=>m=xs.length - i/\i<=xs.length/\Pv i σ H,⟨xs.length,by simp,aJ _,h0⟩,?_⟩
 rintro i m σ H ⟨rfl,hi,p⟩
 have q:=hl i σ H hi p
 by_cases hlt:i<xs.length
 ·refine .inr ⟨⟨xs,xs[i],q,by simp [hlt]⟩,Pv (i+1),λσ' H' p'=>⟨xs.length - (i+1),by lia,rfl,hlt,p'⟩,λx H' y=>?_⟩
  obtain⟨e,y⟩:=y
  subst e
  exact hs i x σ _ (y xs q) p
 ·have e:i=xs.length:=by lia
  subst e
  exact .inl ⟨⟨xs,q,au _⟩,hd σ H p⟩
theorem W6{lo:Int}{n:Nat}{g:TG}{tb:TS}{D:vk}{σ:St}{H:Hp}(Pv:Nat->St->Hp->Prop)(h0:Pv 0 σ H)
  (hs:∀i σ H,i<n->Pv i σ H->g (.int (lo+i)) σ H λσ2 H2=>tb { D with nx:=Pv (i+1),ct:=Pv (i+1),bk:=D.nx } σ2 H2) (hd:∀σ H,Pv n σ H->D.nx σ H) :
  ∃W:Nat->Nat->St->Hp->Prop,(∃m,W 0 m σ H)/\∀i m σ H,W i m σ H ->
   ((Itr lo n).stop i H/\D.nx σ H)\/((Itr lo n).go i H/\∃N:St->Hp->Prop,(∀σ' H',N σ' H'->∃m',m'<m/\W (i+1) m' σ' H')/\∀x H',(Itr lo n).yld i H x H'->g x σ H' λσ2 H2=>tb { D with nx:=N,ct:=N,bk:=D.nx } σ2 H2):=by
 refine⟨λi m σ H=>m=n - i/\i<=n/\Pv i σ H,⟨n,by simp,aJ _,h0⟩,?_⟩
 rintro i m σ H ⟨rfl,hi,p⟩
 by_cases hlt:i<n
 ·refine .inr ⟨hlt,Pv (i+1),λσ' H' p'=>⟨n - (i+1),by lia,rfl,hlt,p'⟩,λx H' y=>?_⟩
  obtain⟨e,y⟩:=y
  subst e y
  exact hs i σ _ hlt p
 ·have e:i=n:=by lia
  subst e
  exact .inl ⟨au _,hd σ H p⟩
end L2
namespace L2
noncomputable abbrev R2:=V->V->Hp->VK->Prop
def OpR(X:Cx)(f:oQ->oQ->sx oQ)(r:R2):Prop :=
 ∀(sJ:List (oP × pD)) (s:oR) (σ:St) (H:Hp) (x y:V) (v u:oQ) (Q:VK),Inv X sJ σ H s->RelV x v->RelV y u->r x y H Q ->
  oS (model X.prog X.w) X.A (f v u) (EP X sJ σ Q) X.xe s
def UnR(X:Cx)(f:oQ->sx oQ)(r:V->Hp->VK->Prop):Prop :=
 ∀(sJ:List (oP × pD)) (s:oR) (σ:St) (H:Hp) (x:V) (v:oQ) (Q:VK),Inv X sJ σ H s->RelV x v->r x H Q ->
  oS (model X.prog X.w) X.A (f v) (EP X sJ σ Q) X.xe s
def vP(X:Cx)(f:oQ)(r:List V->Hp->VK->Prop):Prop :=
 ∀(sJ:List (oP × pD)) (s:oR) (σ:St) (H:Hp) (xs:List V) (us:List oQ) (Q:VK),Inv X sJ σ H s->Vals xs us->r xs H Q ->
  oS (model X.prog X.w) X.A (call f us) (EP X sJ σ Q) X.xe s
def zda(X:Cx)(r:V->Hp->(Bool->Hp->Prop)->Prop):Prop :=
 ∀(sJ:List (oP × pD)) (s:oR) (σ:St) (H:Hp) (x:V) (v:oQ) (Q:Bool->Hp->Prop),Inv X sJ σ H s->RelV x v->r x H Q ->
  oS (model X.prog X.w) X.A (truthy v) (TP X sJ σ Q) X.xe s
def tOp(r:R2)(ta tb:TE):TE:=λσ H Q=>ta σ H λx H1=>tb σ H1 λy H2=>r x y H2 Q
def tUn(r:V->Hp->VK->Prop)(ta:TE):TE:=λσ H Q=>ta σ H λx H1=>r x H1 Q
def rI(C:Int->Int->Prop)(g:Int->Int->V):R2:=λx y H Q=>∃i j,x=.int i/\y=.int j/\C i j/\Q (g i j) H
def rI0(g:Int->Int->V):R2:=λx y H Q=>∃i j,x=.int i/\y=.int j/\Q (g i j) H
def rU(g:Int->V):V->Hp->VK->Prop:=λx H Q=>∃i,x=.int i/\Q (g i) H
section
variable{X:Cx}{a b c:oZ}{ta tb tc:TE}{pos:pS}
theorem zb8(ha:PE X a ta)(hb:PE X b tb){sJ:List (oP × pD)}{s:oR}{σ:St}{H:Hp}{R:V->V->Hp->Prop}(I:Inv X sJ σ H s)
  (h:ta σ H λx H1=>tb σ H1 λy H2=>R x y H2) {Q:oQ->oR->Prop} {f:oQ->oQ->sx oQ}
  (hf:∀v u s2 x y H2,Inv X sJ σ H2 s2->RelV x v->RelV y u->R x y H2->oS (model X.prog X.w) X.A (f v u) Q X.xe s2) :
  oS (model X.prog X.w) X.A (eval a X.env) (λv s₁=>oS (model X.prog X.w) X.A (eval b X.env) (λu s₂=>oS (model X.prog X.w) X.A (f v u) Q X.xe s₂) X.xe s₁) X.xe s:=by
 refine thn (ha sJ s σ H _ I h) λv s1 ⟨x,H1,I1,r1,q1⟩=>?_
 refine thn (hb sJ s1 σ H1 _ I1 q1) λu s2 ⟨y,H2,I2,r2,q2⟩=>?_
 exact hf v u s2 x y H2 I2 r1 r2 q2
theorem zB{op:Operator}{r:R2}(ho:OpR X (binaryOp op) r)(ha:PE X a ta)(hb:PE X b tb):PE X (.BinOp a op b pos) (tOp r ta tb):=by
 intro sJ s σ H Q I h
 exact wpAny_BinOp (zb8 ha hb I h λv u s2 x y H2 I2 rx ry q=>ho sJ s2 σ H2 x y v u Q I2 rx ry q)
theorem zcp{op:UnaryOp}{r:V->Hp->VK->Prop}(ho:UnR X (unaryOp op) r)(ha:PE X a ta):PE X (.UnaryOp op a pos) (tUn r ta):=by
 intro sJ s σ H Q I h
 exact UnaryOp_ (thn (ha sJ s σ H _ I h) λv s1 ⟨x,H1,I1,r1,q1⟩=>ho sJ s1 σ H1 x v Q I1 r1 q1)
theorem opI{f:oQ->oQ->sx oQ}{C:Int->Int->Prop}{g:Int->Int->Int}
  (rule:∀(i j:Int) (t u:rD) (s:oR) (Q:oQ->oR->Prop) (E:oQ->oR->Prop),C i j->Q (.int (g i j) s.toks) { s with toks:=s.toks+1 }->oS (model X.prog X.w) X.A (f (.int i t) (.int j u)) Q E s) :
  OpR X f (rI C λi j=>.int (g i j)):=by
 intro sJ s σ H x y v u Q I rx ry h
 obtain⟨i,j,rfl,rfl,hc,q⟩:=h
 obtain⟨t,rfl⟩:=rx
 obtain⟨t',rfl⟩:=ry
 exact rule i j t t' s _ _ hc ⟨.int (g i j),H,I.tok _,⟨_,rfl⟩,q⟩
theorem zcU{f:oQ->oQ->sx oQ}{g:Int->Int->Int}
  (rule:∀(i j:Int) (t u:rD) (s:oR) (Q:oQ->oR->Prop) (E:oQ->oR->Prop),Q (.int (g i j) s.toks) { s with toks:=s.toks+1 }->oS (model X.prog X.w) X.A (f (.int i t) (.int j u)) Q E s) :
  OpR X f (rI0 λi j=>.int (g i j)):=by
 intro sJ s σ H x y v u Q I rx ry h
 obtain⟨i,j,rfl,rfl,q⟩:=h
 obtain⟨t,rfl⟩:=rx
 obtain⟨t',rfl⟩:=ry
 exact rule i j t t' s _ _ ⟨.int (g i j),H,I.tok _,⟨_,rfl⟩,q⟩
theorem zbw{f:oQ->oQ->sx oQ}{g:Int->Int->Bool}
  (rule:∀(i j:Int) (t u:rD) (s:oR) (Q:oQ->oR->Prop) (E:oQ->oR->Prop),Q (.bool (g i j)) s->oS (model X.prog X.w) X.A (f (.int i t) (.int j u)) Q E s) :
  OpR X f (rI0 λi j=>.bl (g i j)):=by
 intro sJ s σ H x y v u Q I rx ry h
 obtain⟨i,j,rfl,rfl,q⟩:=h
 obtain⟨t,rfl⟩:=rx
 obtain⟨t',rfl⟩:=ry
 exact rule i j t t' s _ _ ⟨.bl (g i j),H,I,rfl,q⟩
def zdk(i j:Int):Prop:=0<j/\j<1073741824
def zbE(i j:Int):Prop:=0<=j/\j<=1000000/\i.natAbs<2 ^ 64
def CMul(i j:Int):Prop:=(-(2 ^ 64)<i/\i<2 ^ 64)\/(-(2 ^ 64)<j/\j<2 ^ 64)
theorem CMul.ok{i j:Int}(h:CMul i j):IntMulOk i j:=by
 rcases h with ⟨h1,h2⟩ | ⟨h1,h2⟩
 ·exact .of_left (intBits_le_64 h1 h2)
 ·exact .of_right (intBits_le_64 h1 h2)
theorem op_add:OpR X (binaryOp .Add) (rI0 λi j=>.int (i+j)):=zcU λ_ _ _ _ _ _ _ q=>add_int q
theorem qx:OpR X (binaryOp .Sub) (rI0 λi j=>.int (i - j)):=zcU λ_ _ _ _ _ _ _ q=>sub_int q
theorem op_mul:OpR X (binaryOp .Mult) (rI CMul λi j=>.int (i * j)):=opI λ_ _ _ _ _ _ _ hc q=>mul_int q hc.ok
theorem yT:OpR X (binaryOp .FloorDiv) (rI zdk λi j=>.int (i / j)):=opI λi j _ _ _ _ _ hc q=>by
 have h1:(0:Int)<j:=hc.1
 have h2:j<1073741824:=hc.2
 exact floordiv_int (by lia) (by rw[Int.fdiv_eq_ediv_of_nonneg i (by lia)];exact q) (.inl (PyProof.noPylong_small (by lia)))
theorem yJ:OpR X (binaryOp .Mod) (rI (λ_ j=>0<j) λi j=>.int (i % j)):=opI λi j _ _ _ _ _ hc q=>by
 have h1:(0:Int)<j:=hc
 exact mod_int' (by lia) (by rw[Int.fmod_eq_emod_of_nonneg i (by lia)];exact q)
theorem VH:OpR X (binaryOp .Pow) (rI zbE λi j=>.int (i ^ j.toNat)):=opI λ_ _ _ _ _ _ _ hc q=>pow_int_small hc.1 hc.2.1 hc.2.2 q
theorem unI{f:oQ->sx oQ}{g:Int->Int}
  (rule:∀(i:Int) (t:rD) (s:oR) (Q:oQ->oR->Prop) (E:oQ->oR->Prop),Q (.int (g i) s.toks) { s with toks:=s.toks+1 }->oS (model X.prog X.w) X.A (f (.int i t)) Q E s) :
  UnR X f (rU λi=>.int (g i)):=by
 intro sJ s σ H x v Q I rx h
 obtain⟨i,rfl,q⟩:=h
 obtain⟨t,rfl⟩:=rx
 exact rule i t s _ _ ⟨.int (g i),H,I.tok _,⟨_,rfl⟩,q⟩
theorem zbj:UnR X (unaryOp .USub) (rU λi=>.int (-i)):=unI λ_ _ _ _ _ q=>neg_int q
end
noncomputable def K0:V->V->Bool
 | .non,.non=>sH | .non,.int _=>sH | .int _,.non=>sH | .non,.bl _=>sH | .bl _,.non=>sH | .non,.str _=>sH | .str _,.non=>sH
 | .int _,.int _=>sH | .bl _,.bl _=>sH | .str _,.str _=>sH | .byt _,.byt _=>sH
 | .int _,.str _=>sH | .str _,.int _=>sH | .bl _,.str _=>sH | .str _,.bl _=>sH
 | _,_=>sI
def rEq:R2:=λx y H Q=>K0 x y=sH/\Q (.bl (decide (x=y))) H
def rNe:R2:=λx y H Q=>K0 x y=sH/\Q (.bl (!decide (x=y))) H
theorem WI{i j:Int}:decide (V.int i=V.int j)=(i == j):=by
 rw[cZ]
 simp
theorem Jg{i j:Bool}:decide (V.bl i=V.bl j)=(i == j):=by
 rw[cZ]
 simp
theorem WF{i j:oW}:decide (V.str i=V.str j)=(i == j):=by
 rw[cZ]
 simp
theorem WK{i j:Array UInt8}:decide (V.byt i=V.byt j)=(i.toList == j.toList):=by
 rw[cZ]
 cases i
 cases j
 simp
section
variable{X:Cx}{a b c:oZ}{ta tb tc:TE}{pos:pS}
theorem zR{sJ:List (oP × pD)}{σ:St}{H:Hp}{s:oR}{Q:VK}{k k':Bool}(I:Inv X sJ σ H s)(q:Q (.bl k) H)(e:k=k'):EP X sJ σ Q (.bool k') s:=by
 subst e
 exact⟨.bl k,H,I,rfl,q⟩
theorem qG:OpR X (ph .Eq) rEq:=by
 intro sJ s σ H x y v u Q I rx ry h
 obtain⟨hs,q⟩:=h
 cases x with
 | non =>
  cases rx
  cases y with
  | non=>cases ry;exact PySem.EqNone.eq_none_none (zR I q (by simp))
  | bl j=>cases ry;exact PySem.EqNone.eq_none_bool (zR I q (by simp))
  | int j=>obtain⟨t',rfl⟩:=ry;exact PySem.EqNone.eq_none_int (zR I q (by simp))
  | str j=>obtain⟨t',rfl⟩:=ry;exact PySem.EqNone.eq_none_str (zR I q (by simp))
  | _=>exact absurd (show sI=sH from hs) aF
 | bl i =>
  cases rx
  cases y with
  | non=>cases ry;exact PySem.EqNone.eq_bool_none (zR I q (by simp))
  | bl j=>cases ry;exact eq_bool (zR I q Jg)
  | str j=>obtain⟨t',rfl⟩:=ry;exact PySem.EqMixed.eq_bool_str (zR I q (by simp))
  | _=>exact absurd (show sI=sH from hs) aF
 | int i =>
  obtain⟨t,rfl⟩:=rx
  cases y with
  | non=>cases ry;exact PySem.EqNone.eq_int_none (zR I q (by simp))
  | int j=>obtain⟨t',rfl⟩:=ry;exact eq_int (zR I q WI)
  | str j=>obtain⟨t',rfl⟩:=ry;exact PySem.EqMixed.eq_int_str (zR I q (by simp))
  | _=>exact absurd (show sI=sH from hs) aF
 | str i =>
  obtain⟨t,rfl⟩:=rx
  cases y with
  | non=>cases ry;exact PySem.EqNone.eq_str_none (zR I q (by simp))
  | bl j=>cases ry;exact PySem.EqMixed.eq_str_bool (zR I q (by simp))
  | int j=>obtain⟨t',rfl⟩:=ry;exact PySem.EqMixed.eq_str_int (zR I q (by simp))
  | str j=>obtain⟨t',rfl⟩:=ry;exact eq_str (zR I q WF)
  | _=>exact absurd (show sI=sH from hs) aF
 | byt i =>
  obtain⟨t,rfl⟩:=rx
  cases y with
  | byt j=>obtain⟨t',rfl⟩:=ry;exact PySem.W.eq_bytes (zR I q WK)
  | _=>exact absurd (show sI=sH from hs) aF
 | _=>cases y <;> exact absurd (show sI=sH from hs) aF
theorem X9:OpR X (ph .NotEq) rNe:=by
 intro sJ s σ H x y v u Q I rx ry h
 obtain⟨hs,q⟩:=h
 cases x with
 | non =>
  cases rx
  cases y with
  | non=>cases ry;exact PySem.EqNone.ne_none_none (zR I q (by simp))
  | bl j=>cases ry;exact PySem.EqNone.ne_none_bool (zR I q (by simp))
  | int j=>obtain⟨t',rfl⟩:=ry;exact PySem.EqNone.ne_none_int (zR I q (by simp))
  | str j=>obtain⟨t',rfl⟩:=ry;exact PySem.EqNone.ne_none_str (zR I q (by simp))
  | _=>exact absurd (show sI=sH from hs) aF
 | bl i =>
  cases rx
  cases y with
  | non=>cases ry;exact PySem.EqNone.ne_bool_none (zR I q (by simp))
  | bl j=>cases ry;exact ne_bool (zR I q (congrArg not Jg))
  | str j=>obtain⟨t',rfl⟩:=ry;exact PySem.EqMixed.ne_bool_str (zR I q (by simp))
  | _=>exact absurd (show sI=sH from hs) aF
 | int i =>
  obtain⟨t,rfl⟩:=rx
  cases y with
  | non=>cases ry;exact PySem.EqNone.ne_int_none (zR I q (by simp))
  | int j=>obtain⟨t',rfl⟩:=ry;exact ne_int (zR I q (congrArg not WI))
  | str j=>obtain⟨t',rfl⟩:=ry;exact PySem.EqMixed.ne_int_str (zR I q (by simp))
  | _=>exact absurd (show sI=sH from hs) aF
 | str i =>
  obtain⟨t,rfl⟩:=rx
  cases y with
  | non=>cases ry;exact PySem.EqNone.ne_str_none (zR I q (by simp))
  | bl j=>cases ry;exact PySem.EqMixed.ne_str_bool (zR I q (by simp))
  | int j=>obtain⟨t',rfl⟩:=ry;exact PySem.EqMixed.ne_str_int (zR I q (by simp))
  | str j=>obtain⟨t',rfl⟩:=ry;exact ne_str (zR I q (congrArg not WF))
  | _=>exact absurd (show sI=sH from hs) aF
 | byt i =>
  obtain⟨t,rfl⟩:=rx
  cases y with
  | byt j=>obtain⟨t',rfl⟩:=ry;exact PySem.W.ne_bytes (zR I q (congrArg not WK))
  | _=>exact absurd (show sI=sH from hs) aF
 | _=>cases y <;> exact absurd (show sI=sH from hs) aF
theorem UR:OpR X (ph .Lt) (rI0 λi j=>.bl (decide (i<j))):=zbw λ_ _ _ _ _ _ _ q=>lt_int q
theorem op_le:OpR X (ph .LtE) (rI0 λi j=>.bl (decide (i<=j))):=zbw λ_ _ _ _ _ _ _ q=>le_int q
theorem op_gt:OpR X (ph .Gt) (rI0 λi j=>.bl (decide (j<i))):=zbw λ_ _ _ _ _ _ _ q=>gt_int q
theorem zcj:OpR X (ph .GtE) (rI0 λi j=>.bl (decide (j<=i))):=zbw λ_ _ _ _ _ _ _ q=>ge_int q
theorem zae:OpR X (ph .Is) (λx y H Q=>y=.non/\Q (.bl (decide (x=.non))) H):=by
 intro sJ s σ H x y v u Q I rx ry h
 obtain⟨rfl,q⟩:=h
 cases ry
 refine is_none_gen (zR I q ?_)
 cases x <;> first
  | (cases rx;rfl)
  | (obtain⟨t,rfl⟩:=rx;rfl)
theorem JB:OpR X (ph .IsNot) (λx y H Q=>y=.non/\Q (.bl (!decide (x=.non))) H):=by
 intro sJ s σ H x y v u Q I rx ry h
 obtain⟨rfl,q⟩:=h
 cases ry
 refine isnot_none_gen (zR I q ?_)
 cases x <;> first
  | (cases rx;rfl)
  | (obtain⟨t,rfl⟩:=rx;rfl)
theorem OpR.or{f:oQ->oQ->sx oQ}{r r':R2}(h:OpR X f r)(h':OpR X f r'):OpR X f (λx y H Q=>r x y H Q\/r' x y H Q):=by
 intro sJ s σ H x y v u Q I rx ry q
 rcases q with q | q
 ·exact h sJ s σ H x y v u Q I rx ry q
 ·exact h' sJ s σ H x y v u Q I rx ry q
theorem zK(b:oZ){op:CmpOp}(h:op≠.In:=by decide)(h2:op≠.NotIn:=by decide):behindInMarks op b=sI:=by
 have e1:(op == CmpOp.In)=sI:=by cases op <;> first | rfl | exact absurd rfl h
 have e2:(op == CmpOp.NotIn)=sI:=by cases op <;> first | rfl | exact absurd rfl h2
 cases b <;> simp [behindInMarks,e1,e2]
theorem ug{op:CmpOp}{r:R2}(ho:OpR X (ph op) r)(ha:PE X a ta)(hb:PE X b tb)(hm:behindInMarks op b=sI):PE X (.Compare a [op] [b] pos) (tOp r ta tb):=by
 intro sJ s σ H Q I h
 exact wpAny_Compare1 (zb8 ha hb I h λv u s2 x y H2 I2 rx ry q=>ho sJ s2 σ H2 x y v u Q I2 rx ry q) hm
def KH(t:TE):TT:=λσ H Q=>t σ H λx H'=>∃k,x=.bl k/\Q k H'
theorem zI{op:CmpOp}{r:R2}(ho:OpR X (ph op) r)(ha:PE X a ta)(hb:PE X b tb)(hm:behindInMarks op b=sI):PT X (.Compare a [op] [b] pos) (KH (tOp r ta tb)):=by
 intro sJ s σ H Q I h
 refine wpAny_isTrue_Compare1 (thn (ha sJ s σ H _ I h) λv s1 ⟨x,H1,I1,r1,q1⟩=>thn (hb sJ s1 σ H1 _ I1 q1) λu s2 ⟨y,H2,I2,r2,q2⟩ =>
  thn (ho sJ s2 σ H2 x y v u _ I2 r1 r2 q2) λc s3 ⟨z,H3,I3,r3,k,e,q3⟩=>?_) hm
 subst e
 cases r3
 exact pB ⟨H3,I3,q3⟩
def VO(r r':R2)(ta tb tc:TE):TE:=λσ H Q=>ta σ H λx H1=>tb σ H1 λy H2=>r x y H2 λz H3=>∃k,z=.bl k /\
 (if k=sH then tc σ H3 λw' H4=>r' y w' H4 Q else Q (.bl sI) H3)
theorem QR{op op':CmpOp}{r r':R2}(ho:OpR X (ph op) r)(ho':OpR X (ph op') r')(ha:PE X a ta)(hb:PE X b tb)(hc:PE X c tc)
  (hm:lastMarks [op,op'] [b,c]=sI:=by with_unfolding_all rfl):PE X (.Compare a [op,op'] [b,c] pos) (VO r r' ta tb tc):=by
 intro sJ s σ H Q I h
 refine Compare_chain (thn (ha sJ s σ H _ I h) λv s1 ⟨x,H1,I1,r1,q1⟩=>chain_link (thn (hb sJ s1 σ H1 _ I1 q1) λu s2 ⟨y,H2,I2,r2,q2⟩ =>
  thn (ho sJ s2 σ H2 x y v u _ I2 r1 r2 q2) λd s3 ⟨z,H3,I3,r3,k,e,q3⟩=>?_)) hm
 subst e
 cases r3
 refine pB ?_
 cases k with
 | false=>exact ite_ff ⟨.bl sI,H3,I3,rfl,q3⟩
 | true=>exact ite_tt (chain_last (thn (hc sJ s3 σ H3 _ I3 q3) λw' s4 ⟨z',H4,I4,r4,q4⟩=>ho' sJ s4 σ H4 y z' u w' Q I4 r2 r4 q4))
theorem kY{op op':CmpOp}{r r':R2}(ho:OpR X (ph op) r)(ho':OpR X (ph op') r')(ha:PE X a ta)(hb:PE X b tb)(hc:PE X c tc)
  (hm:lastMarks [op,op'] [b,c]=sI:=by with_unfolding_all rfl):PT X (.Compare a [op,op'] [b,c] pos) (KH (VO r r' ta tb tc)):=by
 intro sJ s σ H Q I h
 refine isTrue_chain (thn (ha sJ s σ H _ I h) λv s1 ⟨x,H1,I1,r1,q1⟩=>test_link (thn (hb sJ s1 σ H1 _ I1 q1) λu s2 ⟨y,H2,I2,r2,q2⟩ =>
  thn (ho sJ s2 σ H2 x y v u _ I2 r1 r2 q2) λd s3 ⟨z,H3,I3,r3,k,e,q3⟩=>?_)) hm
 subst e
 cases r3
 refine pB ?_
 cases k with
 | false =>
  obtain⟨k',e',q'⟩:=q3
  cases e'
  exact ite_ff ⟨H3,I3,q'⟩
 | true =>
  refine ite_tt (test_last (thn (hc sJ s3 σ H3 _ I3 q3) λw' s4 ⟨z',H4,I4,r4,q4⟩=>thn (ho' sJ s4 σ H4 y z' u w' _ I4 r2 r4 q4) λd' s5 ⟨z2,H5,I5,r5,k2,e2,q5⟩=>?_))
  subst e2
  cases r5
  exact pB ⟨H5,I5,q5⟩
def K4(K:oO)(x:V)(H:Hp)(k:Bool):Prop :=
 match x with
 | .non=>k=sI
 | .bl b=>k=b
 | .int i=>k=(i != 0)
 | .str y=>y.length<=oN/\k=((y.length:Int) != 0)
 | .byt y=>y.size<=oN/\k=((y.size:Int) != 0)
 | .ref p=>(∃xs,SqL K H p xs/\k=!xs.isEmpty)\/(∃xs,SqT K H p xs/\k=!xs.isEmpty)\/∃kvs,H p=sF (.dK kvs)/\k=!kvs.isEmpty
 | _=>False
theorem XM{κ:Type}{kvs:List (κ × V)}{vs:List (κ × oQ)}(r:KV kvs vs):(!vs.isEmpty)=!kvs.isEmpty:=by
 cases r <;> rfl
theorem jD{xs:List V}{its:List oQ}(r:Vals xs its):(!its.toArray.isEmpty)=!xs.isEmpty:=by
 cases r <;> simp
theorem Zp:(oN:Nat)<2 ^ 63:=by rw[pA];decide
theorem QZ:zda X (λx H Q=>∃k,K4 X.K x H k/\Q k H):=by
 intro sJ s σ H x v Q I rx h
 obtain⟨k,e,q⟩:=h
 have hl:=Zp
 have hs:oN=16777216:=pA
 cases x with
 | non =>
  cases rx
  have e':k=sI:=e
  subst e'
  exact truthy_none ⟨H,I,q⟩
 | bl b =>
  cases rx
  have e':k=b:=e
  subst e'
  exact pB ⟨H,I,q⟩
 | int i =>
  obtain⟨t,rfl⟩:=rx
  have e':k=(i != 0):=e
  subst e'
  exact PySem.P.truthy_int ⟨H,I,q⟩
 | str y =>
  obtain⟨t,rfl⟩:=rx
  obtain⟨hy,e'⟩:y.length<=oN/\k=((y.length:Int) != 0):=e
  subst e'
  exact PySem.P.truthy_str (by lia) ⟨H,I.tok _,q⟩
 | byt y =>
  obtain⟨t,rfl⟩:=rx
  obtain⟨hy,e'⟩:y.size<=oN/\k=((y.size:Int) != 0):=e
  subst e'
  exact PySem.W.truthy_bytes (by lia) ⟨H,I.tok _,q⟩
 | ref p =>
  cases rx
  have e':(∃xs,SqL X.K H p xs/\k=!xs.isEmpty)\/(∃xs,SqT X.K H p xs/\k=!xs.isEmpty)\/∃kvs,H p=sF (.dK kvs)/\k=!kvs.isEmpty:=e
  rcases e' with ⟨xs,hx,e'⟩ | ⟨xs,hx,e'⟩ | ⟨kvs,hx,e'⟩
  ·subst e'
   obtain⟨its,r,pl,hz⟩:=I.list hx
   have hlen:=r.length
   exact wpAny_truthy_list pl.isList (by simp only[ao];lia) ⟨H,I.tok _,by rw[jD r];exact q⟩
  ·subst e'
   obtain⟨its,r,pl,hz⟩:=I.tuple hx
   have hlen:=r.length
   exact truthy_tuple pl (by simp only[ao];lia) ⟨H,I.tok _,by rw[jD r];exact q⟩
  ·subst e'
   obtain⟨hz,hS,vs,r,m⟩:kvs.length<=oN/\(p == sysModules)=sI/\∃vs,KV kvs vs/\s.heap.DictOf (Yo X.prog X.w) p vs:=I.hok p _ hx
   have hlen:kvs.length=vs.length:=Paired.length r
   exact wpAny_truthy_dict hS m (by lia) ⟨H,I.tok _,by rw[XM r];exact q⟩
 | _=>exact (show False from e).elim
theorem Xn(ha:PE X a ta)(he:∀whole,isTrue a X.env whole=(do let v <- whole;standAt a.pos;holding [v] (truthy v))) :
  PT X a (λσ H Q=>ta σ H λx H'=>∃k,K4 X.K x H' k/\Q k H'):=by
 intro sJ s σ H Q I h
 exact isTrue_plain (thn (ha sJ s σ H _ I h) λv s1 ⟨x,H1,I1,r1,q1⟩=>QZ sJ s1 σ H1 x v Q I1 r1 q1) (he _)
theorem op_add_str:OpR X (binaryOp .Add) (λx y H Q=>∃i j,x=.str i/\y=.str j/\i.length+j.length<=oN/\Q (.str (i ++ j)) H):=by
 intro sJ s σ H x y v u Q I rx ry h
 obtain⟨i,j,rfl,rfl,hz,q⟩:=h
 obtain⟨t,rfl⟩:=rx
 obtain⟨t',rfl⟩:=ry
 exact add_str (λt' tk=>⟨.str (i ++ j),H,I.tok _,⟨_,rfl⟩,q⟩) hz
theorem wP{x:V}{us:List oQ}(r:Vals [x] us):∃u,us=[u]/\RelV x u:=by
 cases r with
 | cons r1 r2=>cases r2;exact⟨_,rfl,r1⟩
theorem Uh{x y:V}{us:List oQ}(r:Vals [x,y] us):∃u w',us=[u,w']/\RelV x u/\RelV y w':=by
 cases r with
 | cons r1 r2 =>
  cases r2 with
  | cons r3 r4=>cases r4;exact⟨_,_,rfl,r1,r3⟩
theorem VT(hc:X.calm=sH):vP X (.builtin "max") (λxs H Q=>∃i j,xs=[.int i,.int j]/\Q (.int (if j > i then j else i)) H):=by
 intro sJ s σ H xs us Q I r h
 obtain⟨i,j,rfl,q⟩:=h
 obtain⟨u,w',rfl,⟨t,rfl⟩,⟨t',rfl⟩⟩:=Uh r
 refine max_two_ints (I.ok.hd hc) λh' tk k=>⟨_,H,I.kept k,?_,q⟩
 by_cases hj:j > i
 ·rw[if_pos hj,if_pos hj];exact⟨_,rfl⟩
 ·rw[if_neg hj,if_neg hj];exact⟨_,rfl⟩
theorem W9:vP X (.type "int") (λxs H Q=>(∃i,xs=[.int i]/\Q (.int i) H)\/∃k,xs=[.bl k]/\Q (.int (if k then 1 else 0)) H):=by
 intro sJ s σ H xs us Q I r h
 rcases h with ⟨i,rfl,q⟩ | ⟨k,rfl,q⟩
 ·obtain⟨u,rfl,t,rfl⟩:=wP r
  exact call_int_int ⟨.int i,H,I,⟨_,rfl⟩,q⟩
 ·obtain⟨u,rfl,r1⟩:=wP r
  cases r1
  exact call_int_bool ⟨.int (if k then 1 else 0),H,I.tok _,⟨_,rfl⟩,q⟩
def zcr(K:oO)(x:V)(H:Hp)(n:Nat):Prop :=
 match x with
 | .str y=>y.length<=oN/\n=y.length
 | .byt y=>y.size<=oN/\n=y.size
 | .ref p=>(∃xs,SqL K H p xs/\n=xs.length)\/∃xs,SqT K H p xs/\n=xs.length
 | _=>False
theorem Qe:vP X (.builtin "len") (λxs H Q=>∃x n,xs=[x]/\zcr X.K x H n/\Q (.int n) H):=by
 intro sJ s σ H xs us Q I r h
 obtain⟨x,n,rfl,e,q⟩:=h
 obtain⟨u,rfl,rx⟩:=wP r
 have hl:=Zp
 have hs:oN=16777216:=pA
 cases x with
 | str y =>
  obtain⟨t,rfl⟩:=rx
  obtain⟨hy,e'⟩:y.length<=oN/\n=y.length:=e
  subst e'
  exact len_str (by lia) ⟨.int _,H,I.tok _,⟨_,rfl⟩,q⟩
 | byt y =>
  obtain⟨t,rfl⟩:=rx
  obtain⟨hy,e'⟩:y.size<=oN/\n=y.size:=e
  subst e'
  exact PySem.W.len_bytes (by lia) ⟨.int _,H,I.tok _,⟨_,rfl⟩,q⟩
 | ref p =>
  cases rx
  have e':(∃xs,SqL X.K H p xs/\n=xs.length)\/∃xs,SqT X.K H p xs/\n=xs.length:=e
  rcases e' with ⟨xs,hx,e'⟩ | ⟨xs,hx,e'⟩
  ·subst e'
   obtain⟨its,r',pl,hz⟩:=I.list hx
   have hlen:=r'.length
   exact Calls.call_len_list pl.isList (by simp only[ao];lia) ⟨.int xs.length,H,I.tok _,⟨_,by simp only[ao];rw[hlen]⟩,q⟩
  ·subst e'
   obtain⟨its,r',pl,hz⟩:=I.tuple hx
   have hlen:=r'.length
   exact len_tuple pl (by simp only[ao];lia) ⟨.int xs.length,H,I.tok _,⟨_,by simp only[ao];rw[hlen]⟩,q⟩
 | _=>exact (show False from e).elim
end
end L2
namespace L2
structure ObjM(h:pb)(x dx C:oP)(mA:oW->Option oQ):Prop where
 obj:h.get? x=sF (bZ C dx)
 ns:h.Ns1 dx mA
 ne:dx≠x
theorem VC{h:pb}{dx:oP}{mA:oW->Option oQ}(n:h.Ns1 dx mA):∃od,h.get? dx=sF od/\∀name,dH name od=sF (mA name):=by
 obtain⟨o,es,ep,ho,hd,hk,_,hm⟩:=n
 refine⟨o,ho,λname=>?_⟩
 have e:=hm name
 unfold nsFind findBy at e
 rw[<- Array.find?_toList] at e
 unfold dH
 rw[hd]
 dsimp only
 split
 ·rename_i y q
  rw[q] at e
  exact congrArg sF e
 ·rename_i q
  rw[q] at e
  have a:es.toList.any (·.refKey)=sI:=by
   rw[List.any_eq_false]
   intro y hy
   obtain⟨z,t,hkey⟩:=hk y (Array.mem_toList_iff.mp hy)
   simp [DictEntry.refKey,hkey]
  have a':¬ es.toList.any (·.refKey)=sH:=by rw[a];exact aF
  rw[if_neg a']
  exact congrArg sF e
theorem ObjM.look{h:pb}{x dx C:oP}{mA:oW->Option oQ}(I:ObjM h x dx C mA):∃od,PySem.W.InstAt h x (bZ C dx) C (sF od)/\∀name,dH name od=sF (mA name) :=
 let ⟨od,ho,hl⟩:=VC I.ns
 ⟨od,⟨I.obj,rfl,rfl,ho⟩,hl⟩
section
variable{prog:oV}{w:oX}{A:oY}{E:oQ->oR->Prop}{s:oR}{K:oO}{x dx C f:oP}{mA:oW->Option oQ}{name:oW}{v:oQ}
theorem KO{expr:Bool}{Q:oQ->oR->Prop}(X:K.In s.heap)(I:ObjM s.heap x dx C mA)(hg:bT K C name=sH)(hh:bQ K C=sH)
  (ha:ah K (.ref C) name=sF sG) (hv:mA name=sF v) (hv':fm v=sH) (h:Q v { s with toks:=s.toks+1 }) :
  oS (model prog w) A (getAttr (.ref x) name expr) Q E s:=by
 obtain⟨od,J,hl⟩:=I.look
 exact PySem.W.get_value X J (dD hg).1 (PySem.W.findObj_own hh ha rfl (by rw[hl,hv])) hv' h
theorem UL{pl:sx Bool}{Q:oQ × List oQ->oR->Prop}(X:K.In s.heap)(I:ObjM s.heap x dx C mA)(hg:bT K C name=sH)
  (hf:ah K (.ref C) name=sF (sF (.ref f))) (ht:bg K (.ref f)=sH) (hv:mA name=sG) (h:Q (.ref f,[.ref x]) s) :
  oS (model prog w) A (getMethod (.ref x) name pl) Q E s:=by
 obtain⟨od,J,hl⟩:=I.look
 exact PySem.W.method_fn X J (dD hg).1 (dD hg).2 hf (beq_iff_eq.mp ht) (by show (dH name od).map (·.isSome)=sF sI;rw[hl,hv];rfl) h
theorem J6{ns:List oW}{Q:Unit->oR->Prop}(X:K.In s.heap)(I:ObjM s.heap x dx C mA)
  (hs:ah K (.ref C) "__setattr__" = sF (sF (.builtin "object.__setattr__"))) (hp:cz K C=sH) (ht:eE K C name=sF sG) (hh:bQ K C=sH)
  (hw:PySem.Within mA ns) (hsz:ns.length<=oN)
  (h:∀h',ObjM h' x dx C (λy=>if y=name then sF v else mA y)->Heap.SameBut dx s.heap h'->Q () { s with heap:=h',toks:=s.toks+2 }) :
  oS (model prog w) A (setAttr (.ref x) name v) Q E s:=by
 obtain⟨od,J,hl⟩:=I.look
 refine fh X J hs (PySem.W.osa_open (s:={ s with toks:=s.toks+1 }) (r:=sG) X J hp ht λb=>?_)
 obtain⟨cd,hc,hd'⟩:=PySem.W.any_some hh
 have hx:s.heap.get? x=sF ⟨.ref C,sF dx,.plain,#[]⟩:=I.obj
 refine oH (oJ (oH (oH (rO hx (oH (PySem.W.Looks.here (s:={ s with toks:=s.toks+1 }) (PySem.W.looks_clsIn X hc) ?_))))))
 rw[hd']
 refine oJ (a:=sF dx) (oH (oJ (oH ?_)))
 refine wpAny_nsSet1 (s:={ s with toks:=s.toks+1 }) I.ns λh' hn2 hs2=>?_
 obtain⟨oD,esD,epD,hoD,hdD,hcD⟩:=hn2.count (PySem.Within.cons name v hw)
 refine oH (su hoD (by rw[hdD];exact pastItsLine_dict (aO hcD (by rw[aM];lia))) ?_)
 exact oJ (h _ ⟨(hs2.2 _ (Ne.symm I.ne)).trans I.obj,hn2,I.ne⟩ hs2)
theorem U8{R:rR->oR->Prop}{vs:List oQ}{kw:List (oW × oQ)}(X:K.In s.heap)(hm:cK K C=sH)
  (hi:ah K (.ref C) "__init__" = sF (sF (.ref f))) (hf:PySem.W.typeIn K (.ref f)=sF (.type "function"))
  (h:pO (model prog w) (A.under (.builtin "type.__call__" ⟨.ref C::vs,kw⟩)) (.call (.ref f) ⟨.ref (s.heap.objs.size+1)::vs,kw⟩) (PySem.W.InitBack (s.heap.objs.size+1) R)
   { s with heap:=(s.heap.push bJ).push (bZ C s.heap.objs.size) }) :
  pO (model prog w) A (.call (.ref C) ⟨vs,kw⟩) R s:=by
 obtain⟨hh,g,d,t,os⟩:=s
 exact PySem.W.make_core (PySem.W.makes_of X hm) (cB X hi) (λself=>fq X self hf) (.inl rfl) h
end
noncomputable def Zz(f:oW)(v:V):List (oW × V)->List (oW × V)
  | []=>[(f,v)]
  | (g,x)::r=>if g=f then (g,v)::r else (g,x)::Zz f v r
theorem qL(f g:oW)(v:V):∀fs:List (oW × V),(Zz f v fs).lookup g=if g=f then sF v else fs.lookup g
  | []=>by
    show bq g [(f,v)]=_
    by_cases h:g=f
    . have hb:(g == f)=sH:=beq_iff_eq.mpr h
      simp only[bq,hb,if_pos h]
    . have hb:(g == f)=sI:=beq_eq_false_iff_ne.mpr h
      simp only[bq,hb,if_neg h]
  | (k,x)::r=>by
    have ih:=qL f g v r
    rw[show Zz f v ((k,x)::r)=(if k=f then (k,v)::r else (k,x)::Zz f v r) from rfl]
    by_cases hk:k=f
    . rw[if_pos hk]
      by_cases h:g=k
      . have hb:(g == k)=sH:=beq_iff_eq.mpr h
        simp only[bq,hb,if_pos (h.trans hk)]
      . have hb:(g == k)=sI:=beq_eq_false_iff_ne.mpr h
        simp only[bq,hb,if_neg (λe:g=f=>h (e.trans hk.symm))]
    . rw[if_neg hk]
      by_cases h:g=k
      . have hb:(g == k)=sH:=beq_iff_eq.mpr h
        simp only[bq,hb,if_neg (λe:g=f=>hk (h.symm.trans e))]
      . have hb:(g == k)=sI:=beq_eq_false_iff_ne.mpr h
        simp only[bq,hb]
        exact ih
theorem ql(f:oW)(v:V):∀fs:List (oW × V),f ∈ (Zz f v fs).map (·.1)/\∀g,g ∈ fs.map (·.1)->g ∈ (Zz f v fs).map (·.1)
  | []=>⟨by simp [Zz],λg h=>by simp at h⟩
  | (k,x)::r=>by
    obtain⟨i1,i2⟩:=ql f v r
    rw[show Zz f v ((k,x)::r)=(if k=f then (k,v)::r else (k,x)::Zz f v r) from rfl]
    by_cases hk:k=f
    . rw[if_pos hk]
      subst hk
      exact⟨by simp,λg h=>by simpa using h⟩
    . rw[if_neg hk]
      refine⟨?_,λg h=>?_⟩
      . rw[aC]
        exact aw _ i1
      . rw[aC] at h ⊢
        rcases List.mem_cons.mp h with e | e
        . exact List.mem_cons.mpr (.inl e)
        . exact aw _ (i2 g e)
theorem qA(f:oW)(v:V):∀fs:List (oW × V),(Zz f v fs).length<=fs.length+1
  | []=>by simp [Zz]
  | (k,x)::r=>by
    have ih:=qA f v r
    rw[show Zz f v ((k,x)::r)=(if k=f then (k,v)::r else (k,x)::Zz f v r) from rfl]
    by_cases hk:k=f
    . rw[if_pos hk,aM,aM];lia
    . rw[if_neg hk,aM,aM];lia
theorem RelO.some_of{v:V}{o:Option oQ}(r:RelO (sF v) o):∃u,o=sF u/\RelV v u:=by
 cases o with
 | none=>exact (show False from r).elim
 | some u=>exact⟨u,rfl,r⟩
theorem RelO.none_of{o:Option oQ}(r:RelO sG o):o=sG:=by
 cases o with
 | none=>rfl
 | some u=>exact (show False from r).elim
theorem WJ{v:V}{u:oQ}(r:RelV v u):fm u=sH:=by
 cases v with
 | non=>cases (show u=Value.none from r);rfl
 | bl b=>cases (show u=Value.bool b from r);rfl
 | int i=>obtain⟨t,e⟩:=(show ∃t,u=Value.int i t from r);cases e;rfl
 | str x=>obtain⟨t,e⟩:=(show ∃t,u=Value.str x t from r);cases e;rfl
 | byt b=>obtain⟨t,e⟩:=(show ∃t,u=Value.bytes b t from r);cases e;rfl
 | flt b=>obtain⟨t,e⟩:=(show ∃t,u=Value.float b t from r);cases e;rfl
 | ref a=>cases (show u=Value.ref a from r);rfl
 | ty n=>cases (show u=Value.type n from r);rfl
section
variable{P:oV}{w:oX}{H H':Hp}{h h':pb}{a C dx:oP}{fs fs':List (oW × V)}
theorem kh(hok:HOk P w H h)(e:H a=sF (.ins C dx fs)):∃mA,ObjM h a dx C mA/\(∀f,RelO (fs.lookup f) (mA f))/\PySem.Within mA (fs.map (·.1))/\fs.length<=1000/\H dx=sF (.own a):=by
 obtain⟨d,z,ne,ob,mA,n,r,q⟩:=(show ObjOk P w H h a (.ins C dx fs) from hok a _ e)
 exact⟨mA,⟨ob,n,ne⟩,r,q,z,d⟩
end
structure Cls(K:oO)(C:oP):Prop where
 pg:bT K C eF=sH
 hd:bQ K C=sH
 po:cz K C=sH
 sa:ah K (.ref C) "__setattr__" = sF (sF (.builtin "object.__setattr__"))
theorem Cls.get{K:oO}{C:oP}(c:Cls K C)(f:oW):bT K C f=sH:=c.pg
def NoAttr(K:oO)(C:oP)(f:oW):Prop:=ah K (.ref C) f=sF sG
theorem NoAttr.taker{K:oO}{C:oP}{f:oW}(n:NoAttr K C f):eE K C f=sF sG:=by
 unfold eE
 rw[show ah K (.ref C) f=sF sG from n]
 rfl
structure za1(K:oO)(C:oP)(m:oW)(f:oP):Prop where
 at_:ah K (.ref C) m=sF (sF (.ref f))
 fn:bg K (.ref f)=sH
 kp:aj K (.ref f)=sH
section
variable{X:Cx}{sJ:List (oP × pD)}{σ:St}{H:Hp}{s:oR}{a C dx:oP}{fs:List (oW × V)}{f:oW}{v:V}{A:oY}{E:oQ->oR->Prop}
theorem XV{b:Bool}{Q:oQ->oR->Prop}(I:Inv X sJ σ H s)(e:H a=sF (.ins C dx fs))(c:Cls X.K C)(n:NoAttr X.K C f)(l:fs.lookup f=sF v)
  (h:∀u s',Inv X sJ σ H s'->RelV v u->Q u s'):oS (model X.prog X.w) A (getAttr (.ref a) f b) Q E s:=by
 obtain⟨mA,O,r,_,_,_⟩:=kh I.hok e
 obtain⟨u,hu,ru⟩:=RelO.some_of (v:=v) (o:=mA f) (by rw[<- l];exact r f)
 exact KO I.kIn O (c.get f) c.hd n hu (WJ ru) (h u _ (I.tok _) ru)
theorem wm{m:oW}{g:oP}{pl:sx Bool}{Q:oQ × List oQ->oR->Prop}(I:Inv X sJ σ H s)(e:H a=sF (.ins C dx fs))(c:Cls X.K C)(k:za1 X.K C m g)(l:fs.lookup m=sG)
  (h:Q (.ref g,[.ref a]) s):oS (model X.prog X.w) A (getMethod (.ref a) m pl) Q E s:=by
 obtain⟨mA,O,r,_,_,_⟩:=kh I.hok e
 have hn:mA m=sG:=RelO.none_of (by rw[<- l];exact r m)
 exact UL I.kIn O (c.get m) k.at_ k.fn hn h
theorem X8{y:V}{u:oQ}{Q:Unit->oR->Prop}(I:Inv X sJ σ H s)(e:H a=sF (.ins C dx fs))(c:Cls X.K C)(n:NoAttr X.K C f)(hl:fs.length<1000)(ry:RelV y u)
  (h:∀s',Inv X sJ σ (upd H a (.ins C dx (Zz f y fs))) s'->Q () s'):oS (model X.prog X.w) A (setAttr (.ref a) f u) Q E s:=by
 obtain⟨mA,O,r,wi,_,ho⟩:=kh I.hok e
 have hz:(fs.map (·.1)).length<=oN:=by rw[ae,pA];lia
 refine J6 I.kIn O c.sa c.po n.taker c.hd wi hz λh' O' sb=>h _ ?_
 have hd:∃o,h'.get? dx=sF o:=let ⟨o,_,_,e',_⟩:=O'.ns; ⟨o,e'⟩
 refine I.write (x:=a) (e:=dx) (by rw[e];exact True.intro) (.inr ho) (λb q hb z=>(sb.2 b hb).trans z) hd ?_
 refine⟨by rw[zo O.ne];exact ho,?_,O.ne,O'.obj,_,O'.ns,λg=>?_,λg hg=>?_⟩
 ·have:=qA f y fs;lia
 ·show RelO ((Zz f y fs).lookup g) (if g=f then sF u else mA g)
  rw[qL]
  by_cases q:g=f
  ·rw[if_pos q,if_pos q];exact ry
  ·rw[if_neg q,if_neg q];exact r g
 ·by_cases q:g=f
  ·rw[q];exact (ql f y fs).1
  ·refine (ql f y fs).2 g (wi g λz=>hg ?_)
   show (if g=f then sF u else mA g)=sG
   rw[if_neg q];exact z
theorem Inv.made(I:Inv X sJ σ H s):Inv X sJ σ (upd (upd H s.heap.objs.size (.own (s.heap.objs.size+1))) (s.heap.objs.size+1) (.ins C s.heap.objs.size []))
  { s with heap:=(s.heap.push bJ).push (bZ C s.heap.objs.size) }:=by
 have e1:(s.heap.push bJ).get? s.heap.objs.size=sF bJ:=aI s.heap rfl
 have e2:((s.heap.push bJ).push (bZ C s.heap.objs.size)).get? (s.heap.objs.size+1)=sF (bZ C s.heap.objs.size):=by
  have:=aI (s.heap.push bJ) (o:=bZ C s.heap.objs.size) rfl
  rwa [bH] at this
 have e3:(s.heap.push bJ).Ns s.heap.objs.size (λ_=>sG):=⟨bJ,#[],_,e1,rfl,(λe he=>absurd he (by simp)),λ_=>rfl⟩
 have I1:=I.laid (a:=s.heap.objs.size) (o:=.own (s.heap.objs.size+1)) (h':=s.heap.push bJ) (t':=s.toks) (λb u q=>aa _ q) (au _) ⟨_,e1⟩
 refine I1.laid (a:=s.heap.objs.size+1) (o:=.ins C s.heap.objs.size []) (t':=s.toks) (λb u q=>aa _ q) (Nat.le_of_eq (bH _ _)) ?_
 have ne:s.heap.objs.size≠s.heap.objs.size+1:=aE (d4 _)
 refine⟨by rw[zo ne,zf],aJ _,ne,e2,λ_=>sG,(Heap.Ns1.of_empty e3).at λo q=>aa _ q,λ_=>True.intro,λy hy=>absurd rfl hy⟩
theorem KM{prog:oV}{w:oX}{env:rL}{e:oZ}{f:oW}{pos:pS}{s:oR}{Q:oQ->oR->Prop}(hb:attributeBase e f env (eval e env)=eval e env)
  (h:oS (model prog w) A (eval e env) (λo s₁=>oS (model prog w) A (getAttr o f sH) Q E s₁) E s):oS (model prog w) A (eval (.Attribute e f pos) env) Q E s :=
 Attribute_any_ h (by rw[arm_eval_Attribute,hb])
end
def zad(K:oO)(ta:TE)(f:oW):TE:=λσ H Q=>ta σ H λx H1=>∃a C dx fs v,x=.ref a/\H1 a=sF (.ins C dx fs)/\Cls K C/\NoAttr K C f/\fs.lookup f=sF v/\Q v H1
def zcJ(K:oO)(ta tv:TE)(f:oW):TS:=λD σ H=>tv σ H λy H1=>ta σ H1 λx H2=>∃a C dx fs,x=.ref a/\H2 a=sF (.ins C dx fs)/\Cls K C/\NoAttr K C f/\fs.length<1000 /\
 D.nx σ (upd H2 a (.ins C dx (Zz f y fs)))
section
variable{X:Cx}{o e value:oZ}{f:oW}{pos pos' tpos:pS}{ta tv:TE}
theorem Y2(he:PE X e ta)(hb:attributeBase e f X.env (eval e X.env)=eval e X.env):PE X (.Attribute e f pos) (zad X.K ta f):=by
 intro sJ s σ H Q I h
 refine KM hb (thn (he sJ s σ H _ I h) λu s1 ⟨x,H1,I1,rx,a,C,dx,fs,v,ex,ea,c,n,l,q⟩=>?_)
 subst ex
 obtain rfl:u=Value.ref a:=rx
 exact XV I1 ea c n l λu' s2 I2 ru=>⟨v,H1,I2,ru,q⟩
theorem Xf(ha:PE X o ta)(hv:PE X value tv)(hs:swapsWith value (sF (.Attribute o f pos')) pos.line X.env=pure sI):PS X (.Assign [.Attribute o f pos'] value pos) (zcJ X.K ta tv f):=by
 intro sJ s σ H D I h
 refine rf (thn (hv sJ s σ H _ I h) λu s1 ⟨y,H1,I1,ry,q⟩=>thn (ha sJ s1 σ H1 _ I1 q) λov s2 ⟨x,H2,I2,rx,a,C,dx,fs,ex,ea,c,n,l,q2⟩=>?_) hs
 subst ex
 obtain rfl:ov=Value.ref a:=rx
 exact X8 I2 ea c n l ry λs3 I3=>⟨σ,_,I3,q2⟩
theorem Kf{pl:sx Bool}{m:oW}{apos:pS}{args:List oZ}{sJ:List (oP × pD)}{s:oR}{σ:St}{H:Hp}{Q:oQ->oR->Prop}{te:TE}(he:PE X e te)(I:Inv X sJ σ H s)
    (h:te σ H λx H1=>∃a C dx fs g,x=.ref a/\H1 a=sF (.ins C dx fs)/\Cls X.K C/\za1 X.K C m g/\fs.lookup m=sG /\
      ∀s1,Inv X sJ σ H1 s1->oS (model X.prog X.w) X.A (callWith pos (.ref g) [.ref a] (pj pos (oM args X.env)) (pG pos (pf [] X.env))) Q X.xe s1)
    (ht:eval (.Call (.Attribute e m apos) args [] pos) X.env=(do
      let ov <- eval e X.env
      standAt apos.atName
      let (f,first) <- holding [ov] (getMethod ov m pl)
      callWith pos f first (pj pos (oM args X.env)) (pG pos (pf [] X.env)))) :
    oS (model X.prog X.w) X.A (eval (.Call (.Attribute e m apos) args [] pos) X.env) Q X.xe s:=by
  refine bV (pl:=pl) (thn (he sJ s σ H _ I h) λu s1 ⟨x,H1,I1,rx,a,C,dx,fs,g,ex,ea,c,k,l,q⟩=>?_) ht
  subst ex
  obtain rfl:u=Value.ref a:=rx
  exact wm I1 ea c k l (q s1 I1)
end
section
variable{X:Cx}{sJ:List (oP × pD)}{σ:St}{H:Hp}{s:oR}{A:oY}{E:oQ->oR->Prop}{Q:oQ->oR->Prop}{c:oQ}{b:Bool}
inductive Y5(K:oO)(H:Hp):V->oQ->Prop where
 | non:Y5 K H .non (.type "NoneType")
 | bl (x:Bool):Y5 K H (.bl x) (.type "bool")
 | int (i:Int):Y5 K H (.int i) (.type "int")
 | str (x:oW):Y5 K H (.str x) (.type "str")
 | flt (x:UInt64):Y5 K H (.flt x) (.type "float")
 | lst {a:oP} {xs:List V} (e:H a=sF (.lst xs)):Y5 K H (.ref a) (.type "list")
 | frz {a:oP} {o:pD} {xs:List V} (e:H a=sF (.frz o (.lst xs))):Y5 K H (.ref a) (.type "list")
 | tup {a:oP} {xs:List V} (e:H a=sF (.tup xs)):Y5 K H (.ref a) (.type "tuple")
 | dK {a:oP} {kvs:List (Key × V)} (e:H a=sF (.dK kvs)):Y5 K H (.ref a) (.type "dict")
 | dT {a:oP} {kvs:List (List Key × V)} (e:H a=sF (.dT kvs)):Y5 K H (.ref a) (.type "dict")
 | ins {a C dx:oP} {fs:List (oW × V)} (e:H a=sF (.ins C dx fs)) (cl:Cls K C) (ha:ah K (.ref C) "__class__" = sF (sF (.builtin "object.__class__")))
   (hn:cA K (.builtin "object.__class__") "__get__" = sF (sF (.builtin "getset_descriptor.__get__"))) (htk:du K (.builtin "object.__class__")=sF sH)
   (hm:bP K C (.type "object")=sF sH):Y5 K H (.ref a) (.ref C)
theorem Vk{x:V}{u t:oQ}(I:Inv X sJ σ H s)(rx:RelV x u)(ty:Y5 X.K H x t)(e:aT X.K t c=sF b)(h:∀tk,Q (.bool b) { s with toks:=tk }) :
  oS (model X.prog X.w) A (call (.builtin "isinstance") [u,c]) Q E s:=by
 cases ty with
 | non=>cases (show u=Value.none from rx);exact bn PySem.W.kitx_none I.kIn True.intro e (λz=>nomatch z) h
 | bl y=>cases (show u=Value.bool y from rx);exact bn PySem.W.kitx_bool I.kIn True.intro e (λz=>nomatch z) h
 | int i=>obtain⟨t,q⟩:=(show ∃t,u=Value.int i t from rx);cases q;exact bn PySem.W.kitx_int I.kIn True.intro e (λz=>nomatch z) h
 | str y=>obtain⟨t,q⟩:=(show ∃t,u=Value.str y t from rx);cases q;exact bn PySem.W.kitx_str I.kIn True.intro e (λz=>nomatch z) h
 | flt y=>obtain⟨t,q⟩:=(show ∃t,u=Value.float y t from rx);cases q;exact bn PySem.W.kitx_float I.kIn True.intro e (λz=>nomatch z) h
 | @lst a xs ea =>
  cases (show u=Value.ref a from rx)
  obtain⟨_,_,n,_,h1⟩:=(show ObjOk X.prog X.w H s.heap a (.lst xs) from I.hok a _ ea)
  exact bn dP I.kIn ⟨_,h1,rfl⟩ e (λz=>nomatch z) h
 | @frz a ob xs ea =>
  cases (show u=Value.ref a from rx)
  obtain⟨_,_,_,n,_,h1⟩:=(show ObjOk X.prog X.w H s.heap a (.frz ob (.lst xs)) from I.hok a _ ea)
  exact bn dP I.kIn ⟨_,h1,rfl⟩ e (λz=>nomatch z) h
 | @tup a xs ea =>
  cases (show u=Value.ref a from rx)
  obtain⟨_,_,_,p⟩:=(show ObjOk X.prog X.w H s.heap a (.tup xs) from I.hok a _ ea)
  obtain⟨o,h1,h2,_⟩:=p
  exact bn eZ I.kIn ⟨o,h1,h2⟩ e (λz=>nomatch z) h
 | @dK a kvs ea =>
  cases (show u=Value.ref a from rx)
  obtain⟨_,_,vs,_,p⟩:=(show ObjOk X.prog X.w H s.heap a (.dK kvs) from I.hok a _ ea)
  obtain⟨o,es,ep,h1,h2,_⟩:=p
  exact bn fj I.kIn ⟨o,h1,h2.1⟩ e (λz=>nomatch z) h
 | @dT a kvs ea =>
  cases (show u=Value.ref a from rx)
  obtain⟨_,_,xs,_,o,es,ep,h1,h2,_⟩:=(show ObjOk X.prog X.w H s.heap a (.dT kvs) from I.hok a _ ea)
  exact bn fj I.kIn ⟨o,h1,h2.1⟩ e (λz=>nomatch z) h
 | @ins a C dx fs ea cl ha hn htk hm =>
  cases (show u=Value.ref a from rx)
  obtain⟨mA,O,_⟩:=kh I.hok ea
  obtain⟨od,J,_⟩:=O.look
  exact bn (PySem.W.kitx_own (cl.get _) cl.hd ha hn htk hm) I.kIn J e (λz=>nomatch z) h
end
end L2
namespace L2
structure Room(k:Nat)(A:oY):Prop where
 hd:A.handled=sG
 dp:A.depth+3 * k+5<rP
 un:A.units+16 * k+200<cLine
theorem Room.mono{j k:Nat}{A:oY}(r:Room k A)(h:j<=k):Room j A:=⟨r.hd,by have:=r.dp;lia,by have:=r.un;lia⟩
theorem Room.deeper{k:Nat}{A:oY}(r:Room (k+1) A)(env:rL):Room k (A.deeper env) :=
 ⟨r.hd,by have:=r.dp;show A.depth+1+3 * k+5<_;lia,by have:=r.un;show A.units+3+16 * k+200<_;lia⟩
theorem Room.in1{k:Nat}{A:oY}(r:Room (k+1) A):Room k A.in1 :=
 ⟨r.hd,by have:=r.dp;show A.depth+3 * k+5<_;lia,by have:=r.un;show A.units+1+16 * k+200<_;lia⟩
theorem XX{A:oY}{C:oP}{us:List oQ}{kw:List (oW × oQ)}:(A.under (.builtin "type.__call__" ⟨.ref C::us,kw⟩)).depth=A.depth+1:=by
 first | rfl | simp [Around.under,Code.weight,Code.isCreation,Code.isGuard,Code.isCaller,Code.frames,Code.isFrame,guardIds]
theorem Wp{A:oY}{C:oP}{us:List oQ}{kw:List (oW × oQ)}:(A.under (.builtin "type.__call__" ⟨.ref C::us,kw⟩)).units=A.units+1:=by
 first | rfl | simp [Around.under,Code.cUnits,Code.frames,Code.isFrame]
theorem Room.make{k:Nat}{A:oY}(r:Room (k+1) A)(C:oP)(us:List oQ)(kw:List (oW × oQ)):Room k (A.under (.builtin "type.__call__" ⟨.ref C::us,kw⟩)) :=
 ⟨r.hd,by have:=r.dp;rw[XX];lia,by have:=r.un;rw[Wp];lia⟩
theorem Room.depth{k:Nat}{A:oY}(r:Room k A):A.depth<rP:=by have:=r.dp;lia
theorem Room.units{k:Nat}{A:oY}(r:Room k A):A.units+64<cLine:=by have:=r.un;lia
def vd:TA:=λ_ H Q=>Q [] H
def zP(ta:TE)(tr:TA):TA:=λσ H Q=>ta σ H λx H1=>tr σ H1 λxs H2=>Q (x::xs) H2
section
variable{X:Cx}{e:oZ}{es:List oZ}{te:TE}{t:TA}{pos:pS}
theorem ze:PA X [] vd:=λ_ _ _ _ H Q I h=>Calls.spliced_nil ⟨[],H,I,.nil,h⟩
theorem za(ha:PE X e te)(hr:PA X es t)(hs:oM (e::es) X.env=(sI,eval e X.env)::oM es X.env:=by rfl):PA X (e::es) (zP te t):=by
 intro pos sJ s σ H Q I h
 rw[hs]
 show oS _ _ (spliced ((sI,eval e X.env)::pj pos (oM es X.env))) _ _ s
 refine Calls.spliced_cons (thn (ha sJ s σ H _ I h) λu s1 ⟨x,H1,I1,r1,q1⟩=>?_)
 exact thn (hr pos sJ s1 σ H1 _ I1 q1) λus s2 ⟨xs,H2,I2,r2,q2⟩=>⟨x::xs,H2,I2,.cons r1 r2,q2⟩
def UA(t:TA):TE:=λσ H Q=>t σ H λxs H1=>xs.length<=oN/\∀p,H1 p=sG->Q (.ref p) (upd H1 p (.tup xs))
def zb3(t:TA):TE:=λσ H Q=>t σ H λxs H1=>xs.length<=oN/\∀p,H1 p=sG->Q (.ref p) (upd H1 p (.lst xs))
theorem ya{x1}(h:PA X es t):PE X (.Tuple es x1 pos) (UA t):=by
 intro sJ s σ H Q I hq
 refine wpAny_Tuple_spliced (thn (h pos sJ s σ H _ I hq) λus s1 ⟨xs,H1,I1,r,z,q⟩=>⟨by rw[<- r.length];exact z,?_⟩)
 have hf:H1 s1.heap.objs.size=sG:=I1.hok.fresh (au _)
 refine⟨.ref s1.heap.objs.size,upd H1 s1.heap.objs.size (.tup xs),I1.laid (t':=s1.toks) (λb u e=>aa _ e) (au _) ?_,rfl,q _ hf⟩
 exact⟨z,us,r,⟨_,aI _ rfl,rfl,_,rfl⟩⟩
theorem xU(h:PA X es t):PE X (.List es pos) (zb3 t):=by
 intro sJ s σ H Q I hq
 refine wpAny_List_spliced (thn (h pos sJ s σ H _ I hq) λus s1 ⟨xs,H1,I1,r,z,q⟩=>⟨by rw[<- r.length];exact z,?_⟩)
 have hf:H1 s1.heap.objs.size=sG:=I1.hok.fresh (au _)
 refine⟨.ref s1.heap.objs.size,upd H1 s1.heap.objs.size (.lst xs),I1.laid (t':=s1.toks) (λb u e=>aa _ e) (au _) ?_,rfl,q _ hf⟩
 exact⟨z,us,0,r,aI _ rfl⟩
end
noncomputable abbrev Sp:=List V->Hp->VK->XK->Prop
noncomputable abbrev CXT:=List rL->Hp->oR->XK->oQ->oR->Prop
structure Env0(P:oV)(w:oX)(K:oO)(mg:oW->Option oQ)(base:pb)(A:oY)(outer:List rL)(s:oR)(H:Hp):Prop where
 frames:A.frames=sF outer
 mod:Mod K mg base
 bs:∀b o,base.get? b=sF o->s.heap.get? b=sF o/\H b=sG
 bsz:base.objs.size<=s.heap.objs.size
 funs:s.heap.FunFrames base outer
 frf:∀b ∈ frs outer,H b=sG
 hok:HOk P w H s.heap
 bare:rp s.gens
def CE(outer:List rL)(P:oV)(w:oX)(H:Hp)(s:oR)(Q:VK)(u:oQ)(s':oR):Prop :=
 ∃v H',s'.os=s.os/\rp s'.gens/\Un (frs outer) [] H H' s.heap s'.heap/\HOk P w H' s'.heap/\RelV v u/\Q v H'
def CR(CX:CXT)(outer:List rL)(P:oV)(w:oX)(H:Hp)(s:oR)(Q:VK)(E:XK)(r:rR)(s':oR):Prop :=
 match r with
 | .ok (.ret u)=>CE outer P w H s Q u s'
 | .ok _=>False
 | .error e=>CX outer H s E e s'
structure FnOk(P:oV)(w:oX)(K:oO)(mg:oW->Option oQ)(base:pb)(CX:CXT)(k:Nat)(f:oP)(fd:oU)(ps:List oW)(sp:Sp):Prop where
 len:∀vs H Q E,sp vs H Q E->vs.length=ps.length
 run:∀(A:oY) (outer:List rL) (s:oR) (H:Hp) (args:Args) (us:List oQ) (vs:List V) (Q:VK) (E:XK),Room k A->Env0 P w K mg base A outer s H->rS s fd args (ps.zip us)->Vals vs us->sp vs H Q E ->
  pO (model P w) A (.call (.ref f) args) (CR CX outer P w H s Q E) s
theorem FnOk.imp{P:oV}{w:oX}{K:oO}{mg:oW->Option oQ}{base:pb}{CX:CXT}{k:Nat}{f:oP}{fd:oU}{ps:List oW}{sp sp':Sp}(F:FnOk P w K mg base CX k f fd ps sp)
  (h:∀vs H Q E,sp' vs H Q E->sp vs H Q E):FnOk P w K mg base CX k f fd ps sp' :=
 ⟨λvs H Q E q=>F.len vs H Q E (h _ _ _ _ q),λA outer s H args us vs Q E hr he hb hv hs=>F.run A outer s H args us vs Q E hr he hb hv (h _ _ _ _ hs)⟩
theorem Env0.make{P:oV}{w:oX}{K:oO}{mg:oW->Option oQ}{base:pb}{A:oY}{outer:List rL}{s:oR}{H:Hp}(e:Env0 P w K mg base A outer s H)(C:oP)(us:List oQ)(kw:List (oW × oQ)) :
  Env0 P w K mg base (A.under (.builtin "type.__call__" ⟨.ref C::us,kw⟩)) outer s H:=⟨by first | exact e.frames | (simpa [Around.under,Code.envs,Code.isFrame,pushEnvs] using e.frames),e.mod,e.bs,e.bsz,e.funs,e.frf,e.hok,e.bare⟩
section
variable{X:Cx}{sJ:List (oP × pD)}{σ:St}{H:Hp}{s s':oR}
theorem Inv.env0(I:Inv X sJ σ H s):Env0 X.prog X.w X.K X.mg X.base X.A X.stack s H :=
 ⟨I.ok.frames,I.ok.mod,I.bs,aO I.ok.bsz I.sz,I.stack,I.stkFree,I.hok,I.bare⟩
theorem Inv.after{Q:VK}{u:oQ}(I:Inv X sJ σ H s)(h:CE X.stack X.prog X.w H s Q u s'):EP X sJ σ Q u s':=by
 obtain⟨v,H',os,bare,un,hok,r,q⟩:=h
 obtain⟨hh,g,d,t,os'⟩:=s'
 obtain rfl:os'=s.os:=os
 exact⟨v,H',I.call (h':=hh) (g':=g) (d':=d) (t':=t) (ch:=[]) un hok bare (λb z=>absurd z (by simp)),r,q⟩
end
def jr(sp:Sp)(dvs:List V)(E:XK)(t:TA):TE:=λσ H Q=>t σ H λvs H1=>sp (vs ++ dvs) H1 Q E
def ZY(C:oP)(m:oW)(sp:Sp)(dvs:List V)(E:XK)(ta:TE)(t:TA):TE:=λσ H Q=>ta σ H λx H1=>∃a dx fs,x=.ref a/\H1 a=sF (.ins C dx fs)/\fs.lookup m=sG /\
 t σ H1 λvs H2=>sp (x::(vs ++ dvs)) H2 Q E
def UF(C:oP)(sp:Sp)(dvs:List V)(E:XK)(t:TA):TE:=λσ H Q=>t σ H λvs H1=>∀x dx,H1 x=sG->H1 dx=sG->dx≠x ->
 sp (.ref x::(vs ++ dvs)) (upd (upd H1 dx (.own x)) x (.ins C dx [])) (λv H2=>v=.non/\Q (.ref x) H2) E
def Binds(K:oO)(fd:oU)(ps:List oW)(ds:List oQ):Prop :=
 ∀(s:oR) (us:List oQ),K.In s.heap->(us ++ ds).length=ps.length->rS s fd ⟨us,[]⟩ (ps.zip (us ++ ds))
theorem Binds.all{K:oO}{fd:oU}{ps:List oW}(h:∀us:List oQ,us.length=ps.length->bindArgs fd ⟨us,[]⟩=pure (ps.zip us)):Binds K fd ps []:=λs us _ hl=>by
 rw[aS] at hl ⊢
 exact .of_eq (h us hl)
def uG(CX:CXT)(X:Cx)(E:XK):Prop:=∀(sJ:List (oP × pD)) (σ:St) (H:Hp) (s:oR) (e:oQ) (s':oR),Inv X sJ σ H s->CX X.stack H s E e s'->X.xe e s'
section
variable{X:Cx}{CX:CXT}{k:Nat}{f C:oP}{fd:oU}{ps:List oW}{sp:Sp}{dvs:List V}{ds:List oQ}{E:XK}{x m:oW}{p pos apos:pS}{e o:oZ}{es:List oZ}{ta:TE}{t:TA}
theorem jB{sJ:List (oP × pD)}{σ:St}{H:Hp}{s:oR}{Q:VK}{us:List oQ}{vs:List V}(F:FnOk X.prog X.w X.K X.mg X.base CX k f fd ps sp)(hr:Room k X.A)(hb:Binds X.K fd ps ds)(hd:Vals dvs ds)(hx:uG CX X E)
  (I:Inv X sJ σ H s) (r:Vals vs us) (h:sp (vs ++ dvs) H Q E):oS (model X.prog X.w) X.A (call (.ref f) us) (EP X sJ σ Q) X.xe s:=by
 have r2:Vals (vs ++ dvs) (us ++ ds):=r.append hd
 have hl:(us ++ ds).length=ps.length:=by rw[<- r2.length];exact F.len _ _ _ _ h
 refine pV (pX (F.run X.A X.stack s H ⟨us,[]⟩ (us ++ ds) (vs ++ dvs) Q E hr I.env0 (hb s us I.kIn hl) r2 h) λr s' hq=>?_)
 cases r with
 | error e=>exact hx sJ σ H s e s' I hq
 | ok fl =>
  cases fl with
  | ret u=>exact I.after hq
  | next=>exact False.elim hq
  | brk=>exact False.elim hq
  | cont=>exact False.elim hq
theorem Uv(F:FnOk X.prog X.w X.K X.mg X.base CX k f fd ps sp)(hr:Room k X.A)(hg:Gl X x)(hm:X.mg x=sF (.ref f))(hk:aj X.K (.ref f)=sH)(hb:Binds X.K fd ps ds)(hd:Vals dvs ds)(hx:uG CX X E)
  (ha:PA X (e::es) t) (hdb:(x == ("__debug__" : oW))=sI:=by decide) (he:oM (e::es) X.env=(sI,eval e X.env)::oM es X.env:=by rfl) (hpl:(pj pos (oM es X.env)).any (·.1)=sI:=by rfl) :
  PE X (.Call (.Name x p) (e::es) [] pos) (jr sp dvs E t):=by
 intro sJ s σ H Q I h
 refine pz (vt I hg hm ?_ hdb)
 refine bN (h₀:=X.base) I.ok.mod.kin hk (thn (ha pos sJ s σ H _ I h) λus s1 ⟨vs,H1,I1,r,q⟩=>⟨I1.kIn,?_⟩) he hpl
 exact jB F hr hb hd hx I1 r q
theorem Kq{pl:sx Bool}(he:PE X o ta)(c:Cls X.K C)(hm:za1 X.K C m f)(F:FnOk X.prog X.w X.K X.mg X.base CX k f fd ps sp)(hr:Room k X.A)(hb:Binds X.K fd ps ds)(hd:Vals dvs ds)(hx:uG CX X E)(ha:PA X (e::es) t)
    (hst:oM (e::es) X.env=(sI,eval e X.env)::oM es X.env:=by rfl) (hpl:(pj pos (oM es X.env)).any (·.1)=sI:=by rfl)
    (ht:eval (.Call (.Attribute o m apos) (e::es) [] pos) X.env=(do
      let ov <- eval o X.env
      standAt apos.atName
      let (f,first) <- holding [ov] (getMethod ov m pl)
      callWith pos f first (pj pos (oM (e::es) X.env)) (pG pos (pf [] X.env))):=by rfl) :
    PE X (.Call (.Attribute o m apos) (e::es) [] pos) (ZY C m sp dvs E ta t):=by
  intro sJ s σ H Q I h
  refine bV (pl:=pl) (thn (he sJ s σ H _ I h) λu s1 ⟨x,H1,I1,rx,a,dx,fs,ex,ea,l,q⟩=>?_) ht
  subst ex
  obtain rfl:u=Value.ref a:=rx
  refine wm I1 ea c hm l ?_
  refine bN (first:=[.ref a]) (h₀:=X.base) I.ok.mod.kin hm.kp (thn (ha pos sJ s1 σ H1 _ I1 q) λus s2 ⟨vs,H2,I2,r,q2⟩=>⟨I2.kIn,?_⟩) hst hpl
  exact jB (us:=.ref a::us) (vs:=.ref a::vs) F hr hb hd hx I2 (.cons rfl r) q2
theorem Qu{pl:sx Bool}(he:PE X o ta)(c:Cls X.K C)(hm:za1 X.K C m f)(F:FnOk X.prog X.w X.K X.mg X.base CX k f fd ps sp)(hr:Room k X.A)(hb:Binds X.K fd ps ds)(hd:Vals dvs ds)(hx:uG CX X E)
    (ht:eval (.Call (.Attribute o m apos) [] [] pos) X.env=(do
      let ov <- eval o X.env
      standAt apos.atName
      let (f,first) <- holding [ov] (getMethod ov m pl)
      callWith pos f first (pj pos (oM [] X.env)) (pG pos (pf [] X.env))):=by rfl) :
    PE X (.Call (.Attribute o m apos) [] [] pos) (ZY C m sp dvs E ta vd):=by
  intro sJ s σ H Q I h
  refine bV (pl:=pl) (thn (he sJ s σ H _ I h) λu s1 ⟨x,H1,I1,rx,a,dx,fs,ex,ea,l,q⟩=>?_) ht
  subst ex
  obtain rfl:u=Value.ref a:=rx
  refine wm I1 ea c hm l ?_
  exact eW (first:=[.ref a]) I1.kIn hm.kp (jB (us:=[.ref a]) (vs:=[.ref a]) F hr hb hd hx I1 (.cons rfl .nil) q)
structure Mk(K:oO)(C f:oP):Prop where
 makes:cK K C=sH
 init:ah K (.ref C) "__init__" = sF (sF (.ref f))
 fn:bg K (.ref f)=sH
 kp:aj K (.ref C)=sH
theorem UX{sJ:List (oP × pD)}{σ:St}{H:Hp}{s:oR}{Q:VK}{us:List oQ}{vs:List V}(M:Mk X.K C f)(F:FnOk X.prog X.w X.K X.mg X.base CX k f fd ps sp)(hr:Room (k+1) X.A)(hb:Binds X.K fd ps ds)(hd:Vals dvs ds)
  (hx:uG CX X E) (I:Inv X sJ σ H s) (r:Vals vs us)
  (h:∀x dx,H x=sG->H dx=sG->dx≠x->sp (.ref x::(vs ++ dvs)) (upd (upd H dx (.own x)) x (.ins C dx [])) (λv H2=>v=.non/\Q (.ref x) H2) E) :
  oS (model X.prog X.w) X.A (call (.ref C) us) (EP X sJ σ Q) X.xe s:=by
 have hq:=h (s.heap.objs.size+1) s.heap.objs.size (I.hok.fresh (cC _)) (I.hok.fresh (au _)) (aE (d4 _))
 have I2:=Inv.made (C:=C) I
 have r2:Vals (V.ref (s.heap.objs.size+1)::(vs ++ dvs)) (Value.ref (s.heap.objs.size+1)::(us ++ ds)):=.cons rfl (r.append hd)
 have hl:(Value.ref (s.heap.objs.size+1)::us ++ ds).length=ps.length:=by
  have e:=r2.length
  rw[F.len _ _ _ _ hq] at e
  exact e.symm
 refine pV (U8 (f:=f) I.kIn M.makes M.init (beq_iff_eq.mp M.fn) (pX (F.run _ X.stack _ _ ⟨Value.ref (s.heap.objs.size+1)::us,[]⟩ (Value.ref (s.heap.objs.size+1)::(us ++ ds)) _ _ E (hr.make C us [])
  (I2.env0.make C us []) (hb _ (Value.ref (s.heap.objs.size+1)::us) I2.kIn hl) r2 hq) λr s' hq'=>?_))
 cases r with
 | error e=>exact hx sJ σ _ _ e s' I2 hq'
 | ok fl =>
  cases fl with
  | ret u =>
   obtain⟨v,H',I3,rv,ev,q3⟩:=I2.after hq'
   subst ev
   exact⟨rv,⟨V.ref (s.heap.objs.size+1),H',I3,rfl,q3⟩⟩
  | next=>exact False.elim hq'
  | brk=>exact False.elim hq'
  | cont=>exact False.elim hq'
theorem V3(M:Mk X.K C f)(F:FnOk X.prog X.w X.K X.mg X.base CX k f fd ps sp)(hr:Room (k+1) X.A)(hg:Gl X x)(hm:X.mg x=sF (.ref C))(hb:Binds X.K fd ps ds)(hd:Vals dvs ds)(hx:uG CX X E)
  (ha:PA X (e::es) t) (hdb:(x == ("__debug__" : oW))=sI:=by decide) (he:oM (e::es) X.env=(sI,eval e X.env)::oM es X.env:=by rfl) (hpl:(pj pos (oM es X.env)).any (·.1)=sI:=by rfl) :
  PE X (.Call (.Name x p) (e::es) [] pos) (UF C sp dvs E t):=by
 intro sJ s σ H Q I h
 refine pz (vt I hg hm ?_ hdb)
 refine bN (h₀:=X.base) I.ok.mod.kin M.kp (thn (ha pos sJ s σ H _ I h) λus s1 ⟨vs,H1,I1,r,q⟩=>⟨I1.kIn,?_⟩) he hpl
 exact UX M F hr hb hd hx I1 r q
end
def PK(X:Cx)(kws:List sy)(t:TA):Prop :=
 ∀(pos:pS) (sJ:List (oP × pD)) (s:oR) (σ:St) (H:Hp) (Q:List V->Hp->Prop),Inv X sJ σ H s->t σ H Q->oS (model X.prog X.w) X.A (evalAll ((pG pos (pf kws X.env)).map (·.2))) (AP X sJ σ Q) X.xe s
section
variable{X:Cx}{CX:CXT}{k:Nat}{f C:oP}{fd:oU}{ps ks:List oW}{sp:Sp}{E:XK}{x m:oW}{p pos apos kpos:pS}{e o:oZ}{es:List oZ}{kws:List sy}{te ta:TE}{t tk:TA}{nm:Option oW}
theorem Je:PK X [] vd:=λ_ _ _ _ H Q I h=>wpAny_evalAll_nil ⟨[],H,I,.nil,h⟩
theorem Ve(ha:PE X e te)(hr:PK X kws t):PK X (⟨nm,e,kpos⟩::kws) (zP te t):=by
 intro pos sJ s σ H Q I h
 show oS _ _ (evalAll ((do let v <- eval e X.env;standAt pos;pure v)::(pG pos (pf kws X.env)).map (·.2))) _ _ s
 refine wpAny_evalAll_cons (oH (thn (ha sJ s σ H _ I h) λu s1 ⟨x,H1,I1,r1,q1⟩=>oH (pN (oJ ?_))))
 exact thn (hr pos sJ s1 σ H1 _ I1 q1) λus s2 ⟨xs,H2,I2,r2,q2⟩=>⟨x::xs,H2,I2,.cons r1 r2,q2⟩
variable{g:List oQ->List oQ->List oQ}{gV:List V->List V->List V}
end
structure zq(N P:List oW)(sc:pK):Prop where
 kind:sc.kind=.function
 co:sc.isCoroutine=sI
 gen:sc.isGenerator=sI
 nd:N.Nodup
 pre:N.take P.length=P
 par:∀x ∈ P,sc.names.lookup x=sF .local\/sc.names.lookup x=sF .cell
 nofree:∀y ∈ sc.names,y.2≠.free
theorem ZF{kindOf:oW->Option rm}{x:oW}:∀{binds:List (oW × oQ)} {m:oW->Option oQ},(∀v,(x,v) ∉ binds)->bindL kindOf binds m x=m x
  | [],_,_=>rfl
  | (n,v)::r,m,h=>by
    unfold bindL
    rw[ZF λw hw=>h w (aw _ hw)]
    split
    . have:x≠n:=by rintro rfl;exact h v az
      simp [this]
    . rfl
theorem Zi{kindOf:oW->Option rm}{x:oW}:∀{binds:List (oW × oQ)} {m:oW->Option oQ},(∀v,(x,v) ∉ binds)->bindC kindOf binds m x=m x
  | [],_,_=>rfl
  | (n,v)::r,m,h=>by
    unfold bindC
    rw[Zi λw hw=>h w (aw _ hw)]
    split
    . rfl
    . have:x≠n:=by rintro rfl;exact h v az
      simp [this]
theorem Z0{kindOf:oW->Option rm}{x:oW}{v:oQ}:∀{P:List oW} {vs:List oQ} {i:Nat} {m:oW->Option oQ},P.Nodup->P[i]? = sF x->vs[i]? = sF v->kindOf x=sF .local ->
  bindL kindOf (P.zip vs) m x=sF v
 | [],_,_,_,_,h,_,_=>by simp at h
 | _::_,[],_,_,_,_,h,_=>by simp at h
 | p::P,w::vs,0,m,nd,h1,h2,hk=>by
  simp at h1 h2;subst h1;subst h2
  show bindL kindOf ((p,w)::P.zip vs) m p=_
  unfold bindL
  rw[ZF λv hv=>(List.nodup_cons.mp nd).1 (da hv).1,if_pos hk]
  simp
 | p::P,w::vs,i+1,m,nd,h1,h2,hk=>by
  show bindL kindOf ((p,w)::P.zip vs) m x=_
  unfold bindL
  exact Z0 (i:=i) (List.nodup_cons.mp nd).2 (by simpa using h1) (by simpa using h2) hk
theorem Zw{kindOf:oW->Option rm}{x:oW}{v:oQ}:∀{P:List oW} {vs:List oQ} {i:Nat} {m:oW->Option oQ},P.Nodup->P[i]? = sF x->vs[i]? = sF v->kindOf x≠sF .local ->
  bindC kindOf (P.zip vs) m x=sF v
 | [],_,_,_,_,h,_,_=>by simp at h
 | _::_,[],_,_,_,_,h,_=>by simp at h
 | p::P,w::vs,0,m,nd,h1,h2,hk=>by
  simp at h1 h2;subst h1;subst h2
  show bindC kindOf ((p,w)::P.zip vs) m p=_
  unfold bindC
  rw[Zi λv hv=>(List.nodup_cons.mp nd).1 (da hv).1,if_neg hk]
  simp
 | p::P,w::vs,i+1,m,nd,h1,h2,hk=>by
  show bindC kindOf ((p,w)::P.zip vs) m x=_
  unfold bindC
  exact Zw (i:=i) (List.nodup_cons.mp nd).2 (by simpa using h1) (by simpa using h2) hk
noncomputable def start(N:List oW)(vs:List V):St:=vs.map sF ++ bp (N.length - vs.length) sG
noncomputable def qc(CX:CXT)(P:oV)(w:oX)(K:oO)(mg:oW->Option oQ)(base:pb)(N:List oW)(qual:oW)(scope:pK)(f:oP)(cd:oQ)(A:oY)(outer:List rL)(s:oR)(H:Hp)(E:XK):Cx where
 prog:=P
 w:=w
 K:=K
 mg:=mg
 base:=base
 A:=A.deeper (rn qual scope s.heap.objs.size f cd)
 N:=N
 s₀:=s
 H₀:=H
 env:=rn qual scope s.heap.objs.size f cd
 outer:=outer
 stack:=rn qual scope s.heap.objs.size f cd::outer
 ex:=[]
 calm:=sH
 fn:=λ_=>sH
 pn:=[]
 xe:=λe s'=>oS (model P w) (A.deeper (rn qual scope s.heap.objs.size f cd)) (leaving (rn qual scope s.heap.objs.size f cd) e) (λ_ s''=>CX outer H s E e s'') (λe' s''=>CX outer H s E e' s'') s'
theorem Xu{sc:pK}{n:Nat}{x:oW}(h:sc.names.lookup x=sF .cell):∃c,(cellsFrom n sc.names []).lookup x=sF c:=by
 have q:=eI sc.names n [] (.inl h)
 exact Option.isSome_iff_exists.mp q
theorem Vd{CX:CXT}{P:oV}{w:oX}{K:oO}{mg:oW->Option oQ}{base:pb}{N ps:List oW}{qual:oW}{scope:pK}{f:oP}{cd:oQ}{A:oY}{outer:List rL}{s s1:oR}{H:Hp}{E:XK}{us:List oQ}{vs:List V}
  (S:zq N ps scope) (hd:A.handled=sG) (e0:Env0 P w K mg base A outer s H) (hl:vs.length=ps.length) (r:Vals vs us)
  (x:InCallC s s.heap.objs.size (bindL (rn qual scope s.heap.objs.size f cd).kindOf (ps.zip us) λ_=>sG) (cellsFrom (s.heap.objs.size+1) scope.names []) (bindC (rn qual scope s.heap.objs.size f cd).kindOf (ps.zip us) λ_=>sG) s1) :
  Inv (qc CX P w K mg base N qual scope f cd A outer s H E) [] (start N vs) H s1:=by
 have hpl:ps.length<=N.length:=by have:=congrArg eJ S.pre;rw[aK] at this;lia
 obtain⟨h1,tk,rfl,hk⟩:=x.done
 have noA:∀b:oP,b ∉ (qc CX P w K mg base N qual scope f cd A outer s H E).ex:=λb z=>absurd (show b ∈ ([]:List oP) from z) (by simp)
 refine⟨⟨e0.mod,S.kind,rfl,rfl,au _,λy z c h1 h2=>?_,λy hy=>?_,λy c _ h=>?_,λ_=>hd,Around.frames_deeper e0.frames,.inr ⟨rfl,rfl⟩,λb z=>absurd z (noA b),e0.bs,e0.bsz,λb _ _=>noA b,λb z=>absurd z (noA b),e0.funs,e0.frf⟩,
  rfl,e0.bare,Un.kept hk,⟨_,x.toInCall.ns,λi y v h1 h2 h3=>?_⟩,λy c h=>⟨_,x.cell y c h⟩,e0.hok.fresh (au _),λy c h=>?_,λp hp=>absurd (show p ∈ ([]:List (oP × pD)) from hp) (by simp),e0.hok.kept hk,?_⟩
 ·exact name_of_addr x.apart (bR h1) (bR h2)
 ·have hy:scope.names.lookup y=sF .cell\/scope.names.lookup y=sF .free:=hy
  rcases hy with hy | hy
  ·exact Xu hy
  ·exact absurd rfl (S.nofree _ (bR hy))
 ·exact de (x.above y c (bR h))
 ·have hi:i<vs.length:=by
   unfold start at h2
   by_cases hi:i<vs.length
   ·exact hi
   ·rw[bS (by simpa using hi)] at h2
    rw[eg] at h2
    split at h2 <;> cases h2
  have ha:vs[i]? = sF v:=by
   unfold start at h2
   rw[bY (by simpa using hi),aG] at h2
   cases e:vs[i]? with
   | none=>rw[e] at h2;cases h2
   | some a=>rw[e] at h2;cases h2;rfl
  obtain⟨u,hu,rv⟩:=r.get ha
  have hp:ps[i]? = sF y:=by
   rw[<- S.pre,bx (by lia)];exact h1
  have ndP:ps.Nodup:=by rw[<- S.pre];exact S.nd.sublist (List.take_sublist _ _)
  refine⟨u,rv,?_⟩
  rcases S.par y (af hp) with k | k
  ·exact .inl ⟨k,Z0 ndP hp hu k⟩
  ·obtain⟨c,e⟩:=Xu (n:=s.heap.objs.size+1) k
   refine .inr ⟨.inl k,c,e,?_⟩
   have q:=x.cell y c e
   rw[Zw ndP hp hu (by show scope.names.lookup y≠_;rw[k];decide)] at q
   exact q
 ·exact e0.hok.fresh (de (x.above y c (bR h)))
 ·unfold start
  show _=N.length
  rw[am,ae,cr]
  lia
theorem Qm{CX:CXT}{P:oV}{w:oX}{K:oO}{mg:oW->Option oQ}{base:pb}{k:Nat}{f:oP}{name qual:oW}{params:rq}{body:List pc}{scope:pK}{dV kV doc pm cdv ct oc:oQ}{an od:Option oP}
  {osl:Array (Option oQ)} {N ps:List oW} {sp:Sp} (lk:K.lookup f=sF ⟨oc,od,.func (av name qual params body scope dV kV doc pm an cdv ct),osl⟩) (hcd:ar K cdv qual=sH) (S:zq N ps scope)
  (len:∀vs H Q E,sp vs H Q E->vs.length=ps.length)
  (hbody:∀(A:oY) (outer:List rL) (s:oR) (H:Hp) (vs:List V) (Q:VK) (E:XK),Room k (A.deeper (rn qual scope s.heap.objs.size f cdv))->sp vs H Q E ->
   ∃t,PSs (qc CX P w K mg base N qual scope f cdv A outer s H E) body t/\t { nx:=λ_ H'=>Q .non H',rt:=Q } (start N vs) H) :
  FnOk P w K mg base CX (k+1) f (av name qual params body scope dV kV doc pm an cdv ct) ps sp:=by
 refine⟨len,λA outer s H args us vs Q E hr e0 hb r hsp=>?_⟩
 have hl:=len _ _ _ _ hsp
 have KX:K.In s.heap:=e0.mod.kin.keeps λb o e=>(e0.bs b o e).1
 have lim:s.heap.NoLimit:=e0.mod.nolimit.keeps λb o e=>(e0.bs b o e).1
 have hkind:∀y ∈ ps.zip us,scope.names.lookup y.1=sF .local\/(scope.names.lookup y.1=sF .cell/\((cellsFrom (s.heap.objs.size+1) scope.names []).lookup y.1).isSome=sH):=λ⟨n,v⟩ hy=>by
  rcases S.par n (da hy).1 with q | q
  ·exact .inl q
  ·exact .inr ⟨q,eI _ _ _ (.inl q)⟩
 refine codeAny_call_function hr.depth (KX _ _ lk) rfl S.co S.gen rfl (PySem.W.codeRec_of KX hcd) (hb _ _ _ _ ?_)
 refine wpAny_newFunctionEnv_cells S.kind hkind λenv he s1 x=>?_
 subst he
 refine⟨lim.keeps x.toInCall.keep,codeAny_func ?_⟩
 obtain⟨t,ht,hq⟩:=hbody A outer s H vs Q E (hr.deeper _) hsp
 have I:Inv (qc CX P w K mg base N qual scope f cdv A outer s H E) [] (start N vs) H s1:=Vd S hr.hd e0 hl r x
 refine pT (ht [] s1 (start N vs) H _ I hq) (λfl s' hs=>?_) λe s' hs=>hs
 have fin:∀{σ':St} {H':Hp} {v:V} {u:oQ},Inv (qc CX P w K mg base N qual scope f cdv A outer s H E) [] σ' H' s'->RelV v u->Q v H'->CE outer P w H s Q u s' :=
  λ{σ' H' v u} J rv q=>⟨v,H',J.os,J.bare,J.base,J.hok,rv,q⟩
 cases fl with
 | ret u =>
  obtain⟨v,σ',H',J,rv,q⟩:=hs
  exact fin J rv q
 | next =>
  obtain⟨σ',H',J,q⟩:=hs
  exact fin (v:=V.non) (u:=Value.none) J rfl q
 | brk =>
  obtain⟨_,_,_,q⟩:=hs
  exact False.elim q
 | cont =>
  obtain⟨_,_,_,q⟩:=hs
  exact False.elim q
end L2
namespace L2
section
variable{X:Cx}{x:oW}{p pos:pS}{e:oZ}{es:List oZ}{t:TA}{id T:String}{r:List V->Hp->VK->Prop}
def tCB(r:List V->Hp->VK->Prop)(t:TA):TE:=λσ H Q=>t σ H λvs H1=>r vs H1 Q
theorem zp(hc:vP X (.builtin id) r)(hg:Gl X x)(hm:X.mg x=sG)(hv:pF x=sF (.builtin id))(ha:PA X (e::es) t)(hn:x≠"__name__":=by decide)(hdb:(x == ("__debug__" : oW))=sI:=by decide)
  (he:oM (e::es) X.env=(sI,eval e X.env)::oM es X.env:=by rfl) (hpl:(pj pos (oM es X.env)).any (·.1)=sI:=by rfl):PE X (.Call (.Name x p) (e::es) [] pos) (tCB r t):=by
 intro sJ s σ H Q I h
 refine pz (vj I hg hm hv ?_ hn hdb)
 exact PyProof.Rows.callWith_builtin1 (thn (ha pos sJ s σ H _ I h) λus s1 ⟨vs,H1,I1,r1,q1⟩=>hc sJ s1 σ H1 vs us Q I1 r1 q1) he hpl
theorem xH(hc:vP X (.type T) r)(hg:Gl X x)(hm:X.mg x=sG)(hv:pF x=sF (.type T))(ha:PA X (e::es) t)(hn:x≠"__name__":=by decide)(hdb:(x == ("__debug__" : oW))=sI:=by decide)
  (he:oM (e::es) X.env=(sI,eval e X.env)::oM es X.env:=by rfl) (hpl:(pj pos (oM es X.env)).any (·.1)=sI:=by rfl):PE X (.Call (.Name x p) (e::es) [] pos) (tCB r t):=by
 intro sJ s σ H Q I h
 refine pz (vj I hg hm hv ?_ hn hdb)
 exact bD (thn (ha pos sJ s σ H _ I h) λus s1 ⟨vs,H1,I1,r1,q1⟩=>hc sJ s1 σ H1 vs us Q I1 r1 q1) he hpl
end
end L2
namespace HT
open PySem PyProof.Rows
section
open PySem.SeqAt
open PySem.AutoSeq1 (wpAny_loadPart')
open PySem.MeetsSeq PySem.MeetsSeq2 PySem.MeetsSeq3
end
section
variable{prog:oV}{w:oX}{A:oY}{E:oQ->oR->Prop}{s:oR}
noncomputable def sIx(n d:Nat):Option Int->Nat
 | none=>d
 | some v=>if v<0 then (v+(n:Int)).toNat else min v.toNat n
theorem sIx_none(n d:Nat):sIx n d sG=d:=rfl
theorem sIx_nat(n d k:Nat):sIx n d (sF (k:Int))=min k n:=by
 show (if (k:Int)<0 then ((k:Int)+(n:Int)).toNat else min (k:Int).toNat n)=min k n
 rw[if_neg (by lia),aX]
theorem sIx_le(n d:Nat)(hd:d<=n)(o:Option Int):sIx n d o<=n:=by
 cases o with
 | none=>exact hd
 | some v =>
  show (if v<0 then (v+(n:Int)).toNat else min v.toNat n)<=n
  by_cases hv:v<0
  ·rw[if_pos hv];lia
  ·rw[if_neg hv];exact Nat.min_le_right _ _
end
end HT
namespace L2
noncomputable abbrev TO:=St->Hp->(Option Int->Hp->Prop)->Prop
def PO(X:Cx)(e:Option oZ)(t:TO):Prop :=
 ∀(sJ:List (oP × pD)) (s:oR) (σ:St) (H:Hp) (Q:Option Int->Hp->Prop),Inv X sJ σ H s->t σ H Q ->
  oS (model X.prog X.w) X.A (evalPart e X.env) (λu s'=>∃o H',Inv X sJ σ H' s'/\IsPart u o/\Q o H') X.xe s
def WB:TO:=λ_ H Q=>Q sG H
def zaY(t:TE):TO:=λσ H Q=>t σ H λx H1=>∃i,x=.int i/\Q (sF i) H1
section
variable{X:Cx}{e:oZ}{te:TE}{lo hi:Option oZ}{tl th:TO}{pos p2:pS}
theorem xZ:PO X sG WB:=by
 intro sJ s σ H Q I h
 rw[evalPart_none]
 exact oJ ⟨sG,H,I,.none,h⟩
theorem yf(h:PE X e te):PO X (sF e) (zaY te):=by
 intro sJ s σ H Q I hw
 rw[evalPart_some]
 refine thn (h sJ s σ H _ I hw) λu s1 ⟨x,H1,I1,r1,q1⟩=>?_
 obtain⟨i,rfl,q⟩:=q1
 obtain⟨t,rfl⟩:=r1
 exact⟨sF i,H1,I1,.int i t,q⟩
def SlR(X:Cx)(r:V->Option Int->Option Int->Hp->VK->Prop):Prop :=
 ∀(sJ:List (oP × pD)) (s:oR) (σ:St) (H:Hp) (x:V) (v vl vu:oQ) (lo hi:Option Int) (sl:oP) (Q:VK),Inv X sJ σ H s->RelV x v->s.heap.IsSliceOf sl vl vu .none->IsPart vl lo->IsPart vu hi->r x lo hi H Q ->
  ∃T id,typeLookup (.type T) "__getitem__" = pure (sF (.builtin id))/\s.TypeIs v T/\oS (model X.prog X.w) X.A (getItem v (.ref sl)) (EP X sJ σ Q) X.xe s
theorem SlR.or{r r':V->Option Int->Option Int->Hp->VK->Prop}(h:SlR X r)(h':SlR X r'):SlR X (λx lo hi H Q=>r x lo hi H Q\/r' x lo hi H Q):=by
 intro sJ s σ H x v vl vu lo hi sl Q I rx hs pl pu q
 rcases q with q | q
 ·exact h sJ s σ H x v vl vu lo hi sl Q I rx hs pl pu q
 ·exact h' sJ s σ H x v vl vu lo hi sl Q I rx hs pl pu q
def tSl(r:V->Option Int->Option Int->Hp->VK->Prop)(te:TE)(tl th:TO):TE:=λσ H Q=>te σ H λx H1=>tl σ H1 λl H2=>th σ H2 λu H3=>r x l u H3 Q
theorem yk{r:V->Option Int->Option Int->Hp->VK->Prop}(hr:SlR X r)(he:PE X e te)(hl:PO X lo tl)(hu:PO X hi th):PE X (.Subscript e (.Slice lo hi sG p2) pos) (tSl r te tl th):=by
 intro sJ s σ H Q I h
 refine sB (thn (he sJ s σ H _ I h) λv s1 ⟨x,H1,I1,r1,q1⟩=>?_)
 refine wpAny_Slice (thn (hl sJ s1 σ H1 _ I1 q1) λvl s2 ⟨l,H2,I2,pl,q2⟩=>thn (hu sJ s2 σ H2 _ I2 q2) λvu s3 ⟨u,H3,I3,pu,q3⟩=>?_)
 rw[evalPart_none]
 refine oJ ?_
 have I4:Inv X sJ σ H3 { s3 with heap:=s3.heap.push { cls:=.type "slice",data:=.fields #[vl,vu,.none] } }:=I3.kept (t':=s3.toks) λb ob q=>aa _ q
 obtain⟨T,id,hT,ht,hg⟩:=hr sJ { s3 with heap:=s3.heap.push { cls:=.type "slice",data:=.fields #[vl,vu,.none] } } σ H3 x v vl vu l u s3.heap.objs.size Q I4 r1 (Heap.IsSliceOf.new ..) pl pu q3
 show oS (model X.prog X.w) X.A (rW e (.Slice lo hi sG p2) v (.ref s3.heap.objs.size)) (EP X sJ σ Q) X.xe { s3 with heap:=s3.heap.push { cls:=.type "slice",data:=.fields #[vl,vu,.none] } }
 exact tail_any (ops:=[.ref s3.heap.objs.size,v]) ht hT hg (by with_unfolding_all rfl)
noncomputable def Jk(xs:List V)(lo hi:Option Int):List V:=(xs.drop (HT.sIx xs.length 0 lo)).take (HT.sIx xs.length xs.length hi - HT.sIx xs.length 0 lo)
theorem Z8(xs:List V)(lo hi:Option Int):(Jk xs lo hi).length<=xs.length:=by
 unfold Jk
 rw[aK,br]
 lia
end
end L2
namespace L2
noncomputable def ixN(n:Nat)(i:Int):Option Nat:=if 0<=i then (if i<n then sF i.toNat else sG) else if -(n:Int)<=i then sF (i+n).toNat else sG
noncomputable def atI{α:Type}(xs:List α)(i:Int):Option α:=(ixN xs.length i).bind λj=>xs[j]?
theorem Kg{n:Nat}{i:Int}{j:Nat}(h:ixN n i=sF j):seqIndex? i n=sF j/\j<n/\-(n:Int)<=i/\i<n:=by
 unfold ixN at h
 by_cases h0:0<=i
 ·rw[if_pos h0] at h
  by_cases h1:i<n
  ·rw[if_pos h1] at h
   have e:i.toNat=j:=Option.some.inj h
   exact⟨by rw[seqIndex_of h0 h1,e],by lia,by lia,h1⟩
  ·rw[if_neg h1] at h;cases h
 ·rw[if_neg h0] at h
  by_cases h1:-(n:Int)<=i
  ·rw[if_pos h1] at h
   have e:(i+n).toNat=j:=Option.some.inj h
   exact⟨by rw[seqIndex_neg (by lia) h1,e],by lia,h1,by lia⟩
  ·rw[if_neg h1] at h;cases h
theorem kH{α:Type}{xs:List α}{i:Int}{v:α}(h:atI xs i=sF v):∃j,seqIndex? i xs.length=sF j/\xs[j]? = sF v/\j<xs.length/\-(xs.length:Int)<=i/\i<xs.length:=by
 unfold atI at h
 cases e:ixN xs.length i with
 | none=>rw[e] at h;cases h
 | some j =>
  rw[e] at h
  obtain⟨h1,h2,h3,h4⟩:=Kg e
  exact⟨j,h1,h,h2,h3,h4⟩
theorem JX{α:Type}{xs:List α}{j:Nat}{v:α}(h:xs[j]? = sF v):atI xs (j:Int)=sF v:=by
 have hj:j<xs.length:=(List.getElem?_eq_some_iff.mp h).1
 have e:ixN xs.length (j:Int)=sF j:=by
  unfold ixN
  rw[if_pos (by lia),if_pos (by lia)];simp
 unfold atI;rw[e];exact h
def JN(b:oZ):Prop:=∀o i,subscripted b sI o i=operate [o,i] (getItem o i)
def IxR(X:Cx)(r:R2):Prop :=
 ∀(value slice:oZ) (sJ:List (oP × pD)) (s:oR) (σ:St) (H:Hp) (x y:V) (v u:oQ) (Q:VK),Inv X sJ σ H s->RelV x v->RelV y u->r x y H Q ->
  subscripted slice sI v u=operate [v,u] (getItem v u)->oS (model X.prog X.w) X.A (rW value slice v u) (EP X sJ σ Q) X.xe s
def MtR(X:Cx)(id:String)(r:V->List V->Hp->VK->Prop):Prop :=
 ∀(sJ:List (oP × pD)) (s:oR) (σ:St) (H:Hp) (x:V) (xs:List V) (v:oQ) (us:List oQ) (Q:VK),Inv X sJ σ H s->RelV x v->Vals xs us->r x xs H Q ->
  oS (model X.prog X.w) X.A (call (.builtin id) (v::us)) (EP X sJ σ Q) X.xe s
section
variable{X:Cx}{a b:oZ}{ta tb:TE}{pos:pS}
theorem IxR.or{r r':R2}(h:IxR X r)(h':IxR X r'):IxR X (λx y H Q=>r x y H Q\/r' x y H Q):=by
 intro value slice sJ s σ H x y v u Q I rx ry q hs
 rcases q with q | q
 ·exact h value slice sJ s σ H x y v u Q I rx ry q hs
 ·exact h' value slice sJ s σ H x y v u Q I rx ry q hs
theorem zw{r:R2}(hr:IxR X r)(ha:PE X a ta)(hb:PE X b tb)(hs:JN b):PE X (.Subscript a b pos) (tOp r ta tb):=by
 intro sJ s σ H Q I h
 exact sB (zb8 ha hb I h λv u s2 x y H2 I2 rx ry q=>hr a b sJ s2 σ H2 x y v u Q I2 rx ry q (hs _ _))
def zbI(K:oO):R2:=λx y H Q=>∃p xs i v,x=.ref p/\y=.int i/\SqL K H p xs/\atI xs i=sF v/\Q v H
def uM(K:oO):R2:=λx y H Q=>∃p xs i v,x=.ref p/\y=.int i/\SqT K H p xs/\atI xs i=sF v/\Q v H
def zbQ:R2:=λx y H Q=>∃z i c,x=.str z/\y=.int i/\z.length<=oN/\atI z.cps.toList i=sF c/\Q (.str ⟨#[c]⟩) H
theorem ix_list:IxR X (zbI X.K):=by
 intro value slice sJ s σ H x y v u Q I rx ry h hs
 obtain⟨p,xs,i,z,rfl,rfl,hq,he,q⟩:=h
 cases rx
 obtain⟨t,rfl⟩:=ry
 obtain⟨its,r,pl,hz⟩:=I.list hq
 obtain⟨j,h1,h2,h3,h4,h5⟩:=kH he
 obtain⟨w,ew,rw'⟩:=r.get h2
 have hl:=r.length
 have hn:=Zp
 have fin:EP X sJ σ Q w s:=⟨z,H,I,rw',q⟩
 by_cases h0:0<=i
 ·have hj:i.toNat=j:=by
   rw[seqIndex_of h0 h5] at h1
   exact Option.some.inj h1
  exact item_listR pl.isList h0 (by lia) (by rw[hj];simpa using ew) fin hs
 ·have hj:(i+(its.toArray.size:Int)).toNat=j:=by
   rw[seqIndex_neg (by lia) h4] at h1
   rw[ao,<- hl]
   exact Option.some.inj h1
  exact rH (x:=w) pl.isList.typeIs slot_list_getitem.lookup
   (wpAny_getItem_list_neg (Q:=λr s'=>r=w/\EP X sJ σ Q r s') pl.isList (by lia) (by rw[ao] <;> lia) (by lia) (by rw[hj];simpa using ew) ⟨rfl,fin⟩) hs
theorem ix_tup:IxR X (uM X.K):=by
 intro value slice sJ s σ H x y v u Q I rx ry h hs
 obtain⟨p,xs,i,z,rfl,rfl,hq,he,q⟩:=h
 cases rx
 obtain⟨t,rfl⟩:=ry
 obtain⟨its,r,pl,hz⟩:=I.tuple hq
 obtain⟨j,h1,h2,h3,h4,h5⟩:=kH he
 obtain⟨w,ew,rw'⟩:=r.get h2
 have hl:=r.length
 have hn:=Zp
 have fin:EP X sJ σ Q w s:=⟨z,H,I,rw',q⟩
 exact rH (x:=w) pl.typeIs slot_tuple_getitem.lookup
  (getItem_tuple (j:=j) (Q:=λr s'=>r=w/\EP X sJ σ Q r s') pl (by lia) (by lia) (by rw[ao,<- hl];exact h1) (by simpa using ew) ⟨rfl,fin⟩) hs
theorem VW:IxR X zbQ:=by
 intro value slice sJ s σ H x y v u Q I rx ry h hs
 obtain⟨z,i,c,rfl,rfl,hz,he,q⟩:=h
 obtain⟨t,rfl⟩:=rx
 obtain⟨t',rfl⟩:=ry
 obtain⟨j,h1,h2,h3,h4,h5⟩:=kH he
 have hl:z.cps.toList.length=z.length:=by simp [Str.length]
 rw[hl] at h1 h4 h5
 have hn:=Zp
 exact tail_any (typeIs_str s z t) slot_str_getitem.lookup (getItem_str (c:=c) (by
  have e1:decide (i < -(2 ^ 63:Int))=sI:=decide_eq_false (by lia)
  have e2:decide (i ≥ 2 ^ 63)=sI:=decide_eq_false (by lia)
  rw[e1,e2,Bool.or_false]) (by rw[h1];simpa using h2) ⟨.str ⟨#[c]⟩,H,I.tok _,⟨_,rfl⟩,q⟩) hs
def rIx(K:oO):R2:=λx y H Q=>zbI K x y H Q\/uM K x y H Q\/zbQ x y H Q
theorem zaf:IxR X (rIx X.K):=ix_list.or (ix_tup.or VW)
theorem Inv.lst{sJ:List (oP × pD)}{σ:St}{H:Hp}{s:oR}{p:oP}{xs:List V}(I:Inv X sJ σ H s)(h:H p=sF (.lst xs)) :
  ∃(its:List oQ) (n:Nat),Vals xs its/\s.heap.get? p=sF { cls:=.type "list",data:=.seq its.toArray n }/\xs.length<=oN:=by
 obtain⟨z,its,n,r,e⟩:=I.hok p _ h
 exact⟨its,n,r,e,z⟩
theorem Zt(lo hi:Option Int)(n:Nat):(sliceBounds lo hi sG n).1=((HT.sIx n 0 lo:Nat):Int)/\(sliceBounds lo hi sG n).2.1=((HT.sIx n n hi:Nat):Int)/\(sliceBounds lo hi sG n).2.2=1:=by
 refine⟨?_,?_,rfl⟩
 ·cases lo with
  | none=>simp [sliceBounds,HT.sIx]
  | some i =>
   simp only[sliceBounds,HT.sIx,fo,show (1:Int) > 0 by decide,if_true]
   by_cases h:i<0
   ·simp only[h,if_true] <;> lia
   ·simp only[h,if_false] <;> lia
 ·cases hi with
  | none=>simp [sliceBounds,HT.sIx]
  | some i =>
   simp only[sliceBounds,HT.sIx,fo,show (1:Int) > 0 by decide,if_true]
   by_cases h:i<0
   ·simp only[h,if_true] <;> lia
   ·simp only[h,if_false] <;> lia
theorem kD(its:List oQ)(lo hi:Option Int):slicePick its.toArray lo hi sG=((its.drop (HT.sIx its.length 0 lo)).take (HT.sIx its.length its.length hi - HT.sIx its.length 0 lo)).toArray:=by
 obtain⟨h1,h2,h3⟩:=Zt lo hi its.toArray.size
 unfold slicePick
 rw[h1,h2,h3]
 simp only[sliceRange_one,pick_run,ao] <;> rfl
def zce(K:oO):V->Option Int->Option Int->Hp->VK->Prop:=λx lo hi H Q=>∃a xs,x=.ref a/\SqL K H a xs/\∀p,H p=sG->Q (.ref p) (upd H p (.lst (Jk xs lo hi)))
theorem sl_list:SlR X (zce X.K):=by
 intro sJ s σ H x v vl vu lo hi sl Q I rx hs pl pu h
 obtain⟨a,xs,rfl,hx,q⟩:=h
 cases rx
 obtain⟨its,r,ht,hz⟩:=I.list hx
 have hlen:=r.length
 refine⟨"list",_,slot_list_getitem.lookup,ht.isList.typeIs,?_⟩
 refine wpAny_getItem_list_slice ht.isList hs pl pu .none (by simp) ?_ (by rw[ao] <;> lia)
 rw[kD,<- hlen]
 refine⟨.ref s.heap.objs.size,_,I.laid (t':=s.toks) (o:=.lst (Jk xs lo hi)) (λb ob q=>aa _ q) (au _) ?_,rfl,q _ (I.hok.fresh (au _))⟩
 exact⟨aO (Z8 xs lo hi) hz,_,0,(r.drop (HT.sIx xs.length 0 lo)).take (HT.sIx xs.length xs.length hi - HT.sIx xs.length 0 lo),aI _ rfl⟩
noncomputable def zbe:V->Bool
 | .non=>sH
 | .bl _=>sH
 | .int _=>sH
 | .str _=>sH
 | _=>sI
noncomputable def eqV:V->V->Bool
 | .non,.non=>sH
 | .bl a,.bl b=>a == b
 | .bl a,.int b=>(if a then 1 else 0) == b
 | .int a,.bl b=>a == (if b then 1 else 0)
 | .int a,.int b=>a == b
 | .str a,.str b=>a == b
 | _,_=>sI
theorem Xm{A:oY}{s:oR}{y x:V}{u v:oQ}(ry:RelV y u)(rx:RelV x v)(fy:zbe y=sH)(fx:zbe x=sH):SeqAt.EqAt A s u v (eqV y x):=by
 cases y with
 | non =>
  cases ry
  cases x with
  | non=>cases rx;exact SeqAt.EqAt.same _
  | bl b=>cases rx;exact SeqAt.EqAt.none_bool b
  | int b=>obtain⟨t,rfl⟩:=rx;exact SeqAt.EqAt.none_int b t
  | str b=>obtain⟨t,rfl⟩:=rx;exact SeqAt.EqAt.none_str b t
  | _=>exact absurd (show sI=sH from fx) aF
 | bl a =>
  cases ry
  cases x with
  | non=>cases rx;exact SeqAt.EqAt.bool_none a
  | bl b=>cases rx;exact SeqAt.EqAt.bool_bool a b
  | int b=>obtain⟨t,rfl⟩:=rx;exact SeqAt.EqAt.bool_int a b t
  | str b=>obtain⟨t,rfl⟩:=rx;exact SeqAt.EqAt.bool_str a b t
  | _=>exact absurd (show sI=sH from fx) aF
 | int a =>
  obtain⟨t',rfl⟩:=ry
  cases x with
  | non=>cases rx;exact SeqAt.EqAt.int_none a t'
  | bl b=>cases rx;exact SeqAt.EqAt.int_bool a t' b
  | int b=>obtain⟨t,rfl⟩:=rx;exact SeqAt.EqAt.int_int a t' b t
  | str b=>obtain⟨t,rfl⟩:=rx;exact SeqAt.EqAt.int_str a t' b t
  | _=>exact absurd (show sI=sH from fx) aF
 | str a =>
  obtain⟨t',rfl⟩:=ry
  cases x with
  | non=>cases rx;exact SeqAt.EqAt.str_none a t'
  | bl b=>cases rx;exact SeqAt.EqAt.str_bool a t' b
  | int b=>obtain⟨t,rfl⟩:=rx;exact SeqAt.EqAt.str_int a t' b t
  | str b=>obtain⟨t,rfl⟩:=rx;exact SeqAt.EqAt.str_str a t' b t
  | _=>exact absurd (show sI=sH from fx) aF
 | _=>exact absurd (show sI=sH from fy) aF
theorem xo:vP X (.type "list") (λxs H Q=>∃p ys,xs=[.ref p]/\(SqL X.K H p ys\/SqT X.K H p ys)/\∀l,H l=sG->Q (.ref l) (upd H l (.lst ys))):=by
 intro sJ s σ H xs us Q I r h
 obtain⟨p,ys,rfl,hq,q⟩:=h
 obtain⟨u,rfl,rx⟩:=wP r
 cases rx
 have fin:∀(its:List oQ),Vals ys its->ys.length<=oN->∀(h':pb) (c':Nat),(∀b o',s.heap.get? b=sF o'->h'.get? b=sF o') ->
   h'.get? s.heap.objs.size=sF { cls:=.type "list",dict:=sG,data:=.seq its.toArray c',slots:=#[] }->EP X sJ σ Q (.ref s.heap.objs.size) { s with heap:=h' }:=λits r' hz h' c' kp e =>
  ⟨.ref s.heap.objs.size,_,I.laid (t':=s.toks) kp (au _) (show ObjOk X.prog X.w _ h' _ (.lst ys) from ⟨hz,its,c',r',e⟩),rfl,q _ (I.hok.fresh (au _))⟩
 rcases hq with hq | hq
 ·obtain⟨its,r',pl,hz⟩:=I.list hq
  have hlen:=r'.length
  obtain⟨o,ho,hc,n,hd⟩:=pl.isList
  exact call_list_seq p (.inl rfl) ho hc hd (λh' c' kp e=>fin its r' hz h' c' kp e) (by simp only[ao] <;> lia)
 ·obtain⟨its,r',pl,hz⟩:=I.tuple hq
  have hlen:=r'.length
  obtain⟨o,ho,hc,n,hd⟩:=pl
  exact call_list_seq p (.inr rfl) ho hc hd (λh' c' kp e=>fin its r' hz h' c' kp e) (by simp only[ao] <;> lia)
theorem jV:vP X (.type "tuple") (λxs H Q=>∃p ys,xs=[.ref p]/\((SqL X.K H p ys/\∀l,H l=sG->Q (.ref l) (upd H l (.tup ys)))\/(SqT X.K H p ys/\Q (.ref p) H))):=by
 intro sJ s σ H xs us Q I r h
 obtain⟨p,ys,rfl,h⟩:=h
 obtain⟨u,rfl,rx⟩:=wP r
 cases rx
 rcases h with ⟨hq,q⟩ | ⟨hq,q⟩
 ·obtain⟨its,r',pl,hz⟩:=I.list hq
  have hlen:=r'.length
  refine call_tuple_list pl.isList (λh' kp=>?_) (by simp only[ao] <;> lia)
  have I1:Inv X sJ σ H { s with heap:=h' }:=I.kept (t':=s.toks) kp
  have I2:Inv X sJ σ (upd H h'.objs.size (.tup ys)) { s with heap:=h'.push { cls:=.type "tuple",data:=.seq its.toArray } } :=
   I1.laid (t':=s.toks) (λb o e=>aa _ e) (au _) (show ObjOk X.prog X.w _ _ _ (.tup ys) from ⟨hz,its,r',IsTup.new _ _⟩)
  exact⟨.ref h'.objs.size,_,I2,rfl,q _ (I1.hok.fresh (au _))⟩
 ·obtain⟨its,r',pl,hz⟩:=I.tuple hq
  exact call_tuple_same pl ⟨.ref p,H,I,rfl,q⟩
def tyV(K:oO)(T:String)(x:V)(H:Hp):Prop:=match x with
 | .str _=>T="str"
 | .int _=>T="int"
 | .ref p=>(T="list"/\∃xs,SqL K H p xs)\/(T="tuple"/\∃o,K.lookup p=sF o/\o.cls=.type "tuple"/\o.dict=sG) \/
   (T="dict"/\((∃kvs,H p=sF (.dK kvs))\/∃kvs,H p=sF (.dT kvs)))\/(T="set"/\∃S n,H p=sF (.set S n))
 | _=>False
theorem zaB{sJ:List (oP × pD)}{σ:St}{H:Hp}{s:oR}{T:String}{x:V}{v:oQ}(I:Inv X sJ σ H s)(r:RelV x v)(ty:tyV X.K T x H) :
  s.TypeIs v T/\∀a,v=.ref a->∃ob,s.heap.get? a=sF ob/\ob.dict=sG:=by
 cases x with
 | str z =>
  obtain⟨t,rfl⟩:=r
  cases (show T="str" from ty)
  exact⟨typeIs_str s z t,λ_ e=>nomatch e⟩
 | int i =>
  obtain⟨t,rfl⟩:=r
  cases (show T="int" from ty)
  exact⟨typeIs_int s i t,λ_ e=>nomatch e⟩
 | ref p =>
  cases r
  rcases ty with ⟨rfl,xs,hq⟩ | ⟨rfl,o,hk,hc,hd⟩ | ⟨rfl,hk⟩ | ⟨rfl,S,n,hk⟩
  ·obtain⟨its,_,pl,_⟩:=I.list hq
   refine⟨pl.isList.typeIs,λa e=>?_⟩
   cases e
   obtain⟨o,n,e,c,hd,_⟩:=pl
   exact⟨o,e,hd⟩
  ·refine⟨⟨o,I.kIn p o hk,hc⟩,λa e=>?_⟩
   cases e
   exact⟨o,I.kIn _ o hk,hd⟩
  ·have z:∃o,s.heap.get? p=sF o/\o.ExactDict:=by
    rcases hk with ⟨kvs,hk⟩ | ⟨kvs,hk⟩
    ·obtain⟨_,_,_,_,o,_,_,e,ex,_⟩:=I.hok p _ hk
     exact⟨o,e,ex⟩
    ·obtain⟨_,_,_,_,o,_,_,e,ex,_⟩:=I.hok p _ hk
     exact⟨o,e,ex⟩
   obtain⟨o,e,ex⟩:=z
   refine⟨⟨o,e,ex.1⟩,λa e2=>?_⟩
   cases e2
   exact⟨o,e,ex.2.1⟩
  ·obtain⟨o,_,_,_,e,ex,_⟩:=I.hok p _ hk
   refine⟨⟨o,e,ex.1⟩,λa e2=>?_⟩
   cases e2
   exact⟨o,e,ex.2.1⟩
 | _=>exact False.elim ty
def zc5(K:oO)(T:String)(r:V->List V->Hp->VK->Prop)(to:TE):TE:=λσ H Q=>to σ H λx H1=>tyV K T x H1/\r x [] H1 Q
def tBM(K:oO)(T:String)(r:V->List V->Hp->VK->Prop)(to:TE)(t:TA):TE:=λσ H Q=>to σ H λx H1=>tyV K T x H1/\t σ H1 λxs H2=>r x xs H2 Q
variable{o e:oZ}{es:List oZ}{to:TE}{t:TA}{name:oW}{apos cpos:pS}{T id:String}{r:V->List V->Hp->VK->Prop}
theorem vM(pa:PlainAttrs T)(slot:Slot T name id)(hty:typeOf (.builtin id)=pure (.type "method_descriptor"))(hm:MtR X id r)(ho:PE X o to)(ha:PA X (e::es) t)
  (hbase:attributeBase o name X.env (eval o X.env)=eval o X.env:=by rfl)
  (hfew:((pj cpos (oM (e::es) X.env)).all (λx=>!x.1) && (pG cpos (pf [] X.env)).all (λx=>x.1.isSome)
   && decide ((e::es).length+([]:List sy).length+(if ([]:List sy).isEmpty then 0 else 1)<30))=sH:=by rfl)
  (hline:(apos.endLine == cpos.line)=sH:=by rfl) (hs:oM (e::es) X.env=(sI,eval e X.env)::oM es X.env:=by rfl) (hplain:(pj cpos (oM es X.env)).any (·.1)=sI:=by rfl) :
  PE X (.Call (.Attribute o name apos) (e::es) [] cpos) (tBM X.K T r to t):=by
 intro sJ s σ H Q I h
 refine wpAny_Call_method_late hbase hfew hline rfl (thn (ho sJ s σ H _ I h) λv s1 ⟨x,H1,I1,r1,ty,q1⟩=>?_)
 obtain⟨h1,h2⟩:=zaB I1 r1 ty
 refine⟨T,id,pa,slot,hty,h1,h2,?_⟩
 have hA:=ha cpos sJ s1 σ H1 _ I1 q1
 rw[hs] at hA ⊢
 refine Calls.callWith_builtin (by show (sI || (pj cpos (oM es X.env)).any (·.1))=sI;rw[hplain] <;> rfl) (Calls.evalArgs_plain ?_)
 exact thn hA λus s2 ⟨vs,H2,I2,r2,q2⟩=>hm sJ s2 σ H2 x vs v us Q I2 r1 r2 q2
/- xs.append(e),list.index on a module's tuple .. are MtR facts of 06m -/
end
end L2
namespace L2
def MtM(X:Cx)(id:String)(r:V->List V->Hp->VK->Prop):Prop :=
 ∀(sJ:List (oP × pD)) (s:oR) (σ:St) (H:Hp) (x:V) (xs:List V) (v:oQ) (us:List oQ) (Q:VK),Inv X sJ σ H s->RelV x v->Vals xs us->r x xs H Q ->
  oS (model X.prog X.w) X.A (call (.builtin id) (v::us)) (EP X sJ σ Q) X.xe s
theorem Vals.one:∀{x:V} {us:List oQ},Vals [x] us->∃u,us=[u]/\RelV x u
 | _,_,.cons r .nil=>⟨_,rfl,r⟩
theorem Vals.two:∀{x y:V} {us:List oQ},Vals [x,y] us->∃u v,us=[u,v]/\RelV x u/\RelV y v
 | _,_,_,.cons r (.cons q .nil)=>⟨_,_,rfl,r,q⟩
theorem Vals.zero:∀{us:List oQ},Vals [] us->us=[]
 | _,.nil=>rfl
theorem Vals.eraseIdx:∀{xs:List V} {us:List oQ} (i:Nat),Vals xs us->Vals (xs.eraseIdx i) (us.eraseIdx i)
 | _,_,_,.nil=>.nil
 | _,_,0,.cons _ t=>t
 | _,_,i+1,.cons r t=>.cons r (Vals.eraseIdx i t)
theorem Vals.reverse{xs:List V}{us:List oQ}(h:Vals xs us):Vals xs.reverse us.reverse:=by
 induction h with
 | nil=>exact .nil
 | cons r t ih=>rw[List.reverse_cons,List.reverse_cons];exact Vals.append ih (.cons r .nil)
theorem Z2{α:Type}:∀(l:List α) (i:Nat),(l.eraseIdx i).length<=l.length
 | [],_=>au _
 | _::_,0=>cC _
 | _::r,i+1=>Nat.succ_le_succ (Z2 r i)
section
variable{X:Cx}{sJ:List (oP × pD)}{σ:St}{H:Hp}{s:oR}{l b:oP}{xs ys zs:List V}
theorem Inv.lset{its its':List oQ}{n:Nat}{f:Array oQ->Array oQ}{t':Nat}(I:Inv X sJ σ H s)(hH:H l=sF (.lst xs))
  (e:s.heap.get? l=sF { cls:=.type "list",data:=.seq its.toArray n }) (hf:f its.toArray=its'.toArray) (hv:Vals ys its') (hz:ys.length<=oN) :
  Inv X sJ σ (upd H l (.lst ys)) { s with heap:=s.heap.update l (Obj.mapSeq f),toks:=t' }:=by
 have q:=PySem.IsL.update e f
 rw[hf] at q
 refine I.write (x:=l) (e:=l) (by rw[hH];exact trivial) (.inl rfl) (λb' u hb hu=>(aL s.heap (Obj.mapSeq f) (Ne.symm hb)).trans hu) ⟨_,q⟩ ?_
 exact⟨hz,its',_,hv,q⟩
theorem Inv.lnew{its:List oQ}{t':Nat}(I:Inv X sJ σ H s)(hv:Vals ys its)(hz:ys.length<=oN) :
  Inv X sJ σ (upd H s.heap.objs.size (.lst ys)) { s with heap:=s.heap.push { cls:=.type "list",data:=.seq its.toArray },toks:=t' } :=
 I.laid (λ_ _ q=>aa _ q) (au _) ⟨hz,its,0,hv,aI _ rfl⟩
theorem Inv.fresh(I:Inv X sJ σ H s):H s.heap.objs.size=sG:=I.hok.fresh (au _)
theorem Inv.lstM(I:Inv X sJ σ H s)(hH:H l=sF (.lst xs)):xs.length<=oN/\∃(its:List oQ) (n:Nat),Vals xs its/\xs.length=its.length/\s.heap.get? l=sF { cls:=.type "list",data:=.seq its.toArray n }:=by
 obtain⟨z,its,n,r,e⟩:=I.hok l _ hH
 exact⟨z,its,n,r,r.length,e⟩
theorem UK{n:Nat}(h:n<=oN):Builtin.List.listTooLong n=sI:=by
 unfold Builtin.List.listTooLong
 exact decide_eq_false (by lia)
end
section
variable{X:Cx}
def WE:V->List V->Hp->VK->Prop:=λx vs H Q=>∃l xs y,x=.ref l/\vs=[y]/\H l=sF (.lst xs)/\xs.length<oN/\Q .non (upd H l (.lst (xs ++ [y])))
theorem yU:MtM X "list.append" WE:=by
 intro sJ s σ H x vs v us Q I rx rv h
 obtain⟨l,xs,y,rfl,rfl,hH,hz,q⟩:=h
 cases rx
 obtain⟨u,rfl,ru⟩:=rv.one
 obtain⟨z,its,n,r,hl,e⟩:=I.lstM hH
 refine call_meets F.slot_list_append ⟨_,e,rfl⟩ F.entry_list_append (F.args_list_append_2 _ _) (PySem.list_append l its.toArray n u (by rw[ao];lia)) ⟨e,?_⟩
 refine⟨.non,_,I.lset (its':=its ++ [u]) hH e (by simp) (r.append (.cons ru .nil)) ?_,rfl,q⟩
 rw[am,cu]
 lia
def V1:V->List V->Hp->VK->Prop:=λx vs H Q=>∃l b xs zs,x=.ref l/\vs=[.ref b]/\H l=sF (.lst xs)/\H b=sF (.lst zs)/\xs.length+zs.length<=oN/\Q .non (upd H l (.lst (xs ++ zs)))
theorem WM:MtM X "list.extend" V1:=by
 intro sJ s σ H x vs v us Q I rx rv h
 obtain⟨l,b,xs,zs,rfl,rfl,hH,hB,hz,q⟩:=h
 cases rx
 obtain⟨u,rfl,ru⟩:=rv.one
 cases ru
 obtain⟨z,its,n,r,hl,e⟩:=I.lstM hH
 obtain⟨z2,its2,n2,r2,hl2,e2⟩:=I.lstM hB
 have hsz:its.toArray.size+its2.toArray.size<=oN:=by rw[ao,ao];lia
 have hlong:¬ (!its.toArray.isEmpty && Builtin.List.listTooLong (its.toArray.size+its2.toArray.size))=sH:=by
  rw[UK hsz,eN]
  exact aF
 refine call_meets F.slot_list_extend ⟨_,e,rfl⟩ F.entry_list_extend (F.args_list_extend_2 _ _)
  (AutoSeq1.list_extend_list_list_0 l its.toArray n b its2.toArray n2 hlong (by rw[ao];lia) (by lia)) ⟨e,e2,?_⟩
 refine⟨.non,_,I.lset (its':=its ++ its2) hH e (by simp) (r.append r2) ?_,rfl,q⟩
 rw[am]
 lia
def zaU:V->List V->Hp->VK->Prop:=λx vs H Q=>∃l xs i k y,x=.ref l/\vs=[.int i]/\H l=sF (.lst xs)/\-(2 ^ 63)<=i/\i<2 ^ 63/\seqIndex? i xs.length=sF k/\xs[k]? = sF y/\Q y (upd H l (.lst (xs.eraseIdx k)))
theorem U1:MtM X "list.pop" zaU:=by
 intro sJ s σ H x vs v us Q I rx rv h
 obtain⟨l,xs,i,k,y,rfl,rfl,hH,h1,h2,hk,hy,q⟩:=h
 cases rx
 obtain⟨u,rfl,ru⟩:=rv.one
 obtain⟨t,rfl⟩:=ru
 obtain⟨z,its,n,r,hl,e⟩:=I.lstM hH
 obtain⟨w,hw,rw'⟩:=r.get hy
 refine call_meets F.slot_list_pop ⟨_,e,rfl⟩ F.entry_list_pop (F.args_list_pop_2 _ _)
  (MeetsSeq.list_pop_at l its.toArray n i t k w (fitsIndex_both h1 h2) (by rw[ao,<- hl];exact hk) (by rw[<- Array.getElem?_toList];exact hw) (by rw[ao];lia)) ⟨e,?_⟩
 refine⟨y,_,I.lset (its':=its.eraseIdx k) hH e ?_ (r.eraseIdx k) ?_,rw',q⟩
 ·show its.toArray.eraseIdxIfInBounds k=(its.eraseIdx k).toArray
  rw[List.eraseIdxIfInBounds_toArray]
 ·have:=Z2 xs k
  lia
def zcs:R2:=λx y H Q=>∃l b xs zs,x=.ref l/\y=.ref b/\H l=sF (.lst xs)/\H b=sF (.lst zs)/\xs.length+zs.length<=oN/\∀p,H p=sG->Q (.ref p) (upd H p (.lst (xs ++ zs)))
theorem Wx:OpR X (binaryOp .Add) zcs:=by
 intro sJ s σ H x y v u Q I rx ry h
 obtain⟨l,b,xs,zs,rfl,rfl,hH,hB,hz,q⟩:=h
 cases rx
 cases ry
 obtain⟨z,its,n,r,hl,e⟩:=I.lstM hH
 obtain⟨z2,its2,n2,r2,hl2,e2⟩:=I.lstM hB
 refine PySem.P.add_list e e2 ?_ (by rw[ao,ao];lia)
 have ea:its.toArray ++ its2.toArray=(its ++ its2).toArray:=by simp
 rw[ea]
 exact⟨.ref _,_,I.lnew (t':=s.toks) (r.append r2) (by rw[am];lia),rfl,q _ I.fresh⟩
theorem len_rep{α:Type}(xs:List α)(k:Nat):(bp k xs).flatten.length=k * xs.length:=by
 induction k with
 | zero=>simp
 | succ k ih=>rw[cX,List.flatten_cons,am,ih,d5,Nat.add_comm]
end
section
variable{prog:oV}{w:oX}{A:oY}{E:oQ->oR->Prop}{s:oR}
end
section
variable{X:Cx}
end
end L2
namespace Att
open PySem PySem.W PySem.Calls PyProof.Rows
theorem qw{P:Params}{h:pb}:∀(ns:List Int) (vs:List oQ),WellAll P h vs (ns.map WData.int)->so vs ns:=by
 intro ns
 induction ns with
 | nil =>
  intro vs w
  rw[aN] at w
  cases w
  exact .nil
 | cons n ns ih =>
  intro vs w
  rw[aC] at w
  cases w with
  | cons a b =>
   cases a
   exact .cons _ _ (ih _ b)
theorem script_of{l:OpenLaw}{n:Nat}(hn:l.most=sF n){P:Params}{h:pb}{args:List WData}{vals:List oQ}
  (hpre:l.row.toRowW.claim.pre args=sH) (hwl:WellAll P h vals args) :
  ∃a vs ns,vals=[Value.ref a]/\args=[WData.list (ns.map WData.int)]/\h.get? a=sF { cls:=.type "list",data:=.seq vs.toArray }/\so vs ns/\ns.length<=n:=by
 have hsh:WShape.hasAll [] args [.list .int]=sH:=(pre_splitW hpre).1
 have hc:l.pre.holds [] { args:=args }=sH:=(pre_splitW hpre).2
 obtain⟨d,r,rfl,h1,h2⟩:=hasAllW_cons hsh
 obtain rfl:=hasAllW_nil h2
 obtain⟨xs,rfl,h3⟩:=hasW_list h1
 obtain⟨ns,rfl⟩:=items_int h3
 have hlen:ns.length<=n:=by
  unfold OpenLaw.pre at hc
  have h4:(WTm.not (.lt (.lit (.int (n:Int))) (.len (.arg 0)))).holds [] { args:=[.list (ns.map .int)] }=sH:=by
   have h4:=(holds_andW hc).1
   rw[hn] at h4
   exact h4
  have h5:=condW_of h4 (w_not (w_lt w_lit (w_len_list (w_arg rfl))))
  rw[ae] at h5
  refine cT λq=>?_
  have q':(n:Int)<((ns.length:Nat):Int):=by lia
  first
   | (rw[decide_eq_true q'] at h5;exact absurd h5 (by decide))
   | (simp at h5;lia)
 cases hwl with
 | cons w1 w2 =>
  cases w2
  cases w1 with
  | list ho hall=>exact⟨_,_,ns,rfl,rfl,ho,qw ns _ hall,hlen⟩
theorem post_true(l:OpenLaw)(args:List WData):l.row.toRowW.claim.post args (.bool sH) args=sH :=
 postW_of (r:=l.row.toRowW) (X:=(sH == sH))
  (show WShape.has [] (.bool sH) .bool=sH by first | rfl | decide | simp [WShape.has,WShape.arms,WShape.armsAll])
  (show (WTm.eq .res (.lit (.bool sH))).value [] { args:=args,res:=sF (.bool sH),after:=args }=sF (.bool (sH == sH)) from w_eq_bool (w_res rfl) w_lit) rfl
section
variable{prog:oV}{w:oX}{A:oY}{E:oQ->oR->Prop}{s:oR}{K:Frag}
noncomputable def zcR(h:pb)(L d:oP):List (oP × pD):=(aY h.objs.size).filterMap λa=>if a=L\/a=d then sG else (h.get? a).map λo=>(a,o)
end
end Att
namespace L2
theorem Zn:∀{vs:List oQ} {ns:List Int},so vs ns->Vals (ns.map V.int) vs
 | _,_,.nil=>.nil
 | _,_,.cons n t h=>.cons ⟨t,rfl⟩ (Zn h)
end L2
namespace L2
end L2
namespace L2
noncomputable def xv(s:pc)(j:Nat):pc:=match s with
 | .ClassDef _ _ _ body _ _ _ _ _ _ _=>body.getD j (.Pass ⟨0,0,0,0⟩)
 | _=>.Pass ⟨0,0,0,0⟩
noncomputable def zm(s:pc):rq:=match s with
 | .FunctionDef _ a _ _ _ _ _ _ _ _=>a
 | _=>{ posonlyargs:=[],args:=[],vararg:=sG,kwonlyargs:=[],kw_defaults:=[],kwarg:=sG,defaults:=[] }
noncomputable def zk(s:pc):List pc:=match s with
 | .FunctionDef _ _ b _ _ _ _ _ _ _=>b
 | _=>[]
noncomputable def zb(s:pc):pK:=match s with
 | .FunctionDef _ _ _ _ _ _ sc _ _ _=>sc
 | _=>{ kind:=.function,names:=[],isGenerator:=sI,isCoroutine:=sI }
abbrev CX0:CXT:=λ_ _ _ _ _ _=>False
noncomputable abbrev E0:XK:=λ_ _ _=>False
theorem YI{X:Cx}:uG CX0 X E0:=λ_ _ _ _ _ _ _ h=>h.elim
structure Fun(K:oO)(x qual:oW)(st:pc)(f:oP)(fd:oU):Prop where
 ex:∃(oc:oQ) (od:Option oP) (kV doc pm:oQ) (an:Option oP) (cdv ct:oQ) (osl:Array (Option oQ)),
  fd=av x qual (zm st) (zk st) (zb st) .none kV doc pm an cdv ct/\K.lookup f=sF ⟨oc,od,.func fd,osl⟩/\ar K cdv qual=sH
 kp:aj K (.ref f)=sH
section
variable{P:oV}{w:oX}{K:oO}{mg:oW->Option oQ}{base:pb}
theorem Fun.ok{x qual:oW}{st:pc}{f:oP}{fd:oU}{N ps:List oW}{k:Nat}{sp:Sp}(F:Fun K x qual st f fd)(S:zq N ps (zb st))(len:∀vs H Q E,sp vs H Q E->vs.length=ps.length)
  (hbody:∀(cdv:oQ) (A:oY) (outer:List rL) (s:oR) (H:Hp) (vs:List V) (Q:VK) (E:XK),Room k (A.deeper (rn qual (zb st) s.heap.objs.size f cdv))->sp vs H Q E ->
   ∃t,PSs (qc CX0 P w K mg base N qual (zb st) f cdv A outer s H E).nox (zk st) t/\t { nx:=λ_ H'=>Q .non H',rt:=Q } (start N vs) H):FnOk P w K mg base CX0 (k+1) f fd ps sp:=by
 obtain⟨oc,od,kV,doc,pm,an,cdv,ct,osl,rfl,lk,hcd⟩:=F.ex
 refine Qm lk hcd S len λA outer s H vs Q E hr hsp=>?_
 obtain⟨t,h,q⟩:=hbody cdv A outer s H vs Q E hr hsp
 exact⟨t,h.nox,q⟩
theorem Fun.binds{x qual:oW}{st:pc}{f:oP}{fd:oU}{ps:List oW}(F:Fun K x qual st f fd)
  (h:∀(kV doc pm:oQ) (an:Option oP) (cdv ct:oQ) (us:List oQ),us.length=ps.length->bindArgs (av x qual (zm st) (zk st) (zb st) .none kV doc pm an cdv ct) ⟨us,[]⟩=pure (ps.zip us)):Binds K fd ps []:=by
 obtain⟨oc,od,kV,doc,pm,an,cdv,ct,osl,rfl,lk,hcd⟩:=F.ex
 exact .all (h kV doc pm an cdv ct)
theorem zE{x qual:oW}{st:pc}{f:oP}{oc:oQ}{od an:Option oP}{osl:Array (Option oQ)}{kV doc pm cdv ct:oQ}(l:K.lookup f=sF ⟨oc,od,.func (av x qual (zm st) (zk st) (zb st) .none kV doc pm an cdv ct),osl⟩)
  (c:ar K cdv qual=sH) (k:aj K (.ref f)=sH):Fun K x qual st f (av x qual (zm st) (zk st) (zb st) .none kV doc pm an cdv ct):=⟨⟨oc,od,kV,doc,pm,an,cdv,ct,osl,rfl,l,c⟩,k⟩
end
section
variable{X:Cx}
theorem pv(i:Nat){x:oW}{pos:pS}(hN:X.N[i]? = sF x:=by rfl)(hv:Vis X.env.scope x:=by first | exact Or.inl rfl | exact Or.inr (Or.inl rfl) | exact Or.inr (Or.inr rfl))(hd:(x == ("__debug__" : oW))=sI:=by decide)
  (hcd:(x == ("__classdict__" : oW))=sI:=by decide):PE X (.Name x pos) (xw i):=zbh hN hv hd hcd
end
theorem zdm{A B:Prop}(h:A):if sH=sH then A else B:=by
 rw[if_pos rfl]
 exact h
theorem xh{c A B:Prop}[Decidable c](h1:c->A)(h2:¬ c->B):if c then A else B:=by
 by_cases h:c
 ·rw[if_pos h]
  exact h1 h
 ·rw[if_neg h]
  exact h2 h
def Same(H H':Hp):Prop:=∀b o,H b=sF o->H' b=sF o
theorem Same.refl(H:Hp):Same H H:=λ_ _ h=>h
theorem Same.trans{H H1 H2:Hp}(a:Same H H1)(b:Same H1 H2):Same H H2:=λc o h=>b c o (a c o h)
theorem Same.free{H H':Hp}(e:Same H H'){l:oP}(h:H' l=Option.none):H l=Option.none:=by
 cases q:H l with
 | none=>rfl
 | some o =>
  rw[e l o q] at h
  cases h
theorem Same.seq{K:oO}{H H':Hp}{a:oP}{xs:List V}(e:Same H H')(h:SqL K H a xs):SqL K H' a xs:=by
 rcases h with (h | ⟨o,h⟩) | h
 ·exact .inl (.inl (e _ _ h))
 ·exact .inl (.inr ⟨o,e _ _ h⟩)
 ·exact .inr h
end L2
open L2
namespace L3
noncomputable abbrev St:=L2.St
noncomputable abbrev cs(x:oW):List Nat:=x.cps.toList
noncomputable abbrev tx(l:List Nat):oW:=⟨l.toArray⟩
theorem za9(x:oW):tx (cs x)=x:=by cases x;rfl
theorem Wh(l:List Nat):cs (tx l)=l:=rfl
theorem YS(x:oW):x.length=(cs x).length:=by simp [Str.length,cs]
theorem ye(l:List Nat):(tx l).length=l.length:=by simp [Str.length,tx]
theorem ZG{x y:oW}(h:cs x=cs y):x=y:=by rw[<- za9 x,<- za9 y,h]
theorem jK{l m:List Nat}(h:tx l=tx m):l=m:=by rw[<- Wh l,<- Wh m,h]
theorem zca{l m:List Nat}:tx l=tx m ↔ l=m:=⟨jK,λh=>by rw[h]⟩
theorem Ze(l m:List Nat):tx l ++ tx m=tx (l ++ m):=by
 apply ZG
 show (tx l ++ tx m).cps.toList=l ++ m
 rw[Str.cps_append]
 simp
noncomputable def cut{α:Type}(l:List α)(lo hi:Option Int):List α:=(l.drop (HT.sIx l.length 0 lo)).take (HT.sIx l.length l.length hi - HT.sIx l.length 0 lo)
theorem wX{α:Type}(l:List α)(lo hi:Option Int):(cut l lo hi).length<=l.length:=by
 unfold cut
 rw[aK,br]
 lia
theorem WZ(a b:Nat):sliceRange (a:Int) (b:Int) 1=(aY (b - a)).map (λk=>a+k):=by
 unfold sliceRange
 have e:(if (1:Int) > 0 then (if (a:Int)<b then ((b:Int) - a+1 - 1) / 1 else 0) else (if (a:Int) > b then ((a:Int) - b - 1 - 1) / (-1) else 0)).toNat=b - a:=by
  rw[if_pos (by decide)]
  by_cases h:(a:Int)<b
  ·rw[if_pos h,Int.ediv_one];lia
  ·rw[if_neg h];lia
 show (aY ((if (1:Int) > 0 then (if (a:Int)<b then ((b:Int) - a+1 - 1) / 1 else 0) else (if (a:Int) > b then ((a:Int) - b - 1 - 1) / (-1) else 0)).toNat)).map _=_
 rw[e]
 refine cF λk _=>?_
 lia
theorem KG(lo hi:Option Int)(n:Nat):Builtin.Str.strSliceIndices lo hi 1 n=(aY (HT.sIx n n hi - HT.sIx n 0 lo)).map (λk=>HT.sIx n 0 lo+k):=by
 rw[<- WZ]
 have clip:∀(v:Int) (d:Nat),max 0 (min (if v<0 then v+(n:Int) else v) (n:Int))=((HT.sIx n d (sF v):Nat):Int):=λv d=>by
  show _=(((if v<0 then (v+(n:Int)).toNat else min v.toNat n):Nat):Int)
  by_cases hv:v<0
  ·simp only[if_pos hv];lia
  ·simp only[if_neg hv];lia
 have h1:((1:Int) > 0)=True:=by simp
 unfold Builtin.Str.strSliceIndices
 cases lo with
 | none =>
  cases hi with
  | none=>simp only[h1,if_true];rfl
  | some j=>simp only[h1,if_true,clip j n];rfl
 | some i =>
  cases hi with
  | none=>simp only[h1,if_true,clip i 0];rfl
  | some j=>simp only[h1,if_true,clip i 0,clip j n]
theorem VU(x:oW)(lo hi:Option Int):Txt.slice x lo hi=tx (cut (cs x) lo hi):=by
 have hn:x.length=x.cps.toList.length:=YS x
 have hj:HT.sIx x.length x.length hi<=x.length:=HT.sIx_le _ _ (au _) hi
 have hi0:HT.sIx x.length 0 lo<=x.length:=HT.sIx_le _ _ (aJ _) lo
 unfold Txt.slice
 rw[KG]
 split
 ·rename_i h
  have h':HT.sIx x.length x.length hi - HT.sIx x.length 0 lo=x.length:=by simpa using h
  apply ZG
  show x.cps.toList=cut x.cps.toList lo hi
  unfold cut
  rw[<- hn]
  by_cases z:x.length=0
  ·have:x.cps.toList=[]:=dA (by lia)
   rw[this];simp
  ·have e0:HT.sIx x.length 0 lo=0:=by lia
   rw[e0] at h' ⊢
   rw[h',dI,hn,aQ]
 ·apply ZG
  have h:=StrLaws.picks x.cps.toList (HT.sIx x.length x.length hi - HT.sIx x.length 0 lo) (HT.sIx x.length 0 lo) (by lia)
  show (List.filterMap (λk=>x.cps[k]?) _).toArray.toList=cut x.cps.toList lo hi
  unfold cut
  rw[<- hn]
  simpa using h
section
variable{X:Cx}
theorem VE{v:oQ}{o:Option Int}(p:IsPart v o):∃l:Option (Int × rD),v=partValue l/\l.map (·.1)=o:=by
 cases p with
 | none=>exact⟨sG,rfl,rfl⟩
 | int i t=>exact⟨sF (i,t),rfl,rfl⟩
def zco:V->Option Int->Option Int->Hp->VK->Prop:=λx lo hi H Q=>∃z,x=.str z/\z.length<=oN/\Q (.str (tx (cut (cs z) lo hi))) H
theorem wC:SlR X zco:=by
 intro sJ s σ H x v vl vu lo hi sl Q I rx hs pl pu h
 obtain⟨z,rfl,hz,q⟩:=h
 obtain⟨t,rfl⟩:=rx
 obtain⟨l,rfl,el⟩:=VE pl
 obtain⟨u,rfl,eu⟩:=VE pu
 refine⟨"str",_,slot_str_getitem.lookup,typeIs_str s z t,?_⟩
 refine rE (l:=l) (u:=u) (st:=sG) hs rfl ?_
 have e:Txt.slice z lo hi=tx (cut (cs z) lo hi):=VU z lo hi
 have hl:(tx (cut (cs z) lo hi)).length<=oN:=by rw[ye];have:=wX (cs z) lo hi;rw[<- YS] at this;lia
 unfold sliceMade slicePicked
 rw[el,eu]
 unfold Txt.slice at e
 by_cases hc:((1:Int) == 1 && (Builtin.Str.strSliceIndices lo hi 1 z.length).length == z.length)=sH
 ·rw[if_pos hc] at e
  have hc':(((sG:Option (Int × rD)).map (·.1)).getD 1 == 1 && (Builtin.Str.strSliceIndices lo hi (((sG:Option (Int × rD)).map (·.1)).getD 1) z.length).length == z.length)=sH:=hc
  rw[if_pos hc']
  exact⟨.str (tx (cut (cs z) lo hi)),H,I,⟨t,by rw[<- e]⟩,q⟩
 ·rw[if_neg hc] at e
  have hc':¬ (((sG:Option (Int × rD)).map (·.1)).getD 1 == 1 && (Builtin.Str.strSliceIndices lo hi (((sG:Option (Int × rD)).map (·.1)).getD 1) z.length).length == z.length)=sH:=hc
  rw[if_neg hc']
  show (Str.mk ((Builtin.Str.strSliceIndices lo hi 1 z.length).filterMap (z.cps[·]?)).toArray).length<=oN/\_
  rw[e]
  refine⟨hl,?_⟩
  exact⟨.str (tx (cut (cs z) lo hi)),H,I.tok _,⟨_,by
   show Value.str (Str.mk ((Builtin.Str.strSliceIndices lo hi 1 z.length).filterMap (z.cps[·]?)).toArray) _=_
   rw[e]⟩,q⟩
theorem XG(l:List Nat):∀(k:Nat) (sL:Array Nat),((bp k l.toArray).foldl (· ++ ·) sL).toList=sL.toList ++ (bp k l).flatten
 | 0,sL=>by simp
 | k+1,sL=>by
  rw[cX,List.foldl_cons,XG l k,cX,List.flatten_cons]
  simp
theorem X4:OpR X (binaryOp .Mult) (λx y H Q=>∃z n,x=.str z/\y=.int n/\0<=n/\n<=1000/\z.length<=1000/\Q (.str (tx (bp n.toNat (cs z)).flatten)) H):=by
 intro sJ s σ H x y v u Q I rx ry h
 obtain⟨z,n,rfl,rfl,h0,h1,hz,q⟩:=h
 obtain⟨t,rfl⟩:=rx
 obtain⟨t',rfl⟩:=ry
 have hs:oN=16777216:=pA
 have hmul:z.length * n.toNat<=1000 * 1000:=Nat.mul_le_mul hz (by lia)
 have fl:((bp n.toNat (cs z)).flatten).length=n.toNat * z.length:=by rw[L2.len_rep,<- YS]
 refine PySem.P.mul_str ?_ (λ_ _=>?_) (λ_ _=>?_) ?_
 ·rw[decide_eq_false (by lia),decide_eq_false (by lia)];rfl
 ·have:(1000:Int)<=(2 ^ 63 - 1) / n:=by
   apply Int.le_ediv_of_mul_le (by lia)
   lia
  lia
 ·unfold Builtin.Str.tooLong
  exact decide_eq_false (by lia)
 ·by_cases c1:n<1
  ·rw[if_pos c1]
   have e:n.toNat=0:=by lia
   rw[e] at q
   exact⟨by decide,.str (tx []),H,I.tok _,⟨_,rfl⟩,q⟩
  ·rw[if_neg c1]
   by_cases c2:(n == 1 || z.length == 0)=sH
   ·rw[if_pos c2]
    have e:tx (bp n.toNat (cs z)).flatten=z:=by
     rw[Bool.or_eq_true] at c2
     rcases c2 with c | c
     ·have:n.toNat=1:=by have:=eq_of_beq c;lia
      rw[this]
      simp only[List.replicate_one,List.flatten_singleton]
     ·have c0:z.length=0:=eq_of_beq c
      have:cs z=[]:=dA (by rw[<- YS];exact c0)
      apply ZG
      rw[this]
      show (bp n.toNat ([]:List Nat)).flatten=[]
      simp only[List.flatten_replicate_nil]
    rw[e] at q
    exact⟨.str z,H,I,⟨_,rfl⟩,q⟩
   ·rw[if_neg c2]
    have e:(⟨(bp n.toNat z.cps).foldl (· ++ ·) #[]⟩:oW)=tx (bp n.toNat (cs z)).flatten:=by
     apply ZG
     have:=XG (cs z) n.toNat #[]
     have e2:(cs z).toArray=z.cps:=by cases z;rfl
     rw[e2] at this
     show (List.foldl (· ++ ·) #[] (bp n.toNat z.cps)).toList=(bp n.toNat (cs z)).flatten
     rw[this]
     rfl
    rw[e]
    refine⟨by rw[ye,fl,Nat.mul_comm];lia,.str _,H,I.tok _,⟨_,rfl⟩,q⟩
theorem VF:OpR X (ph .LtE) (λx y H Q=>∃i j,x=.str i/\y=.str j/\Q (.bl (!(decide (cs j<cs i)))) H):=by
 intro sJ s σ H x y v u Q I rx ry h
 obtain⟨i,j,rfl,rfl,q⟩:=h
 obtain⟨t,rfl⟩:=rx
 obtain⟨t',rfl⟩:=ry
 exact PySem.P.le_str ⟨.bl _,H,I,rfl,q⟩
theorem QL:MtR X "str.count" (λx xs H Q=>∃z y,x=.str z/\xs=[.str y]/\Q (.int (Txt.count z y)) H):=by
 intro sJ s σ H x xs v us Q I rx rv h
 obtain⟨z,y,rfl,rfl,q⟩:=h
 obtain⟨t,rfl⟩:=rx
 obtain⟨u,rfl,t',rfl⟩:=wP rv
 exact PySem.SC.count ⟨.int _,H,I.tok _,⟨_,rfl⟩,q⟩
end
end L3
namespace L3
section
variable{X:Cx}{sJ:List (oP × pD)}{σ:St}{H:Hp}{s:oR}{fp:List oP}{h':pb}{t':Nat}
theorem Inv.turns(I:Inv X sJ σ H s)(k:∀b o,b ∉ fp->s.heap.get? b=sF o->h'.get? b=sF o)(hf:∀b ∈ fp,xW X sJ H b):Inv X sJ σ H { s with heap:=h',toks:=t' }:=by
 have nit:∀b u,H b=sF u->b ∉ fp:=λb u e z=>by rw[(hf b z).1] at e;cases e
 refine I.step (g':=s.gens) (d':=s.drawn) (ch:=fp) (λb hb=>?_) (λb o _ _ hc e _=>k b o hc e) (λb o _ _ hc e _=>⟨o.slots,k b o hc e⟩) (λ_ _ _ _ n=>n)
  (λb o hc e=>⟨o,k b o hc e⟩) (λ_ _ e=>e) (λ_ _ _ e=>e) (λb ps e=>⟨#[],by rw[e];simp⟩) (λm hm=>?_) (λb u e=>?_) I.bare
 ·obtain⟨_,a1,_,a3,a4,a5⟩:=hf b hb
  exact⟨a3,a1,a4,a5⟩
 ·obtain⟨o,es,ep,ho,r⟩:=hm
  exact⟨o,es,ep,k _ o (λz=>(hf _ z).2.1 rfl) ho,r⟩
 ·refine (I.hok b u e).stay (λc v hc q=>k c v ?_ q) (λ_ q=>q) λ_ _ q=>q
  rcases hc with z | z
  ·rw[z];exact nit b u e
  ·exact nit c _ z
theorem Inv.track{a:oP}{o:HO}(I:Inv X sJ σ H s)(fa:xW X sJ H a)(new:ObjOk X.prog X.w (upd H a o) s.heap a o):Inv X sJ σ (upd H a o) s:=by
 obtain⟨a0,a1,a2,a3,a4,a5⟩:=fa
 have e:s={ s with heap:=s.heap,gens:=s.gens,drawn:=s.drawn,toks:=s.toks }:=rfl
 rw[e]
 refine I.step (g':=s.gens) (d':=s.drawn) (ch:=[a]) (λb hb=>?_) (λb o _ _ _ e _=>e) (λb o _ _ _ e _=>⟨o.slots,e⟩) (λb o hc _ n=>?_)
  (λb o _ e=>⟨o,e⟩) (λb xs e=>?_) (λb u xs e=>?_) (λb ps e=>?_) (λm hm=>hm) (λb u e=>?_) I.bare
 ·have eb:b=a:=by simpa using hb
  subst eb
  exact⟨a3,a1,a4,a5⟩
 ·rw[zo (by simpa using hc)];exact n
 ·rw[zo (zH e a0)];exact e
 ·rw[zo (zH e a0)];exact e
 ·exact⟨#[],by rw[zo (zH e a0),e];simp⟩
 ·by_cases hb:b=a
  ·subst hb;rw[zf] at e;cases e;exact new
  ·rw[zo hb] at e
   exact (I.hok b u e).stay (λc v _ q=>q) (λc q=>by rw[zo (zH q a0)];exact q) λc xs q=>by rw[zo (zH q a0)];exact q
end
noncomputable def Its(x:oW):It:=⟨λi _=>i<(cs x).length,λi H v H'=>H'=H/\∃c,(cs x)[i]? = sF c/\v=.str (tx [c]),λi _=>i=(cs x).length⟩
theorem UW{P:oV}{w:oX}{K:oO}{tg:oZ}{ty:String}(hty:["enumerate","zip","dict_itemiterator","dict_reverseitemiterator","odict_iterator","itertools.zip_longest","itertools.pairwise"].contains ty=sI)(it:oP)(x:oW)(t:rD)
  (W:∀A:oY,A.handled=sG->Walks P w A it [it] [it] x.cps.size (SignAt x) λi h=>h.IsStrIter it ty x t i)
  (S:∀(A:oY) (i:Nat) (s:oR) (Q:oQ->oR->Prop) (E:oQ->oR->Prop),s.heap.IsStrIter it ty x t i->Q (.ref it) s->oS (model P w) A (pyIter (.ref it)) Q E s) :
  Uz P w K tg (Its x) [it] it (λi h=>h.IsStrIter it ty x t i) where
 mem:=by simp
 obj:=λi h st b hb=>by
  have e:b=it:=by simpa using hb
  subst e
  obtain⟨o,e,c,d⟩:=st
  exact⟨o,e,λv z=>by rw[d] at z;cases z⟩
 keep:=λi h h' st k=>let ⟨o,e,r⟩:=st; ⟨o,k it (by simp) o e,r⟩
 item:=by
  intro X hP hw hK hc i sJ s σ H E I hf st hg
  subst hP hw hK
  obtain⟨f0,f1,f2,f3,f4,f5⟩:=hf it (by simp)
  have hg':i<x.cps.size:=by have:i<x.cps.toList.length:=hg;simpa using this
  refine (W X.A (I.ok.hd hc)).item i s _ _ hg' st λv h' tk hv st' kk=>?_
  obtain⟨c,u,hcc,rfl⟩:=hv
  have I1:Inv X sJ σ H { s with heap:=h',toks:=tk }:=I.turned (λb o hb e=>kk b o (by simpa using hb) e) f0 f1 f3 f4 f5
  obtain⟨o,e,cl,d⟩:=id st'
  refine⟨_,rfl,VM (s:={ s with heap:=h',toks:=tk }) e cl d hty ⟨.str (tx [c]),H,I1,⟨u,rfl⟩,⟨rfl,c,?_,rfl⟩,st',λb hb=>(hf b hb).1⟩⟩
  show x.cps.toList[i]? = sF c
  simpa using hcc
 done:=by
  intro X hP hw hK hc i sJ s σ H E I hf st hg
  subst hP hw hK
  obtain⟨f0,f1,f2,f3,f4,f5⟩:=hf it (by simp)
  have hi:i=x.cps.size:=by have:i=x.cps.toList.length:=hg;simpa using this
  rw[hi] at st
  exact (W X.A (I.ok.hd hc)).done s _ _ st λh' tk kk=>⟨rfl,I.turned (λb o hb e=>kk b o (by simpa using hb) e) f0 f1 f3 f4 f5⟩
 self:=λA i s Q E st h=>S A i s Q E st h
section
variable{X:Cx}{tg:oZ}
def zci(tl:TE):TI:=λσ H R=>tl σ H λv H1=>∃x,v=.str x/\R (Its x) H1
theorem Jn{l:oZ}{tl:TE}(hl:PE X l tl):PI X tg l (zci tl):=by
 intro sJ s σ H R I h
 refine thn (hl sJ s σ H _ I h) λv s1 ⟨y,H1,I1,r1,q1⟩=>?_
 obtain⟨x,e,q⟩:=q1
 subst e
 obtain⟨t,rfl⟩:=r1
 have fin:∀(ty:String) (hty:["enumerate","zip","dict_itemiterator","dict_reverseitemiterator","odict_iterator","itertools.zip_longest","itertools.pairwise"].contains ty=sI)
   (W:∀A:oY,A.handled=sG->Walks X.prog X.w A s1.heap.objs.size [s1.heap.objs.size] [s1.heap.objs.size] x.cps.size (SignAt x) λi h=>h.IsStrIter s1.heap.objs.size ty x t i)
   (S:∀(A:oY) (i:Nat) (s:oR) (Q:oQ->oR->Prop) (E:oQ->oR->Prop),s.heap.IsStrIter s1.heap.objs.size ty x t i->Q (.ref s1.heap.objs.size) s->oS (model X.prog X.w) A (pyIter (.ref s1.heap.objs.size)) Q E s),
   PIE X sJ σ tg R (.ref s1.heap.objs.size) { s1 with heap:=s1.heap.push { cls:=.type ty,data:=.fields #[.str x t,.int 0 0] } }:=λty hty W S=>by
  refine⟨s1.heap.objs.size,[s1.heap.objs.size],_,_,H1,rfl,I1.kept (t':=s1.toks) λb o e=>aa _ e,UW hty _ x t W S,⟨_,aI _ rfl,rfl,rfl⟩,λb hb=>?_,q⟩
  have e:b=s1.heap.objs.size:=by simpa using hb
  subst e
  exact I1.fpOk (au _) (I1.hok.fresh (au _))
 cases ha:x.cps.all (· < 128)
 ·exact wpAny_pyIter_wide ha (fin "str_iterator" (by decide) (λA hA=>Walks.strWide hA _ x t) λA i s Q E st h=>wpAny_pyIter_striter_wide st h)
 ·exact wpAny_pyIter_ascii ha (fin "str_ascii_iterator" (by decide) (λA hA=>Walks.strAscii hA _ x t) λA i s Q E st h=>wpAny_pyIter_striter_ascii st h)
end
theorem JJ{x:oW}{g:TG}{tb:TS}{D:vk}{σ:St}{H:Hp}(Pv:Nat->St->Hp->Prop)(h0:Pv 0 σ H)
  (hs:∀i c σ H,(cs x)[i]? = sF c->Pv i σ H->g (.str (tx [c])) σ H λσ2 H2=>tb { D with nx:=Pv (i+1),ct:=Pv (i+1),bk:=D.nx } σ2 H2) (hd:∀σ H,Pv (cs x).length σ H->D.nx σ H) :
  ∃W:Nat->Nat->St->Hp->Prop,(∃m,W 0 m σ H)/\∀i m σ H,W i m σ H ->
   ((Its x).stop i H/\D.nx σ H)\/((Its x).go i H/\∃N:St->Hp->Prop,(∀σ' H',N σ' H'->∃m',m'<m/\W (i+1) m' σ' H')/\∀v H',(Its x).yld i H v H'->g v σ H' λσ2 H2=>tb { D with nx:=N,ct:=N,bk:=D.nx } σ2 H2):=by
 refine⟨λi m σ H=>m=(cs x).length - i/\i<=(cs x).length/\Pv i σ H,⟨(cs x).length,by simp,aJ _,h0⟩,?_⟩
 rintro i m σ H ⟨rfl,hi,p⟩
 by_cases hlt:i<(cs x).length
 ·refine .inr ⟨hlt,Pv (i+1),λσ' H' p'=>⟨(cs x).length - (i+1),by lia,rfl,hlt,p'⟩,λv H' y=>?_⟩
  obtain⟨e,c,hc,ev⟩:=y
  subst e ev
  exact hs i c σ _ hc p
 ·have e:i=(cs x).length:=by lia
  subst e
  exact .inl ⟨rfl,hd σ H p⟩
noncomputable def Ite(x:oW):It:=⟨λi _=>i<(cs x).length,λi H v H'=>∃p c,H p=sG/\(cs x)[i]? = sF c/\v=.ref p/\H'=upd H p (.tup [.int (i:Nat),.str (tx [c])]),λi _=>i=(cs x).length⟩
section
variable{X:Cx}
def zbD(ta:TA):TI:=λσ H R=>ta σ H λvs H1=>∃x,vs=[.str x]/\R (Ite x) H1
end
end L3
namespace L3
theorem uu{env:rL}:∀(names:List (oW × rm)) (sL:List (oW × oP)),
    (∀y,(y,NameKind.free) ∈ names->∃c,env.cells.lookup y=sF c)->(∀y c,sL.lookup y=sF c->env.cells.lookup y=sF c) ->
    ∃cl,(forIn names sL λ(x:oW × rm) (cs:List (oW × oP))=>if (x.2 == NameKind.free)=sH then (do let a <- cellOf env x.1;pure (ForInStep.yield ((x.1,a)::cs))) else pure (ForInStep.yield cs):sx (List (oW × oP)))=pure cl /\
      (∀y c,cl.lookup y=sF c->env.cells.lookup y=sF c)/\(∀y,(y,NameKind.free) ∈ names\/(sL.lookup y).isSome=sH->∃c,cl.lookup y=sF c)
  | [],sL,_,ha=>⟨sL,rfl,ha,λy h=>by
      rcases h with h | h
      . cases h
      . exact Option.isSome_iff_exists.mp h⟩
  | (n,k)::r,sL,hn,ha=>by
    by_cases hk:k=NameKind.free
    . subst hk
      obtain⟨c,hc⟩:=hn n (by simp)
      have ha':∀y d,((n,c)::sL).lookup y=sF d->env.cells.lookup y=sF d:=λy d e=>by
        rw[aW] at e
        by_cases hy:(y == n)=sH
        . rw[hy] at e
          have:y=n:=eq_of_beq hy
          subst this
          cases e
          exact hc
        . have hy':(y == n)=sI:=by simpa using hy
          rw[hy'] at e
          exact ha y d e
      obtain⟨cl,e,h1,h2⟩:=uu r ((n,c)::sL) (λy hy=>hn y (aw _ hy)) ha'
      refine⟨cl,?_,h1,λy hy=>h2 y ?_⟩
      . rw[db]
        have ec:cellOf env n=pure c:=by unfold cellOf;rw[hc]
        simp only[beq_self_eq_true,if_true,ec,pure_bind]
        exact e
      . rcases hy with hy | hy
        . rcases List.mem_cons.mp hy with q | q
          . cases q
            exact .inr (by simp)
          . exact .inl q
        . refine .inr ?_
          rw[aW]
          by_cases hyn:(y == n)=sH
          . rw[hyn];rfl
          . have hy':(y == n)=sI:=by simpa using hyn
            rw[hy'];exact hy
    . obtain⟨cl,e,h1,h2⟩:=uu r sL (λy hy=>hn y (aw _ hy)) ha
      refine⟨cl,?_,h1,λy hy=>h2 y ?_⟩
      . rw[db]
        have ek:(k == NameKind.free)=sI:=by simpa using hk
        simp only[ek,bO,if_false,pure_bind]
        exact e
      . rcases hy with hy | hy
        . rcases List.mem_cons.mp hy with q | q
          . cases q;exact absurd rfl hk
          . exact .inl q
        . exact .inr hy
theorem ww{scope:pK}{env:rL}(hn:∀y,(y,NameKind.free) ∈ scope.names->∃c,env.cells.lookup y=sF c) :
  ∃cl,closureFor scope env=pure cl/\(∀y c,cl.lookup y=sF c->env.cells.lookup y=sF c)/\(∀y,(y,NameKind.free) ∈ scope.names->∃c,cl.lookup y=sF c):=by
 obtain⟨cl,e,h1,h2⟩:=uu scope.names [] hn (λy c h=>by cases h)
 refine⟨cl,?_,h1,λy hy=>h2 y (.inl hy)⟩
 unfold closureFor
 simp only[bind_pure]
 exact e
noncomputable abbrev V9(ifs:List oZ)(env:rL):sx Bool :=
 forIn ifs sH λc r=>if r=sH then (do let ok <- isTrue c env (eval c env);pure (ForInStep.yield ok)) else pure (ForInStep.yield r)
theorem ZN{prog:oV}{w:oX}{A:oY}{R:rR->oR->Prop}{s:oR}{elt tg iter:oZ}{ifs:List oZ}{scope:pK}{pos:pS}{it sL:oQ}{env:rL}
  (I:Nat->oR->Prop) {EE:oQ->oR->Prop} (hEE:EE=notedBy (model prog w) A env λe s'=>R (.error e) s')
  (turn:∀n s,I n s->oS (model prog w) A (pyNext it) (λr s1=>match r with
   | none=>R (.ok .next) s1
   | some v=>oS (model prog w) A (letOwnedTupleGo tg it v) (λ_ s2=>oS (model prog w) A (assign tg env v) (λ_ s3 =>
     oS (model prog w) A (V9 ifs env) (λok s4=>if ok=sH then
      oS (model prog w) A (eval elt env) (λx s5=>oS (model prog w) A (call (.builtin "list.append") [sL,x]) (λ_ s6=>∃m,m<n/\I m s6) EE s5) EE s4
      else ∃m,m<n/\I m s4) EE s3) EE s2) EE s1) EE s) (n:Nat) (h:I n s) :
  pO (model prog w) A (.compLoop (.ListComp elt [⟨tg,iter,ifs,0⟩] scope pos) 0 it sL env) R s:=by
 subst hEE
 refine codeAny_loop rfl I (λn s hI=>?_) n h
 show oS _ A ((compTurn (.ListComp elt [⟨tg,iter,ifs,0⟩] scope pos) 0 it sL env).onRaise (λx=>do noteFrame x env;theTreesLotGoes x)) _ _ s
 refine wpAny_noted ?_
 rw[compTurn_list]
 refine oH (pN (oH (thn (turn n s hI) λr s1 h1=>?_)))
 cases r with
 | none=>exact oJ h1
 | some v =>
  refine oH (thn h1 λ_ s2 h2=>oH (thn h2 λ_ s3 h3=>oH (thn h3 λok s4 h4=>?_)))
  cases ok with
  | false=>exact oJ ⟨rfl,h4⟩
  | true=>exact oH (oH (thn h4 λx s5 h5=>oH (thn h5 λ_ s6 h6=>oJ (oJ ⟨rfl,h6⟩))))
noncomputable def yh(X:Cx)(scope:pK)(cl:List (oW × oP))(C:oP)(N:List oW)(sJ:List (oP × pD))(s3:oR)(H3:Hp)(fp:List oP)(E:oQ->oR->Prop):Cx :=
 { X with N:=N,s₀:=s3,H₀:=H3,env:=compEnvC scope cl C X.env,outer:=X.stack,ex:=fp,fn:=λ_=>sI,pn:=X.pn ++ sJ,xe:=E }
noncomputable def vo(σ:St)(own:Nat)(ix:List Nat):St:=bp own sG ++ ix.map λi=>(σ[i]?).join
structure qQ(X:Cx)(scope:pK)(own caps:List oW)(ix:List Nat):Prop where
 kind:scope.kind=.function
 nocell:∀y ∈ scope.names,y.2≠.cell
 names:∀y ∈ scope.names,y.2=.local->scope.names.lookup y.1=sF .local
 free:∀y,(y,NameKind.free) ∈ scope.names->X.env.kindOf y=sF .cell
 hown:∀y ∈ own,scope.names.lookup y=sF .local
 hcaps:∀y ∈ caps,scope.names.lookup y=sF .free
 hix:ix.map (λi=>X.N[i]?)=caps.map sF
theorem wd{α β:Type}[BEq α][LawfulBEq α]{l:List (α × β)}{a:α}{b:β}(h:l.lookup a=sF b):(a,b) ∈ l:=by
 induction l with
 | nil=>cases h
 | cons p r ih =>
  obtain⟨c,d⟩:=p
  rw[aW] at h
  by_cases e:(a == c)=sH
  ·rw[e] at h
   cases h
   rw[eq_of_beq e]
   exact az
  ·have e':(a == c)=sI:=by simpa using e
   rw[e'] at h
   exact aw _ (ih h)
theorem vm{scope:pK}{env:rL}(hf:env.scope.kind=.function):∀{names:List (oW × rm)} {x:oW} {k:rm},names.lookup x=sF k ->
    (names.map λ(n,k)=>if (k == NameKind.free && env.scope.kind == .function && env.kindOf n == sF .cell) then (n,NameKind.cell) else (n,k)).lookup x=sF (if (k == NameKind.free && env.scope.kind == .function && env.kindOf x == sF .cell)=sH then .cell else k)
  | [],_,_,h=>by simp at h
  | (n,k')::r,x,k,h=>by
    have ih:=@vm scope env hf r x k
    show bq x ((if (k' == NameKind.free && env.scope.kind == .function && env.kindOf n == sF .cell)=sH then (n,NameKind.cell) else (n,k'))::_)=_
    by_cases hx:(x == n)=sH
    . have hxn:x=n:=eq_of_beq hx
      subst hxn
      rw[aW,hx] at h
      cases h
      by_cases c:(k' == NameKind.free && env.scope.kind == .function && env.kindOf x == sF .cell)=sH
      . rw[if_pos c,if_pos c,aW,hx]
      . rw[if_neg c,if_neg c,aW,hx]
    . have hx':(x == n)=sI:=by simpa using hx
      rw[aW,hx'] at h
      by_cases c:(k' == NameKind.free && env.scope.kind == .function && env.kindOf n == sF .cell)=sH
      . rw[if_pos c,aW,hx'];exact ih h
      . rw[if_neg c,aW,hx'];exact ih h
theorem uH{scope:pK}{env:rL}:∀{names:List (oW × rm)} {x:oW},names.lookup x=sG ->
    (names.map λ(n,k)=>if (k == NameKind.free && env.scope.kind == .function && env.kindOf n == sF .cell) then (n,NameKind.cell) else (n,k)).lookup x=sG
  | [],_,_=>rfl
  | (n,k')::r,x,h=>by
    have ih:=@uH scope env r x
    show bq x ((if (k' == NameKind.free && env.scope.kind == .function && env.kindOf n == sF .cell)=sH then (n,NameKind.cell) else (n,k'))::_)=_
    by_cases hx:(x == n)=sH
    . rw[aW,hx] at h;cases h
    . have hx':(x == n)=sI:=by simpa using hx
      rw[aW,hx'] at h
      by_cases c:(k' == NameKind.free && env.scope.kind == .function && env.kindOf n == sF .cell)=sH
      . rw[if_pos c,aW,hx'];exact ih h
      . rw[if_neg c,aW,hx'];exact ih h
section
variable{X:Cx}{scope:pK}{own caps:List oW}{ix:List Nat}{cl:List (oW × oP)}{sJ:List (oP × pD)}{σ:St}{H:Hp}{s:oR}{fp:List oP}{E:oQ->oR->Prop}
theorem jH(S:qQ X scope own caps ix)(hcl1:∀y c,cl.lookup y=sF c->X.env.cells.lookup y=sF c)(hcl2:∀y,(y,NameKind.free) ∈ scope.names->∃c,cl.lookup y=sF c)
  (I:Inv X sJ σ H s) (hfp:∀b ∈ fp,xW X sJ H b) (hlt:∀b ∈ fp,b<s.heap.objs.size) {h4:pb} {t4:Nat} (hn:h4.Ns s.heap.objs.size λ_=>sG) (hk:∀b o,s.heap.get? b=sF o->h4.get? b=sF o) :
  Inv (yh X scope cl s.heap.objs.size (own ++ caps) sJ s H fp E) [] (vo σ own.length ix) H { s with heap:=h4,toks:=t4 }:=by
 have kf:X.env.scope.kind=.function:=I.ok.kind
 have nofp:∀b ∈ fp,b≠s.heap.objs.size:=λb hb=>aE (hlt b hb)
 have cellLt:∀x c,X.env.cells.lookup x=sF c->c<s.heap.objs.size:=λx c e=>by
  obtain⟨v,o,ho,_⟩:=I.cell x c e
  exact ay ho
 have kinds:∀y k,scope.names.lookup y=sF k->(relabel scope X.env).names.lookup y=sF (if (k == NameKind.free && X.env.scope.kind == .function && X.env.kindOf y == sF .cell)=sH then .cell else k):=λy k e=>vm (scope:=scope) kf e
 have back:∀y k,(relabel scope X.env).names.lookup y=sF k->∃k',scope.names.lookup y=sF k'/\k=(if (k' == NameKind.free && X.env.scope.kind == .function && X.env.kindOf y == sF .cell)=sH then .cell else k'):=λy k e=>by
  cases q:scope.names.lookup y with
  | none =>
   have:=uH (scope:=scope) (env:=X.env) q
   have e':(scope.names.map λ(n,k)=>if (k == NameKind.free && X.env.scope.kind == .function && X.env.kindOf n == sF .cell) then (n,NameKind.cell) else (n,k)).lookup y=sF k:=e
   rw[this] at e';cases e'
  | some k' =>
   refine⟨k',rfl,?_⟩
   have:=kinds y k' q
   rw[e] at this
   exact Option.some.inj this
 have isCell:∀y,scope.names.lookup y=sF .free->(relabel scope X.env).names.lookup y=sF .cell:=λy e=>by
  have:=kinds y _ e
  rw[this,if_pos]
  rw[S.free y (wd e),kf]
  rfl
 refine⟨⟨I.ok.mod,?_,I.ok.glob,I.ok.blt,au _,?_,?_,?_,I.ok.hd,I.ok.frames,.inl rfl,?_,I.bs,aO I.ok.bsz I.sz,?_,?_,I.stack,I.stkFree⟩,rfl,I.bare,Un.kept hk,⟨_,hn,?_⟩,?_,?_,?_,?_,I.hok.kept hk,?_⟩
 ·show (relabel scope X.env).kind=.function
  exact S.kind
 ·intro x y c h1 h2
  exact I.ok.inj x y c (hcl1 x c h1) (hcl1 y c h2)
 ·intro y hy
  have hy':(relabel scope X.env).names.lookup y=sF .cell\/(relabel scope X.env).names.lookup y=sF .free:=hy
  have:scope.names.lookup y=sF .free:=by
   rcases hy' with q | q
   ·obtain⟨k',e,ek⟩:=back y _ q
    by_cases c:(k' == NameKind.free && X.env.scope.kind == .function && X.env.kindOf y == sF .cell)=sH
    ·rw[cE,cE] at c
     rw[e,eq_of_beq c.1.1]
    ·rw[if_neg c] at ek
     exact absurd ek.symm (S.nocell _ (wd e))
   ·obtain⟨k',e,ek⟩:=back y _ q
    by_cases c:(k' == NameKind.free && X.env.scope.kind == .function && X.env.kindOf y == sF .cell)=sH
    ·rw[if_pos c] at ek;cases ek
    ·rw[if_neg c] at ek
     rw[e,<- ek]
  exact hcl2 y (wd this)
 ·intro x c h _
  exact absurd h (by simp [yh])
 ·intro b hb
  refine⟨nofp b hb,λx c e=>?_⟩
  exact (hfp b hb).2.2.2.2.1 x c (hcl1 x c e)
 ·intro b o e hb
  obtain⟨_,_,_,q,_⟩:=hfp b hb
  rcases q with q | q
  ·exact I.ok.noex b o e q
  ·exact absurd (aD (ay e) (aO I.ok.bsz q)) (cI _)
 ·intro b hb z
  rcases List.mem_cons.mp (I.stkSub b z) with e | e
  ·exact (hfp b hb).2.1 e
  ·exact (hfp b hb).2.2.1 e
 ·intro i y v h1 h2 h3
  have hi:own.length<=i:=by
   refine cT λhlt'=>?_
   unfold vo at h2
   rw[bY (by rw[cr];exact hlt'),eg,if_pos hlt'] at h2
   cases h2
  have h1':caps[i - own.length]? = sF y:=by
   have:(own ++ caps)[i]? = sF y:=h1
   rw[bS hi] at this
   exact this
  have h2':(ix.map λi=>(σ[i]?).join)[i - own.length]? = sF (sF v):=by
   unfold vo at h2
   rw[bS (by rw[cr];exact hi),cr] at h2
   exact h2
  rw[aG] at h2'
  have hx:=congrArg (λl=>l[i - own.length]?) S.hix
  simp only[aG,h1',Option.map_some] at hx
  cases q:ix[i - own.length]? with
  | none=>rw[q] at h2';cases h2'
  | some j =>
   rw[q] at h2' hx
   have hj:X.N[j]? = sF y:=Option.some.inj hx
   have hv:(σ[j]?).join=sF v:=Option.some.inj h2'
   have hσ:σ[j]? = sF (sF v):=by
    cases r:σ[j]? with
    | none=>rw[r] at hv;cases hv
    | some z=>rw[r] at hv;cases z with
     | none=>cases hv
     | some z=>cases hv;rfl
   have hfree:scope.names.lookup y=sF .free:=S.hcaps y (af h1')
   have hkc:=S.free y (wd hfree)
   obtain⟨m,hm,hl⟩:=I.loc
   obtain⟨u,ru,l⟩:=hl j y v hj hσ (.inr (.inl hkc))
   refine⟨u,ru,.inr ⟨.inl (isCell y hfree),?_⟩⟩
   rcases l with ⟨k,_⟩ | ⟨_,c,e,z⟩
   ·have:X.env.kindOf y=sF .local:=k
    rw[hkc] at this;cases this
   ·obtain⟨c',e'⟩:=hcl2 y (wd hfree)
    have:=hcl1 y c' e'
    rw[e] at this
    cases this
    obtain⟨o,ho,hd⟩:=z
    exact⟨c,e',o,hk c o ho,hd⟩
 ·intro x c e
  obtain⟨v,o,ho,hd⟩:=I.cell x c (hcl1 x c e)
  exact⟨v,o,hk c o ho,hd⟩
 ·exact I.hok.fresh (au _)
 ·intro x c e
  exact I.freeC x c (hcl1 x c e)
 ·intro p hp
  have hp':p ∈ X.pn ++ sJ:=by
   have:p ∈ (X.pn ++ sJ) ++ []:=hp
   rwa [aS] at this
  obtain⟨e,n,ne,nf,d⟩:=I.pin p hp'
  refine⟨hk _ _ e,n,?_,λz=>?_,d⟩
  ·exact aE (ay e)
  ·rcases List.mem_cons.mp (I.stkSub p.1 z) with q | q
   ·exact ne q
   ·exact nf q
 ·show (vo σ own.length ix).length=(own ++ caps).length
  have:=congrArg eJ S.hix
  rw[ae,ae] at this
  unfold vo
  rw[am,cr,ae,am,this]
end
end L3
namespace L3
def xt(σ σ':St):Prop:=σ.length=σ'.length/\∀(i:Nat) v,σ[i]? = sF (sF v)->σ'[i]? = sF (sF v)
def PTs(X:Cx)(ifs:List oZ)(t:TT):Prop :=
 ∀(sJ:List (oP × pD)) (s:oR) (σ:St) (H:Hp) (Q:Bool->Hp->Prop),Inv X sJ σ H s->t σ H Q->oS (model X.prog X.w) X.A (V9 ifs X.env) (TP X sJ σ Q) X.xe s
def vS:TT:=λ_ H Q=>Q sH H
theorem xu{X:Cx}:PTs X [] vS:=λ_ _ _ H _ I h=>oJ ⟨H,I,h⟩
theorem V4{X:Cx}{c:oZ}{t:TT}(h:PT X c t):PTs X [c] t:=λsJ s σ H Q I hq=>by
 show oS _ _ (forIn [c] sH _) _ _ s
 simp only[db,eO,if_true]
 exact oH (oH (thn (h sJ s σ H Q I hq) λb s' hb=>oJ (oJ hb)))
def kB(wi:TI)(g:TG)(tt:TT)(te:TE)(own:Nat)(ix:List Nat):TE:=λσ H Q=>wi σ H λJ H1=>∀D,H1 D=sG->∃W:Nat->Nat->List V->Hp->Prop,(∃m,W 0 m [] (upd H1 D (.lst []))) /\
 ∀i m sL H',W i m sL H'->(J.stop i H'/\Q (.ref D) H')\/(J.go i H'/\∀x H2,J.yld i H' x H2->g x (vo σ own ix) H2 λσ3 H3=>xt (vo σ own ix) σ3/\tt σ3 H3 λb H4=>if b=sH then
  te σ3 H4 λv H5=>H5 D=sF (.lst sL)/\sL.length<oN/\∃m',m'<m/\W (i+1) m' (sL ++ [v]) (upd H5 D (.lst (sL ++ [v])))
  else ∃m',m'<m/\W (i+1) m' sL H4)
theorem Un.but{fs ex:List oP}{H H':Hp}{h h1 h2:pb}{a:oP}(u:Un fs ex H H' h h1)(sb:Heap.SameBut a h1 h2)(ha:h.get? a=sG):Un fs ex H H' h h2:=by
 have ne:∀b o,h.get? b=sF o->b≠a:=λb o e z=>by subst z;rw[ha] at e;cases e
 refine⟨λb o e n hb hx=>(sb.2 b (ne b o e)).trans (u.keep b o e n hb hx),λb o e n hb hx=>?_,u.free,λb o e hx=>?_,u.tups,u.frzs,u.tbls⟩
 ·obtain⟨sl,q⟩:=u.slot b o e n hb hx
  exact⟨sl,(sb.2 b (ne b o e)).trans q⟩
 ·obtain⟨o',q⟩:=u.there b o e hx
  exact⟨o',(sb.2 b (ne b o e)).trans q⟩
theorem HOk.but{P:oV}{w:oX}{H:Hp}{h1 h2:pb}{a:oP}(ok:HOk P w H h1)(sb:Heap.SameBut a h1 h2)(ha:H a=sG):HOk P w H h2:=λb ob e=>by
 refine (ok b ob e).stay (λc u hc q=>(sb.2 c ?_).trans q) (λ_ q=>q) λ_ _ q=>q
 rintro rfl
 rcases hc with rfl | hc
 ·rw[ha] at e;cases e
 ·rw[ha] at hc;cases hc
section
variable{X:Cx}{scope:pK}{own caps:List oW}{ix:List Nat}{elt tg iter:oZ}{ifs:List oZ}{pos:pS}{wi:TI}{g:TG}{tt:TT}{te:TE}
theorem jS(hc:X.calm=sH)(S:qQ X scope own caps ix)
  (hg:∀cl C sJ s3 H3 fp,PG (yh X scope cl C (own ++ caps) sJ s3 H3 fp λ_ _=>False) tg g)
  (ht:∀cl C sJ s3 H3 fp,PTs (yh X scope cl C (own ++ caps) sJ s3 H3 fp λ_ _=>False) ifs tt)
  (he:∀cl C sJ s3 H3 fp,PE (yh X scope cl C (own ++ caps) sJ s3 H3 fp λ_ _=>False) elt te)
  {cl:List (oW × oP)} (hc1:∀y c,cl.lookup y=sF c->X.env.cells.lookup y=sF c) (hc2:∀y,(y,NameKind.free) ∈ scope.names->∃c,cl.lookup y=sF c)
  {sJ:List (oP × pD)} {σ:St} {H2:Hp} {s2:oR} {Q:VK} {it:oP} {fp:List oP} {tn:Nat->pb->Prop} {J:It} (I2:Inv X sJ σ H2 s2) (T:Uz X.prog X.w X.K tg J fp it tn) (st2:tn 0 s2.heap) (f2:∀b ∈ fp,xW X sJ H2 b)
  (q:∀D,H2 D=sG->∃W:Nat->Nat->List V->Hp->Prop,(∃m,W 0 m [] (upd H2 D (.lst []))) /\
   ∀i m sL H',W i m sL H'->(J.stop i H'/\Q (.ref D) H')\/(J.go i H'/\∀x H2,J.yld i H' x H2->g x (vo σ own.length ix) H2 λσ3 H3=>xt (vo σ own.length ix) σ3/\tt σ3 H3 λb H4=>if b=sH then
    te σ3 H4 λv H5=>H5 D=sF (.lst sL)/\sL.length<oN/\∃m',m'<m/\W (i+1) m' (sL ++ [v]) (upd H5 D (.lst (sL ++ [v])))
    else ∃m',m'<m/\W (i+1) m' sL H4))
  {RR:oQ->oP->rR->oR->Prop} {E:oQ->oR->Prop}
  (hRR:∀D C m s' H',H2 D=sG->s'.heap.Ns C m->xW X sJ H' C->Inv X sJ σ H' s'->Q (.ref D) H'->RR (.ref D) C (.ok .next) s') :
  oS (model X.prog X.w) X.A (newList []) (λsL s3=>oS (model X.prog X.w) X.A (newFunctionEnv scope X.env.globals cl [] X.env.qual sG .none (sF X.env)) (λcenv s4 =>
   pO (model X.prog X.w) X.A (.compStart (.ListComp elt [⟨tg,iter,ifs,0⟩] scope pos) 0 (.ref it) sL { cenv with scope:=relabel scope X.env }) (RR sL cenv.locals) s4) E s3) E s2:=by
 have hD:H2 s2.heap.objs.size=sG:=I2.hok.fresh (au _)
 obtain⟨W,⟨m0,w0⟩,turn⟩:=q _ hD
 refine rB (rh S.nocell (by intro y hy;simp at hy) (λh1 hns1 hsb1=>?_) S.kind)
 dsimp only at hns1 hsb1 ⊢
 have I3:Inv X sJ σ (upd H2 s2.heap.objs.size (.lst [])) { s2 with heap:=s2.heap.push { cls:=.type "list",dict:=sG,data:=.seq ([]:List oQ).toArray } } :=
  I2.lnew (its:=[]) (t':=s2.toks) .nil (aJ _)
 generalize hs3:({ s2 with heap:=s2.heap.push { cls:=.type "list",dict:=sG,data:=.seq ([]:List oQ).toArray } }:oR)=s3 at I3
 have e3:s2.heap.push { cls:=.type "list",dict:=sG,data:=.seq ([]:List oQ).toArray }=s3.heap:=by rw[<- hs3]
 rw[e3] at hns1 hsb1 ⊢
 have k1:∀b o,s3.heap.get? b=sF o->h1.get? b=sF o:=λb o e=>(hsb1.2 b (aE (ay e))).trans (aa _ e)
 have k23:∀b o,s2.heap.get? b=sF o->s3.heap.get? b=sF o:=λb o e=>by rw[<- e3];exact aa _ e
 have hz:s3.heap.objs.size=s2.heap.objs.size+1:=by rw[<- e3,bH]
 have fpObj:∀b ∈ fp,∃o,s2.heap.get? b=sF o:=λb hb=>let ⟨o,e,_⟩:=T.obj 0 _ st2 b hb; ⟨o,e⟩
 have fplt:∀b ∈ fp,b<s2.heap.objs.size:=λb hb=>let ⟨o,e⟩:=fpObj b hb;ay e
 have f3:∀b ∈ fp,xW X sJ (upd H2 s2.heap.objs.size (.lst [])) b:=λb hb=>⟨by rw[zo (aE (fplt b hb))];exact (f2 b hb).1,(f2 b hb).2⟩
 have I4:Inv (yh X scope cl s3.heap.objs.size (own ++ caps) sJ s3 (upd H2 s2.heap.objs.size (.lst [])) fp λ_ _=>False) [] (vo σ own.length ix) (upd H2 s2.heap.objs.size (.lst [])) { s3 with heap:=h1,toks:=s3.toks+([]:List (oW × oQ)).length } :=
  jH S hc1 hc2 I3 f3 (λb hb=>by rw[hz];exact ci (fplt b hb)) hns1 k1
 have st4:tn 0 h1:=T.keep 0 _ _ st2 λb hb o e=>k1 b o (k23 b o e)
 generalize hs4:({ s3 with heap:=h1,toks:=s3.toks+([]:List (oW × oQ)).length }:oR)=s4 at I4
 have es4:({ s2 with heap:=h1,toks:=s2.toks+([]:List (oW × oQ)).length }:oR)=s4:=by rw[<- hs4,<- hs3]
 have e4:h1=s4.heap:=by rw[<- hs4]
 have loop:pO (model X.prog X.w) X.A (.compLoop (.ListComp elt [⟨tg,iter,ifs,0⟩] scope pos) 0 (.ref it) (.ref s2.heap.objs.size) (compEnvC scope cl s3.heap.objs.size X.env)) (RR (.ref s2.heap.objs.size) s3.heap.objs.size) s4:=by
  let X':=yh X scope cl s3.heap.objs.size (own ++ caps) sJ s3 (upd H2 s2.heap.objs.size (.lst [])) fp λ_ _=>False
  have fp':∀{H':Hp},(∀b ∈ fp,H' b=sG)->∀b ∈ fp,xW X' [] H' b:=λ{H'} hn b hb=>by
   obtain⟨_,a1,a2,a3,a4,a5⟩:=f3 b hb
   refine⟨hn b hb,aE (show b<s3.heap.objs.size from by rw[hz];exact ci (fplt b hb)),λz=>?_,.inl hb,λx c e=>a4 x c (hc1 x c e),λp hp=>?_⟩
   ·rcases List.mem_cons.mp (I3.stkSub b z) with e | e
    ·exact a1 e
    ·exact a2 e
   ·have:p ∈ (X.pn ++ sJ) ++ []:=hp
    rw[aS] at this
    exact a5 p this
  refine ZN (λn s'=>∃i sL H',Inv X' [] (vo σ own.length ix) H' s'/\tn i s'.heap/\(∀b ∈ fp,H' b=sG)/\W i n sL H') rfl ?_ m0 ⟨0,[],_,I4,by rw[<- e4];exact st4,λb hb=>(f3 b hb).1,w0⟩
  rintro n s5 ⟨i,sL,H5,I5,st5,fr5,w5⟩
  refine pC ?_
  rcases turn i n sL H5 w5 with ⟨stop,qn⟩ | ⟨go,step⟩
  ·refine thn (T.done X' rfl rfl rfl hc i [] s5 _ H5 _ I5 (fp' fr5) st5 stop) λr s6 ⟨hr,I6⟩=>?_
   subst hr
   obtain⟨m,hm,_⟩:=I6.loc
   refine hRR _ _ m s6 H5 hD hm (I3.fpOk (au _) I6.free) (I3.call' (s':=s6) I6.os I6.base I6.hok I6.bare λb hb=>?_) qn
   obtain⟨_,a1,a2,a3,a4,a5⟩:=f3 b hb
   exact⟨a3,a1,a4,a5⟩
  ·refine thn (T.item X' rfl rfl rfl hc i [] s5 _ H5 (λ_ _=>False) I5 (fp' fr5) st5 go) λr s6 ⟨u,hr,h6⟩=>?_
   subst hr
   refine pC (thn h6 λ_ s7 ⟨x,H7,I7,r7,y7,st7,fr7⟩=>?_)
   have I7':=I7.pinned (fp' fr7) (T.obj _ _ st7)
   refine pC (thn (hg _ _ _ _ _ _ _ s7 _ H7 x u _ I7' r7 (step x H7 y7)) λ_ s8 ⟨σ8,H8,I8,ks,q8⟩=>?_)
   refine pC (thn (ht _ _ _ _ _ _ _ s8 σ8 H8 _ I8 q8) λb s9 ⟨H9,I9,q9⟩=>?_)
   have back:∀{s':oR} {H':Hp} {acc':List V} {m':Nat},Inv X' ([] ++ jx fp s7.heap) σ8 H' s'->m'<n->W (i+1) m' acc' H'->∃m,m<n/\∃i sL H',Inv X' [] (vo σ own.length ix) H' s'/\tn i s'.heap/\(∀b ∈ fp,H' b=sG)/\W i m sL H':=λ{s' H' acc' m'} J' hm w'=>by
    refine⟨m',hm,i+1,acc',H',(J'.unpinned).weak ks.1 ks.2,T.keep _ _ _ st7 λb hb o e=>(J'.pin (b,o) (aA _ (aA _ (xD hb e)))).1,λb hb=>?_,w'⟩
    obtain⟨o,e,d⟩:=T.obj _ _ st7 b hb
    exact (J'.pin (b,o) (aA _ (aA _ (xD hb e)))).2.1
   cases b with
   | false =>
    rw[if_neg aF] at q9 ⊢
    obtain⟨m',hm,w'⟩:=q9
    exact back I9 hm w'
   | true =>
    rw[if_pos rfl] at q9 ⊢
    refine pC (thn (he _ _ _ _ _ _ _ s9 σ8 H9 _ I9 q9) λv s10 ⟨y,H10,I10,r10,hD10,hsz,m',hm,w'⟩=>?_)
    refine pC ?_
    have:=yU (X:=X') _ s10 σ8 H10 (.ref s2.heap.objs.size) [y] (.ref s2.heap.objs.size) [v] (λ_ H'=>H'=upd H10 s2.heap.objs.size (.lst (sL ++ [y]))) I10 rfl (.cons r10 .nil) ⟨_,sL,y,rfl,rfl,hD10,hsz,rfl⟩
    refine thn this λ_ s11 ⟨_,H11,I11,_,eH⟩=>?_
    subst eH
    exact back I11 hm w'
 have goal:pO (model X.prog X.w) X.A (.compStart (.ListComp elt [⟨tg,iter,ifs,0⟩] scope pos) 0 (.ref it) (.ref s2.heap.objs.size) (compEnvC scope cl s3.heap.objs.size X.env)) (RR (.ref s2.heap.objs.size) s3.heap.objs.size) s4 :=
  rJ loop (T.self _ 0 s4 _ _ (by rw[<- e4];exact st4) loop)
 rw[<- es4] at goal
 exact goal
theorem xY(hc:X.calm=sH)(S:qQ X scope own caps ix)(hi:PI X tg iter wi)
  (hg:∀cl C sJ s3 H3 fp,PG (yh X scope cl C (own ++ caps) sJ s3 H3 fp λ_ _=>False) tg g)
  (ht:∀cl C sJ s3 H3 fp,PTs (yh X scope cl C (own ++ caps) sJ s3 H3 fp λ_ _=>False) ifs tt)
  (he:∀cl C sJ s3 H3 fp,PE (yh X scope cl C (own ++ caps) sJ s3 H3 fp λ_ _=>False) elt te)
  (hs:∀x,foldedSetIterable iter X.env x=pure x:=by intro _;rfl) :
  PE X (.ListComp elt [⟨tg,iter,ifs,0⟩] scope pos) (kB wi g tt te own.length ix):=by
 intro sJ s σ H Q I h
 obtain⟨cl,hclos,hc1,hc2⟩:=ww (scope:=scope) (env:=X.env) λy hy=>I.ok.has y (.inl (S.free y hy))
 rw[eval_ListComp]
 refine pZ (use:=sG) rfl hs hclos S.kind S.names (thn (hi sJ s σ H _ I h) λv s1 h1=>thn h1 λitv s2 h2=>?_)
 obtain⟨it,fp,tn,J,H2,e,I2,T,st2,f2,q⟩:=h2
 subst e
 refine jS (RR:=λsL C=>compPost (model X.prog X.w) X.A X.xe sG (EP X sJ σ Q) sL C) hc S hg ht he hc1 hc2 I2 T st2 f2 q ?_
 intro D C m s' H' _ hn fc I' qn
 obtain⟨a0,a1,a2,a3,a4,a5⟩:=fc
 exact⟨m,hn,λh' sb=>⟨.ref D,H',I'.turned (t':=s'.toks) (λb o hb e=>(sb.2 b hb).trans e) a0 a1 a3 a4 a5,rfl,qn⟩⟩
def XD(i:Nat)(t:TE):TS:=λD σ H=>t σ H λx H1=>D.nx (σ.set i (sF x)) H1
theorem vz{i:Nat}{y:oW}{py spos:pS}(hN:X.N.Nodup)(hy:X.N[i]? = sF y)(hly:Loc X.env.scope y)(hf:X.fn y=sH\/X.env.scope.names.lookup y=sF .local)(hc:X.calm=sH)(S:qQ X scope own caps ix)(hi:PI X tg iter wi)
  (hg:∀cl C sJ s3 H3 fp,PG (yh X scope cl C (own ++ caps) sJ s3 H3 fp λ_ _=>False) tg g)
  (ht:∀cl C sJ s3 H3 fp,PTs (yh X scope cl C (own ++ caps) sJ s3 H3 fp λ_ _=>False) ifs tt)
  (he:∀cl C sJ s3 H3 fp,PE (yh X scope cl C (own ++ caps) sJ s3 H3 fp λ_ _=>False) elt te)
  (hsw:swapsWith (.ListComp elt [⟨tg,iter,ifs,0⟩] scope pos) (sF (.Name y py)) spos.line X.env=pure sH:=by rfl)
  (hs:∀x,foldedSetIterable iter X.env x=pure x:=by intro _;rfl) :
  PS X (.Assign [.Name y py] (.ListComp elt [⟨tg,iter,ifs,0⟩] scope pos) spos) (XD i (kB wi g tt te own.length ix)):=by
 intro sJ s σ H D I h
 obtain⟨cl,hclos,hc1,hc2⟩:=ww (scope:=scope) (env:=X.env) λy hy=>I.ok.has y (.inl (S.free y hy))
 rw[exec_Assign_Name_used _ _ _ _ hsw]
 refine oH (pN (oH ?_))
 show oS _ X.A (do let _ <- comprehension (.ListComp elt [⟨tg,iter,ifs,0⟩] scope pos) scope X.env _ (newList []) sI (eval iter X.env) (sF (assign (.Name y py) X.env))) _ _ s
 refine oH (thn (pZ (use:=sF (assign (.Name y py) X.env)) (Q:=λ_ s'=>SP X sJ D .next s') rfl hs hclos S.kind S.names (thn (hi sJ s σ H _ I h) λv s1 h1=>thn h1 λitv s2 h2=>?_)) λ_ s' hq=>oJ (oJ hq))
 obtain⟨it,fp,tn,J,H2,e,I2,T,st2,f2,q⟩:=h2
 subst e
 refine jS (Q:=λx H1=>D.nx (σ.set i (sF x)) H1) (RR:=λsL C=>compPost (model X.prog X.w) X.A X.xe (sF (assign (.Name y py) X.env)) (λ_ s'=>SP X sJ D .next s') sL C) hc S hg ht he hc1 hc2 I2 T st2 f2 q ?_
 intro D' C m s' H1 hD' hn fc I1 nx
 obtain⟨a0,a1,a2,a3,a4,a5⟩:=fc
 show oS _ X.A (assign (.Name y py) X.env (.ref D')) _ _ s'
 refine sf (ZO I1 hN hy hly (v:=.ref D') rfl (λs'' I2' ⟨a,sb,ha⟩=>?_) hf)
 have hCa:C≠a:=by
  rcases ha with e | e
  ·rw[e];exact a1
  ·exact λz=>a4 _ _ e z.symm
 refine⟨m,hn.sameBut sb hCa,λh' sb'=>⟨_,H1,I2'.turned (t':=s''.toks) (λb o hb e=>(sb'.2 b hb).trans e) a0 a1 a3 a4 a5,nx⟩⟩
end
end L3
namespace L3
section
variable{X:Cx}{a b:oZ}{ta tb:TE}{pos:pS}
def Qv:R2:=λx y H Q=>(∃i j,x=.int i/\y=.int j/\Q (.int (i+j)) H)\/(∃i j,x=.str i/\y=.str j/\i.length+j.length<=oN/\Q (.str (i ++ j)) H)\/zcs x y H Q
theorem kr:OpR X (binaryOp .Add) Qv:=op_add.or (op_add_str.or Wx)
def K2:R2:=λx y H Q=>(∃i j,x=.int i/\y=.int j/\CMul i j/\Q (.int (i * j)) H)\/∃z n,x=.str z/\y=.int n/\0<=n/\n<=1000/\z.length<=1000/\Q (.str (tx (bp n.toNat (cs z)).flatten)) H
theorem JL:OpR X (binaryOp .Mult) K2:=op_mul.or X4
def zdj:R2:=λx y H Q=>(∃i j,x=.int i/\y=.int j/\Q (.bl (decide (i<j))) H)\/∃i j,x=.str i/\y=.str j/\Q (.bl (decide (cs i<cs j))) H
def zcE:R2:=λx y H Q=>(∃i j,x=.int i/\y=.int j/\Q (.bl (decide (i<=j))) H)\/∃i j,x=.str i/\y=.str j/\Q (.bl (!(decide (cs j<cs i)))) H
theorem uE:OpR X (ph .LtE) zcE:=op_le.or VF
theorem Vi:OpR X (ph .Gt) (λx y H Q=>∃i j,x=.str i/\y=.str j/\Q (.bl (decide (cs j<cs i))) H):=by
 intro sJ s σ H x y v u Q I rx ry h
 obtain⟨i,j,rfl,rfl,q⟩:=h
 obtain⟨t,rfl⟩:=rx
 obtain⟨t',rfl⟩:=ry
 exact PySem.P.gt_str ⟨.bl _,H,I,rfl,q⟩
def zb5:R2:=λx y H Q=>(∃i j,x=.int i/\y=.int j/\Q (.bl (decide (j<i))) H)\/∃i j,x=.str i/\y=.str j/\Q (.bl (decide (cs j<cs i))) H
theorem Xx:OpR X (ph .Gt) zb5:=op_gt.or Vi
def zcZ(K:oO):V->Option Int->Option Int->Hp->VK->Prop:=λx lo hi H Q=>zce K x lo hi H Q\/zco x lo hi H Q
theorem zaG:SlR X (zcZ X.K):=sl_list.or wC
noncomputable def cV:V->Option oQ
 | .ty n=>sF (.type n)
 | .ref a=>sF (.ref a)
 | _=>sG
theorem QB:vP X (.builtin "isinstance") (λxs H Q=>∃x c u t b,xs=[x,c]/\cV c=sF u/\Y5 X.K H x t/\aT X.K t u=sF b/\Q (.bl b) H):=by
 intro sJ s σ H xs us Q I r h
 obtain⟨x,c,u,t,b,rfl,hc,ty,e,q⟩:=h
 obtain⟨v,w',rfl,rx,rc⟩:=Uh r
 have:w'=u:=by
  cases c with
  | ty n=>cases hc;exact rc
  | ref a=>cases hc;exact rc
  | _=>cases hc
 subst this
 exact Vk I rx ty e λtk=>⟨.bl b,H,I.tok tk,rfl,q⟩
end
end L3
namespace L3
noncomputable def Iel(K:oO)(a:oP):It:=⟨λi H=>∃xs x,SqL K H a xs/\xs[i]? = sF x,λi H v H'=>∃p x,H p=sG/\(∀xs,SqL K H a xs->xs[i]? = sF x)/\v=.ref p/\H'=upd H p (.tup [.int (i:Nat),x]),λi H=>∃xs,SqL K H a xs/\i=xs.length⟩
theorem Wn{P:oV}{w:oX}{K:oO}{elts:List oZ}{x1:Nat}{tpos:pS}(e it a:oP)(hei:e≠it) :
  Uz P w K (.Tuple elts x1 tpos) (Iel K a) [e,it] e (λi h=>(∃old,IsEnum h e it i old)/\h.IsListIter it a i) where
 mem:=by simp
 obj:=λi h st b hb=>by
  obtain⟨⟨old,he⟩,o,e2,c,d⟩:=st
  rcases List.mem_cons.mp hb with q | q
  ·subst q
   exact⟨_,he,λv z=>by have z':Data.fields _=Data.cell v:=z;cases z'⟩
  ·have q':b=it:=by simpa using q
   subst q'
   exact⟨o,e2,λv z=>by rw[d] at z;cases z⟩
 keep:=λi h h' st k=>by
  obtain⟨⟨old,he⟩,st⟩:=st
  exact⟨⟨old,k e (by simp) _ he⟩,st.at λo q=>k it (by simp) o q⟩
 item:=by
  intro X hP hw hK hc i sJ s σ H E I hf st hg
  subst hP hw hK
  obtain⟨⟨old,he⟩,st⟩:=st
  obtain⟨xs,x,hq,hx⟩:=hg
  obtain⟨its,rv,p,hz⟩:=I.list hq
  obtain⟨u,hu,ru⟩:=rv.get hx
  have hA:X.A.in1.handled=sG:=I.ok.hd hc
  have pl:=p.isList
  have hai:a≠it:=λz=>by
   subst z
   obtain⟨o1,q1,c1,_⟩:=st
   obtain⟨o2,q2,c2,_⟩:=pl
   rw[q1] at q2;cases q2
   rw[c1] at c2
   exact absurd (Value.type.inj c2) (by decide)
  have hea:e≠a:=λz=>by
   subst z
   obtain⟨o2,q2,c2,_⟩:=pl
   rw[he] at q2;cases q2
   exact absurd (Value.type.inj c2) (by decide)
  refine wpAny_pyNext_enum_itemD (Draws.list (A:=X.A.in1) hA it a hai its.toArray) he ⟨st,pl⟩ (by rw[ao];exact (List.getElem?_eq_some_iff.mp hu).1) hei (by simp [hei,hea]) λv h' tk hv ho st' hT hsz kk=>?_
  have ev:v=u:=by
   have hv':its.toArray[i]? = sF v:=hv
   rw[List.getElem?_toArray,hu] at hv'
   exact (Option.some.inj hv').symm
  subst ev
  refine⟨_,rfl,wpAny_letOwnedTupleGo_enum ho λh2 he2 sb=>?_⟩
  have elt:e<s.heap.objs.size:=ay he
  have ilt:it<s.heap.objs.size:=by obtain⟨o,q,_⟩:=st;exact ay q
  have I1:Inv X sJ σ H { s with heap:=h2,toks:=tk+1 }:=Inv.turns (fp:=[e,it]) I (λb o hb q=>by
   have hb':b≠e/\b≠it:=by simpa using hb
   exact (sb.2 b hb'.1).trans (kk b o hb'.1 hb'.2 q)) hf
  have hp:H s.heap.objs.size=sG:=I.hok.fresh (au _)
  have hT2:h2.get? s.heap.objs.size=sF { cls:=.type "tuple",data:=.seq #[.int (i:Nat) tk,v] }:=(sb.2 _ (cb elt)).trans hT
  have I2:Inv X sJ σ (upd H s.heap.objs.size (.tup [.int (i:Nat),x])) { s with heap:=h2,toks:=tk+1 } :=
   Inv.track I1 (I.fpOk (au _) hp) ⟨by show 2<=oN;decide,[.int (i:Nat) tk,v],.cons ⟨_,rfl⟩ (.cons ru .nil),⟨_,hT2,rfl,_,rfl⟩⟩
  refine⟨.ref s.heap.objs.size,_,I2,rfl,⟨s.heap.objs.size,x,hp,λys hy=>by rw[I.list_inj hy hq];exact hx,rfl,rfl⟩,⟨⟨_,by simpa using he2⟩,?_⟩,λb hb=>?_⟩
  ·exact st'.1.at λo q=>(sb.2 it (Ne.symm hei)).trans q
  ·rw[zo]
   ·exact (hf b hb).1
   ·rcases List.mem_cons.mp hb with q | q
    ·rw[q];exact aE elt
    ·have q':b=it:=by simpa using q
     rw[q'];exact aE ilt
 done:=by
  intro X hP hw hK hc i sJ s σ H E I hf st hg
  subst hP hw hK
  obtain⟨⟨old,he⟩,st⟩:=st
  obtain⟨xs,hq,hi⟩:=hg
  obtain⟨its,rv,p,hz⟩:=I.list hq
  have pl:=p.isList
  have hai:a≠it:=λz=>by
   subst z
   obtain⟨o1,q1,c1,_⟩:=st
   obtain⟨o2,q2,c2,_⟩:=pl
   rw[q1] at q2;cases q2
   rw[c1] at c2
   exact absurd (Value.type.inj c2) (by decide)
  have hA:X.A.in1.handled=sG:=I.ok.hd hc
  have hi':i=its.toArray.size:=by rw[ao,<- rv.length];exact hi
  subst hi'
  refine wpAny_pyNext_enum_endD (Draws.list (A:=X.A.in1) hA it a hai its.toArray) he ⟨st,pl⟩ λh' hx=>⟨rfl,?_⟩
  exact Inv.turns (fp:=[e,it]) (t':=s.toks) I (λb o hb q=>hx b o (λz=>hb (by simp [z])) q) hf
 self:=λA i s Q E st h=>by
  obtain⟨⟨old,he⟩,_⟩:=st
  exact rZ he h
section
variable{X:Cx}
def Vo(K:oO)(ta:TA):TI:=λσ H R=>ta σ H λvs H1=>∃a,vs=[.ref a]/\(∃xs,SqL K H1 a xs)/\R (Iel K a) H1
theorem va{a:oZ}{ta:TA}{p pos tpos:pS}{elts:List oZ}{x1:Nat}(hg:Gl X "enumerate")(hm:X.mg "enumerate" = sG)(ha:PA X [a] ta)(hs:oM [a] X.env=[(sI,eval a X.env)]:=by rfl) :
  PI X (.Tuple elts x1 tpos) (.Call (.Name "enumerate" p) [a] [] pos) (Vo X.K ta):=by
 intro sJ s σ H R I h
 refine Call_ (vj I hg hm PyProof.Rows.boot_enumerate (bD (thn (ha pos sJ s σ H _ I h) λus s1 ⟨vs,H1,I1,r1,q1⟩=>?_) hs rfl))
 obtain⟨l,e,⟨xs,hq⟩,q⟩:=q1
 subst e
 obtain⟨u,rfl,ru⟩:=wP r1
 cases ru
 obtain⟨its,rv,pl,hz⟩:=I1.list hq
 refine call_enumerate_list pl.isList λh' he hit hsz kk=>?_
 have I2:Inv X sJ σ H1 { s1 with heap:=h' }:=I1.kept (t':=s1.toks) kk
 refine rZ (s:={ s1 with heap:=h' }) (i:=0) he ?_
 refine⟨s1.heap.objs.size+1,[s1.heap.objs.size+1,s1.heap.objs.size],_,_,H1,rfl,I2,Wn _ _ l (Nat.succ_ne_self _),⟨⟨_,he⟩,hit⟩,λb hb=>?_,q⟩
 have hb':s1.heap.objs.size<=b:=by
  rcases List.mem_cons.mp hb with e | e
  ·rw[e];exact cC _
  ·have:b=s1.heap.objs.size:=by simpa using e
   rw[this];exact au _
 exact I1.fpOk hb' (I1.hok.fresh hb')
end
def ForEL(K:oO)(a:oP)(g:TG)(tb:TS)(D:vk)(σ:St)(H:Hp):Prop:=∃W:Nat->Nat->St->Hp->Prop,(∃m,W 0 m σ H)/\∀i m σ H,W i m σ H ->
 ((Iel K a).stop i H/\D.nx σ H)\/((Iel K a).go i H/\∃N:St->Hp->Prop,(∀σ' H',N σ' H'->∃m',m'<m/\W (i+1) m' σ' H')/\∀x H',(Iel K a).yld i H x H'->g x σ H' λσ2 H2=>tb { D with nx:=N,ct:=N,bk:=D.nx } σ2 H2)
theorem zcz{K:oO}{ta:TA}{g:TG}{tb:TS}{D:vk}{σ:St}{H:Hp}:UE (Vo K ta) g tb D σ H=ta σ H λvs H1=>∃a,vs=[.ref a]/\(∃xs,SqL K H1 a xs)/\ForEL K a g tb D σ H1:=rfl
theorem ForEL.by{K:oO}{a:oP}{xs:List V}{g:TG}{tb:TS}{D:vk}{σ:St}{H:Hp}(Pv:Nat->St->Hp->Prop)(h0:Pv 0 σ H)(hl:∀i σ H,i<=xs.length->Pv i σ H->SqL K H a xs)
  (hs:∀i x σ H p,xs[i]? = sF x->Pv i σ H->H p=sG->g (.ref p) σ (upd H p (.tup [.int (i:Nat),x])) λσ2 H2=>tb { D with nx:=Pv (i+1),ct:=Pv (i+1),bk:=D.nx } σ2 H2) (hd:∀σ H,Pv xs.length σ H->D.nx σ H):ForEL K a g tb D σ H:=by
 refine⟨λi m σ H=>m=xs.length - i/\i<=xs.length/\Pv i σ H,⟨xs.length,by simp,aJ _,h0⟩,?_⟩
 rintro i m σ H ⟨rfl,hi,p⟩
 have q:=hl i σ H hi p
 by_cases hlt:i<xs.length
 ·refine .inr ⟨⟨xs,xs[i],q,by simp [hlt]⟩,Pv (i+1),λσ' H' p'=>⟨xs.length - (i+1),by lia,rfl,hlt,p'⟩,λv H' y=>?_⟩
  obtain⟨p',x,hp,hx,ev,eH⟩:=y
  subst ev eH
  exact hs i x σ H p' (hx xs q) p hp
 ·have e:i=xs.length:=by lia
  subst e
  exact .inl ⟨⟨xs,q,rfl⟩,hd σ H p⟩
def ForT(K:oO)(a:oP)(g:TG)(tb:TS)(D:vk)(σ:St)(H:Hp):Prop:=∃W:Nat->Nat->St->Hp->Prop,(∃m,W 0 m σ H)/\∀i m σ H,W i m σ H ->
 ((Itt K a).stop i H/\D.nx σ H)\/((Itt K a).go i H/\∃N:St->Hp->Prop,(∀σ' H',N σ' H'->∃m',m'<m/\W (i+1) m' σ' H')/\∀x H',(Itt K a).yld i H x H'->g x σ H' λσ2 H2=>tb { D with nx:=N,ct:=N,bk:=D.nx } σ2 H2)
theorem zdg{K:oO}{tl:TE}{g:TG}{tb:TS}{D:vk}{σ:St}{H:Hp}:UE (zcG K tl) g tb D σ H=tl σ H λx H1=>∃a,x=.ref a/\(∃xs,SqT K H1 a xs)/\ForT K a g tb D σ H1:=rfl
theorem ForT.by{K:oO}{a:oP}{xs:List V}{g:TG}{tb:TS}{D:vk}{σ:St}{H:Hp}(Pv:Nat->St->Hp->Prop)(h0:Pv 0 σ H)(hl:∀i σ H,i<=xs.length->Pv i σ H->SqT K H a xs)
  (hs:∀i x σ H,xs[i]? = sF x->Pv i σ H->g x σ H λσ2 H2=>tb { D with nx:=Pv (i+1),ct:=Pv (i+1),bk:=D.nx } σ2 H2) (hd:∀σ H,Pv xs.length σ H->D.nx σ H):ForT K a g tb D σ H:=JE Pv h0 hl hs hd
def tTr(K:oO)(ta:TE):TT:=λσ H Q=>ta σ H λx H'=>∃k,K4 K x H' k/\Q k H'
theorem zck{K:oO}{ta:TE}{σ:L2.St}{H:Hp}{Q:Bool->Hp->Prop}:tTr K ta σ H Q=ta σ H λx H'=>∃k,K4 K x H' k/\Q k H':=rfl
def tBl(ta:TE):TT:=λσ H Q=>ta σ H λx H'=>∃k,x=.bl k/\Q k H'
theorem zbW{ta:TE}{σ:L2.St}{H:Hp}{Q:Bool->Hp->Prop}:tBl ta σ H Q=ta σ H λx H'=>∃k,x=.bl k/\Q k H':=rfl
section
variable{X:Cx}{a:oZ}{ta:TE}
theorem xz(ha:PE X a ta)(he:∀whole,isTrue a X.env whole=(do let v <- whole;standAt a.pos;holding [v] (truthy v))):PT X a (tBl ta):=by
 intro sJ s σ H Q I h
 refine isTrue_plain (thn (ha sJ s σ H _ I h) λv s1 ⟨x,H1,I1,r1,k,e,q1⟩=>?_) (he _)
 subst e
 exact QZ sJ s1 σ H1 (.bl k) v Q I1 r1 ⟨k,rfl,q1⟩
end
end L3
namespace L3
noncomputable def Irv(K:oO)(a:oP)(n:Nat):It:=⟨λi H=>∃xs,SqL K H a xs/\xs.length=n/\i<n,λi H v H'=>H'=H/\∀xs,SqL K H a xs->xs.length=n->xs[n - 1 - i]? = sF v,λi H=>i=n⟩
theorem Qc{P:oV}{w:oX}{K:oO}{tg:oZ}(a it:oP)(n:Nat):Uz P w K tg (Irv K a n) [it] it (λi h=>i<=n/\h.IsRevIter it a ((n:Int) - 1 - (i:Int))) where
 mem:=by simp
 obj:=λi h st b hb=>by
  have e:b=it:=by simpa using hb
  subst e
  obtain⟨_,o,e,c,d⟩:=st
  exact⟨o,e,λv z=>by rw[d] at z;cases z⟩
 keep:=λi h h' st k=>⟨st.1,st.2.at λo e=>k it (by simp) o e⟩
 item:=by
  intro X hP hw hK hc i sJ s σ H E I hf st hg
  subst hP hw hK
  obtain⟨xs,hq,hn,hi⟩:=hg
  obtain⟨its,rv,p,hz⟩:=I.list hq
  obtain⟨f0,f1,f2,f3,f4,f5⟩:=hf it (by simp)
  have hx:xs[n - 1 - i]? = sF (xs[n - 1 - i]'(by lia)):=al (by lia)
  generalize xs[n - 1 - i]'(by lia)=x at hx
  obtain⟨u,hu,ru⟩:=rv.get hx
  have st2:=st.2
  have e:(n:Int) - 1 - (i:Int)=((n - 1 - i:Nat):Int):=by lia
  rw[e] at st2
  refine wpAny_pyNext_rev_item st2 p.isList (x:=u) (by simpa using hu) λh' st' sb=>?_
  have I1:Inv X sJ σ H { s with heap:=h' }:=I.turned (t':=s.toks) (λb o hb e=>(sb.2 b hb).trans e) f0 f1 f3 f4 f5
  have e2:((n - 1 - i:Nat):Int) - 1=(n:Int) - 1 - ((i+1:Nat):Int):=by lia
  rw[e2] at st'
  obtain⟨o,e,c,d⟩:=id st'
  exact⟨u,rfl,VM (s:={ s with heap:=h' }) e c d (by decide) ⟨x,H,I1,ru,⟨rfl,λys hy _=>by rw[I.list_inj hy hq];exact hx⟩,⟨hi,st'⟩,λb hb=>(hf b hb).1⟩⟩
 done:=by
  intro X hP hw hK hc i sJ s σ H E I hf st hg
  subst hP hw hK
  obtain⟨f0,f1,f2,f3,f4,f5⟩:=hf it (by simp)
  have hi:i=n:=hg
  have st2:=st.2
  rw[hi,show (n:Int) - 1 - (n:Int)=-1 by lia] at st2
  exact wpAny_pyNext_rev_end (I.ok.hd hc) st2 λh' eb=>⟨rfl,I.turned (t':=s.toks) (λb o hb e=>eb b o hb e) f0 f1 f3 f4 f5⟩
 self:=λ_ _ _ _ _ st h=>rN st.2 h
theorem UN:pF "reversed" = sF (.type "reversed"):=PyProof.Rows.boot_reversed
section
variable{X:Cx}{tg:oZ}
def zcI(K:oO)(ta:TA):TI:=λσ H R=>ta σ H λvs H1=>∃a xs,vs=[.ref a]/\SqL K H1 a xs/\R (Irv K a xs.length) H1
theorem zap{a:oZ}{ta:TA}{p pos:pS}(hg:Gl X "reversed")(hm:X.mg "reversed" = sG)(ha:PA X [a] ta)(hs:oM [a] X.env=[(sI,eval a X.env)]:=by rfl) :
  PI X tg (.Call (.Name "reversed" p) [a] [] pos) (zcI X.K ta):=by
 intro sJ s σ H R I h
 refine Call_ (vj I hg hm UN (bD (thn (ha pos sJ s σ H _ I h) λus s1 ⟨vs,H1,I1,r1,q1⟩=>?_) hs rfl))
 obtain⟨l,xs,e,hq,q⟩:=q1
 subst e
 obtain⟨u,rfl,ru⟩:=wP r1
 cases ru
 obtain⟨its,rv,pl,hz⟩:=I1.list hq
 have hn:its.toArray.size=xs.length:=by rw[ao,<- rv.length]
 refine call_reversed_list pl.isList ?_
 have hit:(s1.heap.push (revObj l ((its.toArray.size:Int) - 1))).IsRevIter s1.heap.objs.size l ((xs.length:Int) - 1 - ((0:Nat):Int)):=by
  refine⟨_,aI _ rfl,rfl,?_⟩
  rw[hn,show (xs.length:Int) - 1 - ((0:Nat):Int)=(xs.length:Int) - 1 by lia]
  rfl
 refine rN (s:={ s1 with heap:=s1.heap.push (revObj l ((its.toArray.size:Int) - 1)) }) hit ?_
 refine⟨s1.heap.objs.size,[s1.heap.objs.size],_,_,H1,rfl,I1.kept (t':=s1.toks) λb o e=>aa _ e,Qc l _ xs.length,⟨aJ _,hit⟩,λb hb=>?_,q⟩
 have e:b=s1.heap.objs.size:=by simpa using hb
 subst e
 exact I1.fpOk (au _) (I1.hok.fresh (au _))
end
section
variable{prog:oV}{w:oX}{A:oY}{E:oQ->oR->Prop}{s:oR}
end
section
variable{X:Cx}
def zbT(K:oO)(ta:TA):TE:=λσ H Q=>ta σ H λvs H1=>∃a xs,vs=[.ref a]/\SqL K H1 a xs/\∀l,H1 l=sG->Q (.ref l) (upd H1 l (.lst xs.reverse))
theorem JQ{K:oO}{ta:TA}{σ:L2.St}{H:Hp}{Q:VK}:zbT K ta σ H Q=ta σ H λvs H1=>∃a xs,vs=[.ref a]/\SqL K H1 a xs/\∀l,H1 l=sG->Q (.ref l) (upd H1 l (.lst xs.reverse)):=rfl
end
noncomputable def Izp(K:oO)(a b:oP):It:=⟨λi H=>∃xs ys x y,SqL K H a xs/\SqL K H b ys/\xs[i]? = sF x/\ys[i]? = sF y,λi H v H'=>∃p x y,H p=sG/\(∀xs,SqL K H a xs->xs[i]? = sF x)/\(∀ys,SqL K H b ys->ys[i]? = sF y)/\v=.ref p/\H'=upd H p (.tup [x,y]),λi H=>∃xs ys,SqL K H a xs/\SqL K H b ys/\(xs.length=i\/ys.length=i)/\i<=xs.length/\i<=ys.length⟩
theorem wN{h:pb}{a b:oP}{o1 o2:pD}{t u:String}(h1:h.get? a=sF o1)(c1:o1.cls=.type t)(h2:h.get? b=sF o2)(c2:o2.cls=.type u)(hne:t≠u):a≠b:=λz=>by
 rw[z,h2] at h1
 cases h1
 rw[c2] at c1
 exact hne (Value.type.inj c1).symm
structure Jy(z TI TO i1 i2:oP):Prop where
 TIz:TI≠z
 TOz:TO≠z
 i1z:i1≠z
 i2z:i2≠z
 TITO:TI≠TO
 TIi1:TI≠i1
 TIi2:TI≠i2
 TOi1:TO≠i1
 TOi2:TO≠i2
 i12:i1≠i2
def ZipAt(z TI TO i1 i2 l1 l2:oP)(i:Nat)(h:pb):Prop:=rz h z TI TO .none/\pL h TI (.ref i1) (.ref i2)/\(∃a b,pL h TO a b)/\h.IsListIter i1 l1 i/\h.IsListIter i2 l2 i
theorem ZipAt.apart{z TI TO i1 i2 l1 l2:oP}{i:Nat}{h:pb}{xs ys:Array oQ}(D:Jy z TI TO i1 i2)(st:ZipAt z TI TO i1 i2 l1 l2 i h)(h1:h.IsList l1 xs)(h2:h.IsList l2 ys):ZipApart z TI TO i1 i2 l1 l2:=by
 obtain⟨hz,hTI,⟨a,b,hTO⟩,⟨o1,e1,c1,_⟩,⟨o2,e2,c2,_⟩⟩:=st
 obtain⟨p1,q1,k1,_⟩:=h1
 obtain⟨p2,q2,k2,_⟩:=h2
 exact⟨D.TIz,D.TOz,D.i1z,D.i2z,D.TITO,D.TIi1,D.TIi2,D.TOi1,D.TOi2,D.i12,wN q1 k1 hz rfl (by decide),wN q1 k1 hTO rfl (by decide),wN q1 k1 e1 c1 (by decide),wN q1 k1 e2 c2 (by decide),wN q2 k2 hz rfl (by decide),wN q2 k2 hTO rfl (by decide),wN q2 k2 e1 c1 (by decide),wN q2 k2 e2 c2 (by decide)⟩
section
variable{X:Cx}
def zdf(K:oO)(ta:TA):TI:=λσ H R=>ta σ H λvs H1=>∃a b,vs=[.ref a,.ref b]/\(∃xs,SqL K H1 a xs)/\(∃ys,SqL K H1 b ys)/\R (Izp K a b) H1
end
def zdo(K:oO)(a b:oP)(g:TG)(tb:TS)(D:vk)(σ:L2.St)(H:Hp):Prop:=∃W:Nat->Nat->L2.St->Hp->Prop,(∃m,W 0 m σ H)/\∀i m σ H,W i m σ H ->
 ((Izp K a b).stop i H/\D.nx σ H)\/((Izp K a b).go i H/\∃N:L2.St->Hp->Prop,(∀σ' H',N σ' H'->∃m',m'<m/\W (i+1) m' σ' H')/\∀x H',(Izp K a b).yld i H x H'->g x σ H' λσ2 H2=>tb { D with nx:=N,ct:=N,bk:=D.nx } σ2 H2)
theorem zdv{K:oO}{ta:TA}{g:TG}{tb:TS}{D:vk}{σ:L2.St}{H:Hp}:UE (zdf K ta) g tb D σ H=ta σ H λvs H1=>∃a b,vs=[.ref a,.ref b]/\(∃xs,SqL K H1 a xs)/\(∃ys,SqL K H1 b ys)/\zdo K a b g tb D σ H1:=rfl
end L3
namespace L3
noncomputable abbrev xob(C:oP)(dx:Option oP)(t:oP)(tb:oQ):pD:={ cls:=.ref C,dict:=dx,data:=.fields #[.ref t,tb,.none,.none,.bool sI,.none] }
noncomputable abbrev xog(C:oP)(dx:Option oP)(t:oP)(tb c:oQ)(k:Bool):pD:={ cls:=.ref C,dict:=dx,data:=.fields #[.ref t,tb,c,.none,.bool k,.none] }
def KJ(h:pb)(x:oP)(tb:oQ):Prop:=tb=.none\/∃T oT ts,tb=.ref T/\T≠x/\h.get? T=sF oT/\oT.data=.fields ts/\3<ts.size
section
variable{M:sk}{A:oY}{E:oQ->oR->Prop}{s:oR}{base:pb}{env env0:rL}{outer:List rL}{L x t C:oP}{dx:Option oP}{cx:oQ}{kx:Bool}
theorem ZT(h:env.frame=env0.frame):dM env=dM env0:=by unfold dM;rw[h]
theorem ke{tb head:oQ}{hadNext:Bool}{Q:Unit->oR->Prop}(hfr:A.frames=sF (env0::outer))(hl:s.heap.FunFrames base (env0::outer))(hf:env0.frame=sF L)(he:env.frame=sF L)
  (hx:s.heap.get? x=sF (xog C dx t tb cx kx))
  (h:∀h' oT ts,h'.get? x=sF (xog C dx t (.ref s.heap.objs.size) cx kx)->s.heap.objs.size≠x->h'.get? s.heap.objs.size=sF oT->oT.data=.fields ts->3<ts.size ->
   (∀b o,b≠x->b ∉ frs (env0::outer)->s.heap.get? b=sF o->h'.get? b=sF o)->(∀b o,b≠x->s.heap.get? b=sF o->∃sl,h'.get? b=sF { o with slots:=sl })->Q () { s with heap:=h' }) :
  oS M A (do let a <- dM env;let pl <- entryPlaceOf L hadNext;let b <- EntryCells.newEntry head a .none (rawInt L) .none pl;setField (.ref x) 1 b) Q E s:=by
 have hxf:x ∉ frs (env0::outer):=λhm=>by
  obtain⟨_,o,ho,hnf⟩:=hl.mem hm
  rw[hx] at ho
  cases ho
  exact hnf _ rfl
 rw[ZT (he.trans hf.symm)]
 refine oH (wpAny_frameOf_fun hfr hl hf λh1 hs1=>oH (wpAny_entryPlaceOf λpl hpl=>?_))
 unfold EntryCells.newEntry newFields
 refine oH (rB ?_ (hpl.sizeOk5 _ _ _ _ _))
 have hz:h1.objs.size=s.heap.objs.size:=hs1.1
 have hx1:h1.get? x=sF (xog C dx t tb cx kx):=(hs1.2.1 x hxf).trans hx
 generalize ho:({ cls:=.type "traceback",dict:=sG,data:=.fields ([head,.ref L,.none,rawInt L,.none] ++ (if pl.isEmpty then bp 6 Value.none else pl)).toArray }:pD)=ob
 have hx2:(h1.push ob).get? x=sF (xog C dx t tb cx kx):=aa _ hx1
 refine pP hx2 rfl (by show 1<6;decide) ?_
 have hne:h1.objs.size≠x:=cb (ay hx1)
 have hx3:((h1.push ob).update x (Obj.mapFields (·.setIfInBounds 1 (Value.ref h1.objs.size)))).get? x=sF (xog C dx t (.ref h1.objs.size) cx kx) :=
  bW (Obj.mapFields (·.setIfInBounds 1 (Value.ref h1.objs.size))) hx2 rfl
 have hT:((h1.push ob).update x (Obj.mapFields (·.setIfInBounds 1 (Value.ref h1.objs.size)))).get? h1.objs.size=sF ob :=
  (aL _ _ (Ne.symm hne)).trans (aI h1 (by rw[<- ho];rfl))
 rw[hz] at hx3 hT hne
 have kp:∀b o,b≠x->h1.get? b=sF o->((h1.push ob).update x (Obj.mapFields (·.setIfInBounds 1 (Value.ref h1.objs.size)))).get? b=sF o:=λb o hb e =>
  (aL _ _ (Ne.symm hb)).trans (aa _ e)
 rw[hz] at kp ⊢
 refine h _ ob _ hx3 hne hT (by rw[<- ho]) (by simp only[ao,am,aM,cw] <;> lia) (λb o hb hbf e=>kp b o hb ((hs1.2.1 b hbf).trans e)) λb o hb e=>?_
 obtain⟨sl,q⟩:=hs1.2.2 b o e
 exact⟨sl,kp b _ hb q⟩
theorem kQ{tb:oQ}{Q:Unit->oR->Prop}(hfr:A.frames=sF (env0::outer))(hl:s.heap.FunFrames base (env0::outer))(hf:env0.frame=sF L)(he:env.frame=sF L)
  (hx:s.heap.get? x=sF (xog C dx t tb cx kx)) (htb:KJ s.heap x tb)
  (h:∀h' T oT ts,h'.get? x=sF (xog C dx t (.ref T) cx kx)->T≠x->(tb=.ref T\/s.heap.objs.size<=T)->h'.get? T=sF oT->oT.data=.fields ts->3<ts.size ->
   (∀b o,b≠x->tb≠.ref b->b ∉ frs (env0::outer)->s.heap.get? b=sF o->h'.get? b=sF o)->(∀b o,b≠x->tb≠.ref b->s.heap.get? b=sF o->∃sl,h'.get? b=sF { o with slots:=sl })->Q () { s with heap:=h' }) :
  oS M A (noteFrame (.ref x) env) (λ_ s1=>oS M A (setFlight (.ref x) sG) Q E s1) E s:=by
 have land:∀(h1:pb) (T:oP) (oT:pD) (ts:Array oQ),h1.get? x=sF (xog C dx t (.ref T) cx kx)->T≠x->(tb=.ref T\/s.heap.objs.size<=T)->h1.get? T=sF oT->oT.data=.fields ts->3<ts.size ->
   (∀b o,b≠x->tb≠.ref b->b ∉ frs (env0::outer)->s.heap.get? b=sF o->h1.get? b=sF o)->(∀b o,b≠x->tb≠.ref b->s.heap.get? b=sF o->∃sl,h1.get? b=sF { o with slots:=sl }) ->
   oS M A (setFlight (.ref x) sG) Q E { s with heap:=h1 }:=λh1 T oT ts e1 nT oldT e2 d2 z2 k1 k2=>by
  unfold setFlight
  refine oH (pi (s:={ s with heap:=h1 }) e1 rfl (x:=.ref T) rfl ?_)
  rw[if_pos (show (Value.ref T != Value.none)=sH from by simp)]
  refine pP (s:={ s with heap:=h1 }) e2 d2 z2 ?_
  have d3:=Obj.data_mapFields d2 (·.setIfInBounds 3 ((sG:Option oP).elim Value.none λf=>rawInt f))
  have nb:∀b,b≠x->tb≠.ref b->(∃o,s.heap.get? b=sF o)->b≠T:=λb hb hbt ⟨o,eo⟩ z=>by
   subst z
   rcases oldT with q | q
   ·exact hbt q
   ·exact absurd (ay eo) (Nat.not_lt.mpr q)
  refine h _ T _ _ ((aL _ _ nT).trans e1) nT oldT (bW _ e2 (Obj.isFreed_of_fields d3)) d3 (by simpa using z2) (λb o hb hbt hbf e=>?_) λb o hb hbt e=>?_
  ·exact (aL _ _ (Ne.symm (nb b hb hbt ⟨o,e⟩))).trans (k1 b o hb hbt hbf e)
  ·obtain⟨sl,q⟩:=k2 b o hb hbt e
   exact⟨sl,(aL _ _ (Ne.symm (nb b hb hbt ⟨o,e⟩))).trans q⟩
 unfold noteFrame
 simp only[he]
 refine oH (pi hx rfl (x:=tb) rfl ?_)
 rcases htb with rfl | ⟨T,oT,ts,rfl,nT,e2,d2,z2⟩
 ·rw[if_neg (by decide)]
  refine ke hfr hl hf he hx λh' oT ts e1 ne e2 d2 z2 k1 k2=>land h' _ oT ts e1 ne (.inr (au _)) e2 d2 z2 (λb o hb _ hbf e=>k1 b o hb hbf e) λb o hb _ e=>k2 b o hb e
 ·rw[if_pos (show (Value.ref T != Value.none)=sH from by simp)]
  obtain⟨y,hy⟩:∃y,ts[3]? = sF y:=⟨ts[3],by simp [z2]⟩
  refine oH (pi e2 d2 (x:=y) hy ?_)
  by_cases c:(y == rawInt L)=sH
  ·rw[if_pos c]
   exact oJ (land s.heap T oT ts hx nT (.inl rfl) e2 d2 z2 (λb o _ _ _ e=>e) λb o _ _ e=>⟨o.slots,e⟩)
  ·rw[if_neg c]
   refine oH (pP e2 d2 z2 ?_)
   have oth:∀b,b≠T->(s.heap.update T (Obj.mapFields (·.setIfInBounds 3 Value.none))).get? b=s.heap.get? b:=λb hb=>aL _ _ (Ne.symm hb)
   have hl1:(s.heap.update T (Obj.mapFields (·.setIfInBounds 3 Value.none))).FunFrames base (env0::outer):=hl.of_keeps λb o hb hnf=>⟨o,(oth b λq=>by rw[q,e2] at hb;cases hb;exact hnf ts d2).trans hb,rfl⟩
   have hsz:(s.heap.update T (Obj.mapFields (·.setIfInBounds 3 Value.none))).objs.size=s.heap.objs.size:=dn ..
   refine ke (s:={ s with heap:=s.heap.update T (Obj.mapFields (·.setIfInBounds 3 Value.none)) }) hfr hl1 hf he ((oth x (Ne.symm nT)).trans hx) λh' oT' ts' e1 ne e2' d2' z2' k1 k2=>?_
   refine land h' _ oT' ts' e1 ne (.inr (by rw[hsz];exact au _)) e2' d2' z2' (λb o hb hbt hbf e=>k1 b o hb hbf ((oth b λq=>hbt (by rw[q])).trans e)) λb o hb hbt e=>k2 b o hb ((oth b λq=>hbt (by rw[q])).trans e)
theorem JA{tb:oQ}{Q:Unit->oR->Prop}(hfr:A.frames=sF (env0::outer))(hl:s.heap.FunFrames base (env0::outer))(hf:env0.frame=sF L)(he:env.frame=sF L)
  (hx:s.heap.get? x=sF (xog C dx t tb cx kx)) (htb:KJ s.heap x tb)
  (h:∀h' T oT ts,h'.get? x=sF (xog C dx t (.ref T) cx kx)->T≠x->(tb=.ref T\/s.heap.objs.size<=T)->h'.get? T=sF oT->oT.data=.fields ts->3<ts.size ->
   (∀b o,b≠x->tb≠.ref b->b ∉ frs (env0::outer)->s.heap.get? b=sF o->h'.get? b=sF o)->(∀b o,b≠x->tb≠.ref b->s.heap.get? b=sF o->∃sl,h'.get? b=sF { o with slots:=sl })->Q () { s with heap:=h' }) :
  oS M A (leaving env (.ref x)) Q E s:=oH (kQ hfr hl hf he hx htb h)
end
def CXx(P:oV)(w:oX):CXT:=λouter H s E e s'=>∃(x C t:oP) (dx:Option oP) (tb:oQ) (H':Hp),e=.ref x/\s'.os=s.os/\rp s'.gens/\Un (frs outer) [] H H' s.heap s'.heap/\HOk P w H' s'.heap /\
 s'.heap.get? x=sF (xob C dx t tb)/\KJ s'.heap x tb/\H' x=sG/\s.heap.objs.size<=x/\(∀T,tb=.ref T->H' T=sG/\s.heap.objs.size<=T)/\E (.ref C) dx H'
def zbm(X:Cx)(E:XK)(e:oQ)(s:oR):Prop:=∃(sJ:List (oP × pD)) (σ:St) (H:Hp) (x C t:oP) (dx:Option oP) (tb:oQ),e=.ref x/\Inv X sJ σ H s /\
 s.heap.get? x=sF (xob C dx t tb)/\KJ s.heap x tb/\xW X sJ H x/\(∀T,tb=.ref T->xW X sJ H T)/\E (.ref C) dx H
def XE(X:Cx)(E:XK):Prop:=∀e s,zbm X E e s->X.xe e s
theorem XF{X:Cx}{E:XK}(hx:XE X E):uG (CXx X.prog X.w) X E:=by
 intro sJ σ H s e s' I h
 obtain⟨x,C,t,dx,tb,H',rfl,os,bare,un,hok,ob,tr,hn,hsz,hT,q⟩:=h
 have I':Inv X sJ σ H' s':=I.call' os un hok bare λb z=>absurd z (by simp)
 exact hx _ _ ⟨sJ,σ,H',x,C,t,dx,tb,rfl,I',ob,tr,I.fpOk hsz hn,λT e=>I.fpOk (hT T e).2 (hT T e).1,q⟩
theorem zaH{P:oV}{w:oX}{K:oO}{mg:oW->Option oQ}{base:pb}{N:List oW}{qual:oW}{scope:pK}{f:oP}{cd:oQ}{A:oY}{outer:List rL}{s:oR}{H:Hp}{E:XK} :
  XE (qc (CXx P w) P w K mg base N qual scope f cd A outer s H E) E:=by
 intro e s1 h
 obtain⟨sJ,σ,H1,x,C,t,dx,tb,rfl,I,ob,tr,fx,fT,q⟩:=h
 show oS _ _ (leaving _ (.ref x)) _ _ s1
 have ff:=I.stack
 refine JA (A:=(qc (CXx P w) P w K mg base N qual scope f cd A outer s H E).A) (env0:=rn qual scope s.heap.objs.size f cd) (outer:=outer) I.ok.frames ff rfl rfl ob tr λh' T oT ts e1 nT oldT e2 d2 z2 k1 k2=>?_
 have szs:s.heap.objs.size<=s1.heap.objs.size:=I.sz
 have hxs:s.heap.objs.size<=x:=by
  rcases fx.2.2.2.1 with z | z
  ·exact absurd z (by simp [qc])
  ·exact z
 have hTs:s.heap.objs.size<=T/\H1 T=sG:=by
  rcases oldT with z | z
  ·obtain⟨a0,_,_,a3,_⟩:=fT T z
   rcases a3 with y | y
   ·exact absurd y (by simp [qc])
   ·exact⟨y,a0⟩
  ·exact⟨aO szs z,I.hok.fresh z⟩
 have tbs:∀b,tb=.ref b->s.heap.objs.size<=b/\H1 b=sG:=λb hb=>by
  obtain⟨a0,_,_,a3,_⟩:=fT b hb
  rcases a3 with y | y
  ·exact absurd y (by simp [qc])
  ·exact⟨y,a0⟩
 have old:∀b o,s.heap.get? b=sF o->b≠x/\tb≠.ref b:=λb o e=>by
  have hb:=ay e
  refine⟨aE (aD hb hxs),λz=>?_⟩
  exact absurd (aD hb (tbs b z).1) (cI _)
 have un:Un (frs outer) [] H H1 s.heap h':=by
  have B:=I.base
  refine⟨λb o e n hb _=>?_,λb o e n hb _=>?_,λb o e n _=>B.free b o e n (by simp [qc]),λb o e _=>?_,B.tups,B.frzs,B.tbls⟩
  ·have e1:=B.keep b o e n hb (by simp [qc])
   refine k1 b o (old b o e).1 (old b o e).2 (λz=>?_) e1
   have z':=I.stkSub b z
   rcases List.mem_cons.mp z' with q | q
   ·exact absurd q (aE (aD (ay e) I.ok.above))
   ·exact hb q
  ·obtain⟨sl,e1⟩:=B.slot b o e n hb (by simp [qc])
   obtain⟨sl',e2⟩:=k2 b _ (old b o e).1 (old b o e).2 e1
   exact⟨sl',e2⟩
  ·obtain⟨o',e1⟩:=B.there b o e (by simp [qc])
   obtain⟨sl',e2⟩:=k2 b _ (old b o e).1 (old b o e).2 e1
   exact⟨_,e2⟩
 have hok:HOk P w H1 h':=λb u e=>by
  refine (I.hok b u e).stay (λc v hc q=>k1 c v ?_ ?_ ?_ q) (λ_ q=>q) λ_ _ q=>q
  ·rintro rfl
   rcases hc with rfl | hc
   ·rw[fx.1] at e;cases e
   ·rw[fx.1] at hc;cases hc
  ·intro z
   have:=(tbs c z).2
   rcases hc with rfl | hc
   ·rw[this] at e;cases e
   ·rw[this] at hc;cases hc
  ·intro z
   have:=I.stkFree c z
   rcases hc with rfl | hc
   ·rw[this] at e;cases e
   ·rw[this] at hc;cases hc
 exact⟨x,C,t,dx,.ref T,H1,rfl,I.os,I.bare,un,hok,e1,.inr ⟨T,oT,ts,rfl,nT,e2,d2,z2⟩,fx.1,hxs,λT' z=>by cases z;exact⟨hTs.2,hTs.1⟩,q⟩
theorem Fun.okX{P:oV}{w:oX}{K:oO}{mg:oW->Option oQ}{base:pb}{x qual:oW}{st:pc}{f:oP}{fd:oU}{N ps:List oW}{k:Nat}{sp:Sp}(F:Fun K x qual st f fd)(S:zq N ps (zb st))(len:∀vs H Q E,sp vs H Q E->vs.length=ps.length)
  (hbody:∀(cdv:oQ) (A:oY) (outer:List rL) (s:oR) (H:Hp) (vs:List V) (Q:VK) (E:XK),Room k (A.deeper (rn qual (zb st) s.heap.objs.size f cdv))->XE (qc (CXx P w) P w K mg base N qual (zb st) f cdv A outer s H E) E->sp vs H Q E ->
   ∃t,PSs (qc (CXx P w) P w K mg base N qual (zb st) f cdv A outer s H E) (zk st) t/\t { nx:=λ_ H'=>Q .non H',rt:=Q } (start N vs) H):FnOk P w K mg base (CXx P w) (k+1) f fd ps sp:=by
 obtain⟨oc,od,kV,doc,pm,an,cdv,ct,osl,rfl,lk,hcd⟩:=F.ex
 exact Qm lk hcd S len λA outer s H vs Q E hr hsp=>hbody cdv A outer s H vs Q E hr zaH hsp
def zaE(X:Cx)(E:XK)(e:oQ)(s:oR):Prop:=∃(cx:oQ) (kx:Bool) (sJ:List (oP × pD)) (σ:St) (H:Hp) (x C t:oP) (dx:Option oP) (tb:oQ),e=.ref x/\Inv X sJ σ H s /\
 s.heap.get? x=sF (xog C dx t tb cx kx)/\KJ s.heap x tb/\xW X sJ H x/\(∀T,tb=.ref T->xW X sJ H T)/\E (.ref C) dx H
def XEg(X:Cx)(E:XK):Prop:=∀e s,zaE X E e s->X.xe e s
end L3
namespace L3
structure RoomH(k:Nat)(A:oY):Prop where
 dp:A.depth+3 * k+5<rP
 un:A.units+16 * k+200<cLine
theorem RoomH.mark{k:Nat}{A:oY}(r:RoomH k A)(e:Option oQ):RoomH k (A.mark e):=⟨r.dp,r.un⟩
noncomputable def cxH(P:oV)(w:oX)(K:oO)(mg:oW->Option oQ)(base:pb)(N:List oW)(qual:oW)(scope:pK)(f:oP)(cd:oQ)(A:oY)(outer:List rL)(s:oR)(H:Hp):Cx :=
 { qc CX0 P w K mg base N qual scope f cd A outer s H E0 with calm:=sI,xe:=λ_ _=>False }
section
variable{X:Cx}{k:Nat}{f:oP}{fd:oU}{ps:List oW}{sp:Sp}{x:oW}{p pos:pS}{e:oZ}{es:List oZ}{t:TA}
end
end L3
namespace L3
noncomputable abbrev bmV:List oQ:=[.type "ValueError",.type "Exception",.type "BaseException",.type "object"]
noncomputable def Z5(K:oO)(C:oP):Bool:=match K.lookup C with
 | some ⟨.type "type",_,.cls cd,sl⟩=>(match cd.mro,sl.toList with
  | .ref C'::bm,[_,_,_,_,sF (.builtin n),_]=>C' == C && (n == "ValueError.__new__" && (!cd.hasDel && (cd.hasDict && PySem.W.tailIn K bmV bm)))
  | _,_=>sI)
 | _=>sI
theorem vQ{K:oO}{C:oP}(q:Z5 K C=sH):∃bm N nm qn bs sn sub ab col dd k0 k1 k2 k3 k5,K.lookup C=sF (rQ nm qn C N bs bm sH sn sub ab col dd k0 k1 k2 k3 k5 "ValueError.__new__")/\∀h:pb,K.In h->OwnTail h bmV bm:=by
 unfold Z5 at q
 split at q
 ·rename_i dd cd sl ho
  split at q
  ·rename_i C' bm k0 k1 k2 k3 n k5 hm hs
   simp only[cE,beq_iff_eq,Bool.not_eq_true'] at q
   obtain⟨rfl,rfl,hdel,hdct,ht⟩:=q
   obtain⟨nm,bs,mro,ns,qn,hd,sn,sub,ab,col,del⟩:=cd
   dsimp only at hm hdel hdct
   subst hm hdel hdct
   have hsl:sl=#[k0,k1,k2,k3,sF (.builtin "ValueError.__new__"),k5]:=by
    obtain⟨l⟩:=sl
    simp only at hs
    rw[hs]
   subst hsl
   exact⟨bm,ns,nm,qn,bs,sn,sub,ab,col,dd,k0,k1,k2,k3,k5,ho,λh X=>PySem.W.tail_of_in X ht⟩
  ·cases q
 ·cases q
structure XC(K:oO)(C:oP):Prop where
 ok:Z5 K C=sH
 sa:ah K (.ref C) "__setattr__" = sF (sF (.builtin "object.__setattr__"))
 ga:ah K (.ref C) "__getattribute__" = sF (sF (.builtin "BaseException.__getattribute__"))
 gt:ah K (.ref C) "__getattr__" = sF sG
 kp:aj K (.ref C)=sH
section
variable{prog:oV}{w:oX}{A:oY}{R:rR->oR->Prop}{h:pb}{g:Array sq}{d:Drawn}{t:Nat}{os:OsState}{K:oO}{C:oP}
theorem Xz{init:oQ}{rest:List oQ}(X:K.In h)(q:Z5 K C=sH)(hi:ah K (.ref C) "__init__" = sF (sF init))
  (hb:∀self,PySem.W.Looks (model prog w) h (bindSpecial init self) (init,[self])) (hrest:rest.length<=oN)
  (hq:pO (model prog w) (A.under (.builtin "type.__call__" ⟨.ref C::rest,[]⟩)) (.call init ⟨.ref (h.objs.size+1)::rest,[]⟩) (PySem.W.InitBack (h.objs.size+1) R) ⟨(h.push { cls:=.type "tuple",data:=.seq rest.toArray }).push (xob C sG h.objs.size .none),g,d,t,os⟩) :
  pO (model prog w) A (.call (.ref C) ⟨rest,[]⟩) R ⟨h,g,d,t,os⟩:=by
 obtain⟨bm,N,nm,qn,bs,sn,sub,ab,col,dd,k0,k1,k2,k3,k5,lk,tl⟩:=vQ q
 have hC:=X _ _ lk
 have T:=tl h X
 have F:=dN
 have f1:=tc_lookup
 have f2:=tc_bind (.ref C)
 have hT:(⟨h,g,d,t,os⟩:oR).TypeIs (.ref C) "type":=⟨_,hC,rfl⟩
 refine codeAny_of_tree ?_
 show oS _ _ (callAny (.ref C) _) _ _ _
 repeat (any_goals (first | assumption | with_reducible refine pJ hC ?_ | wp_step))
 refine⟨rfl,?_⟩
 refine codeAny_call_builtin_at (Code.quiet_builtin _ (by decide +kernel)) entry_typeCall (wpAny_check_type_call_sub hC ?_)
 repeat (first | with_reducible refine pJ hC ?_ | with_reducible refine wpAny_madeBy_exc hC ?_ | wp_step)
 refine codeAny_call_builtin_code (Code.quiet_builtin _ F.quiet) (wpAny_check_new_subT F T hC ?_)
 refine codeAny_exc_new_subT F T hC ?_ hrest
 show oS _ _ _ _ _ _
 have k:∀b o,h.get? b=sF o->((h.push { cls:=.type "tuple",data:=.seq rest.toArray }).push (xob C sG h.objs.size .none)).get? b=sF o:=λb o e=>aa _ (aa _ e)
 have hC1:=k _ _ hC
 have hget:((h.push { cls:=.type "tuple",data:=.seq rest.toArray }).push (xob C sG h.objs.size .none)).get? (h.objs.size+1)=sF (xob C sG h.objs.size .none):=by heap_get
 have hcC:(Value.ref C::bm).contains (.ref C)=sH:=by simp
 unfold isInstance
 repeat (first | with_reducible refine pJ hget ?_ | wp_step)
 refine pY (C:=C) hC1 ?_
 rw[hcC]
 repeat wp_step
 show oS _ _ (typeLookup (.ref C) _) _ _ _
 refine ((cB X hi).keeps k).at ?_
 refine pE (oH (((hb _).keeps k).at ?_))
 refine oH (pV (pX hq λr s' z=>?_))
 rcases r with e | (v | _ | _ | _) <;> first | exact z | exact z.elim | skip
 obtain⟨rfl,z⟩:=z
 exact oJ (oJ z)
end
end L3
namespace L3
noncomputable def XN(x C:oP)(dx:Option oP):HO:=.ext λh=>∃t,h.get? x=sF (xob C dx t .none)
noncomputable def XT(x C:oP)(dx:Option oP):HO:=.ext λh=>∃t tb c k,h.get? x=sF (xog C dx t tb c k)
noncomputable def XP(x C:oP)(dx:Option oP):HO:=.ext λh=>∃t tb,h.get? x=sF (xob C dx t tb)
theorem zaL{P:oV}{w:oX}{H:Hp}{h:pb}{x C t:oP}{dx:Option oP}(e:h.get? x=sF (xob C dx t .none)):ObjOk P w H h x (XN x C dx) :=
 ⟨⟨t,e⟩,⟨_,e⟩,λh1 h2 ⟨t,q⟩ k=>⟨t,k _ q⟩⟩
theorem zak{P:oV}{w:oX}{H:Hp}{h:pb}{x C t:oP}{dx:Option oP}{tb c:oQ}{k:Bool}(e:h.get? x=sF (xog C dx t tb c k)):ObjOk P w H h x (XT x C dx) :=
 ⟨⟨t,tb,c,k,e⟩,⟨_,e⟩,λh1 h2 ⟨t,tb,c,k',q⟩ k=>⟨t,tb,c,k',k _ q⟩⟩
theorem za0{P:oV}{w:oX}{H:Hp}{h:pb}{x C:oP}{dx:Option oP}(o:ObjOk P w H h x (XN x C dx)):∃t,h.get? x=sF (xob C dx t .none):=o.1
theorem zbV{P:oV}{w:oX}{H:Hp}{h:pb}{x C:oP}{dx:Option oP}(o:ObjOk P w H h x (XT x C dx)):∃t tb c k,h.get? x=sF (xog C dx t tb c k):=o.1
section
variable{nm q:oW}{C N:oP}{bs bm:List oQ}{hdct:Bool}{sn:List oW}{sub:List oQ}{ab:Bool}{col:Option Bool}{dd:Option oP}{k0 k1 k2 k3 k5:Option oQ}{newId:String}{h:pb}{M:sk}
theorem ZW(hC:h.get? C=sF (rQ nm q C N bs bm hdct sn sub ab col dd k0 k1 k2 k3 k5 newId))(base:oQ):PySem.W.Looks M h (isSubtype (.ref C) base) ((Value.ref C::bm).contains base):=λA Q E s k z=>by
 obtain⟨hp,g,d,t,os⟩:=s
 exact pY (k _ _ hC) z
theorem W4(hC:h.get? C=sF (rQ nm q C N bs bm hdct sn sub ab col dd k0 k1 k2 k3 k5 newId)):PySem.W.Looks M h (mroOf (.ref C)) (.ref C::bm):=λA Q E s k z=>by
 obtain⟨hp,g,d,t,os⟩:=s
 exact wpAny_mroOf_exc (k _ _ hC) z
theorem Ud(hC:h.get? C=sF (rQ nm q C N bs bm hdct sn sub ab col dd k0 k1 k2 k3 k5 newId)):PySem.W.Looks M h (classData C) { name:=nm,bases:=bs,mro:=.ref C::bm,ns:=N,qualname:=q,hasDict:=hdct,slotNames:=sn,subclasses:=sub,abstract:=ab,collection:=col,hasDel:=sI }:=λA Q E s k z=>by
 unfold classData
 exact oH (wpAny_load (k _ _ hC) (oJ z))
theorem Yx{bmB bm:List oQ}(T:OwnTail h bmB bm)(self:oQ)(hp:refuseLoop self "__setattr__" bmB=pure ()):refuseLoop self "__setattr__" bm=pure ():=by
 induction T with
 | base=>exact hp
 | own _ _ _ _ ih=>rw[refuseLoop_ref];exact ih
end
section
variable{X:Cx}{sJ:List (oP × pD)}{σ:St}{H:Hp}{s:oR}{A:oY}{E:oQ->oR->Prop}{x C:oP}{f:oW}{y:V}{u:oQ}
theorem JF{Q:Unit->oR->Prop}(I:Inv X sJ σ H s)(e:H x=sF (XN x C sG))(xc:XC X.K C)(n:NoAttr X.K C f)(ry:RelV y u)
  (h:∀s' dx,H dx=sG->Inv X sJ σ (upd (upd H dx (.xd [(f,y)])) x (XN x C (sF dx))) s'->Q () s'):oS (model X.prog X.w) A (setAttr (.ref x) f u) Q E s:=by
 obtain⟨t,ob⟩:=za0 (I.hok x _ e)
 obtain⟨bm,N,nm,qn,bs,sn,sub,ab,col,dd,k0,k1,k2,k3,k5,lk,tl⟩:=vQ xc.ok
 have hC:=I.kIn _ _ lk
 have T:=tl _ I.kIn
 have SF:=PySem.F.store_ValueError
 have J:PySem.W.InstAt s.heap x (xob C sG t .none) C sG:=⟨ob,rfl,rfl,trivial⟩
 have hob:(Value.ref C::bm).contains (.type "object")=sH:=by rw[df,T.hasType (show bmV.contains (.type "object")=sH by decide +kernel),dv]
 have isO:PySem.W.Looks (model X.prog X.w) s.heap (isInstance (.ref x) (.type "object")) sH:=J.type.andThen (by have:=ZW (M:=model X.prog X.w) hC (.type "object");rw[hob] at this;exact this)
 refine fh I.kIn J xc.sa ?_
 refine rj SF.slot.plain SF.entry (@PySem.W.check_slot (model X.prog X.w) _ _ { s with toks:=s.toks+1 } "object.__setattr__" "object" "__setattr__" (.ref x) [.str f s.toks,u] [] _ SF.kind SF.split isO (SF.args _ _ _) ?_)
 rw[PySem.W.osa_eq,refuse_eq]
 refine oH (oH (J.type.here (s:={ s with toks:=s.toks+1 }) (oH ((W4 hC).here (s:={ s with toks:=s.toks+1 }) ?_))))
 rw[refuseLoop_ref,Yx T _ (SF.passes _)]
 refine oJ (oH (J.type.here (s:={ s with toks:=s.toks+1 }) (oH ((cB I.kIn n).here (s:={ s with toks:=s.toks+1 }) (oH (oJ ?_))))))
 show oS _ _ (Builtin.ObjectAttr.storeInOwnDict (.ref x) (.ref C) (.str f s.toks) f u sI) _ _ _
 have hx1:(s.heap.push { cls:=.type "dict",data:=.dict #[] }).get? x=sF (xob C sG t .none):=aa _ ob
 have hxs:x≠s.heap.objs.size:=aE (ay ob)
 refine oH (oJ (oH (oH (rO ob (oH ((Ud hC).here (s:={ s with toks:=s.toks+1 }) ?_))))))
 rw[if_neg (by simp)]
 show oS _ _ (if (!sH || !typeHasDict (.ref C))=sH then _ else _) _ _ _
 rw[if_neg (by simp [typeHasDict])]
 have hgd:((s.heap.push { cls:=.type "dict",data:=.dict #[] }).update x λo=>{ cls:=o.cls,dict:=sF s.heap.objs.size,data:=o.data,slots:=o.slots }).get? s.heap.objs.size=sF { cls:=.type "dict",data:=.dict #[] } :=
  (aL _ _ hxs).trans (Heap.get?_push_at rfl rfl)
 have hgx:((s.heap.push { cls:=.type "dict",data:=.dict #[] }).update x λo=>{ cls:=o.cls,dict:=sF s.heap.objs.size,data:=o.data,slots:=o.slots }).get? x=sF (xob C (sF s.heap.objs.size) t .none) :=
  bW _ hx1 rfl
 have hnd:((s.heap.push { cls:=.type "dict",data:=.dict #[] }).update x λo=>{ cls:=o.cls,dict:=sF s.heap.objs.size,data:=o.data,slots:=o.slots }).Ns s.heap.objs.size (λ_=>sG) :=
  ⟨_,#[],_,hgd,rfl,λe he=>absurd he (by simp),λ_=>rfl⟩
 refine oH (wpAny_alloc' (oH (wpAny_update' hx1 (oJ ?_))))
 show oS _ _ (Builtin.ObjectAttr.storeInDict s.heap.objs.size (.str f s.toks) f u) _ _ _
 unfold Builtin.ObjectAttr.storeInDict Builtin.ObjectAttr.newKeyGuard
 refine oH (oJ (oH (wpAny_nsSet1 (Heap.Ns1.of_empty hnd) λh' hn' hs=>?_)))
 obtain⟨oD,esD,epD,hoD,hdD,hcD⟩:=hn'.count (Within.cons f u Within.nil)
 refine oH (su hoD (by rw[hdD];exact pastItsLine_dict (aO hcD (by rw[aM,cw,pA];lia))) ?_)
 refine oJ ?_
 have hx2:h'.get? x=sF (xob C (sF s.heap.objs.size) t .none):=(hs.2 x hxs).trans hgx
 have hfr:H s.heap.objs.size=sG:=I.hok.fresh (au _)
 have hxe:x≠s.heap.objs.size:=hxs
 refine h _ s.heap.objs.size hfr ?_
 have k0:∀b o,b≠x->s.heap.get? b=sF o->h'.get? b=sF o:=λb o hb q =>
  (hs.2 b (aE (ay q))).trans ((aL _ _ (Ne.symm hb)).trans (aa _ q))
 have I1:Inv X sJ σ (upd H x (XN x C (sF s.heap.objs.size))) { s with heap:=h',toks:=s.toks+1+1 } :=
  I.write (x:=x) (e:=x) (by rw[e];exact True.intro) (.inl rfl) k0 ⟨_,hx2⟩ (zaL hx2)
 have hd2:ObjOk X.prog X.w (upd (upd H x (XN x C (sF s.heap.objs.size))) s.heap.objs.size (.xd [(f,y)])) h' s.heap.objs.size (.xd [(f,y)]):=by
  refine⟨_,hn',λg=>?_⟩
  show RelO (bq g [(f,y)]) (if g=f then sF u else sG)
  by_cases q:g=f
  ·subst q
   rw[if_pos rfl]
   simp [bq,RelO,ry]
  ·rw[if_neg q]
   have q':(g == f)=sI:=by simpa using q
   simp [bq,q',RelO]
 have fd:xW X sJ (upd H x (XN x C (sF s.heap.objs.size))) s.heap.objs.size:=I.fpOk (au _) (by rw[zo (Ne.symm hxe)];exact hfr)
 have I2:=Inv.track I1 fd hd2
 have eH:upd (upd H x (XN x C (sF s.heap.objs.size))) s.heap.objs.size (.xd [(f,y)])=upd (upd H s.heap.objs.size (.xd [(f,y)])) x (XN x C (sF s.heap.objs.size)):=by
  funext b
  unfold upd
  by_cases b1:b=s.heap.objs.size
  ·subst b1
   rw[if_pos rfl,if_neg (Ne.symm hxe),if_pos rfl]
  ·by_cases b2:b=x
   ·subst b2
    rw[if_neg b1,if_pos rfl,if_pos rfl]
   ·rw[if_neg b1,if_neg b2,if_neg b2,if_neg b1]
 rw[eH] at I2
 exact I2
end
end L3
namespace L3
def Kd(K:oO)(ta tv:TE)(f:oW):TS:=λD σ H=>tv σ H λy H1=>ta σ H1 λo H2=>∃x C,o=.ref x/\H2 x=sF (XN x C sG)/\XC K C/\NoAttr K C f/\∀dx,H2 dx=sG->D.nx σ (upd (upd H2 dx (.xd [(f,y)])) x (XN x C (sF dx)))
section
variable{X:Cx}{o value:oZ}{f:oW}{pos pos':pS}{ta tv:TE}
theorem Vh(ha:PE X o ta)(hv:PE X value tv)(hs:swapsWith value (sF (.Attribute o f pos')) pos.line X.env=pure sI):PS X (.Assign [.Attribute o f pos'] value pos) (Kd X.K ta tv f):=by
 intro sJ s σ H D I h
 refine rf (thn (hv sJ s σ H _ I h) λu s1 ⟨y,H1,I1,ry,q⟩=>thn (ha sJ s1 σ H1 _ I1 q) λov s2 ⟨x',H2,I2,rx,x,C,ex,e,xc,n,q2⟩=>?_) hs
 subst ex
 obtain rfl:ov=Value.ref x:=rx
 exact JF I2 e xc n ry λs3 dx hdx I3=>⟨σ,_,I3,q2 dx hdx⟩
end
section
variable{M:sk}{A:oY}{E:oQ->oR->Prop}{s:oR}{env:rL}
theorem Vm{K:oO}{x:sx oQ}{Q:Flow->oR->Prop}(hh:A.handled=sG)
  (h:oS M A x (λv s1=>∃e C t dx,v=.ref e/\K.In s1.heap/\Z5 K C=sH/\s1.heap.get? e=sF (xob C dx t .none)/\E (.ref e) s1) E s):oS M A (raiseStmt env (sF x) sG) Q E s:=by
 unfold raiseStmt
 refine oH (thn h λv s1 h1=>?_)
 obtain⟨e,C,t,dx,rfl,X,hC,he,hE⟩:=h1
 obtain⟨bm,N,nm,qn,bs,sn,sub,ab,col,dd,k0,k1,k2,k3,k5,lk,tl⟩:=vQ hC
 have hCo:=X _ _ lk
 have T:=tl _ X
 have hcB:(Value.ref C::bm).contains (.type "BaseException")=sH:=by rw[df,T.hasType (show bmV.contains (.type "BaseException")=sH by decide +kernel),dv]
 obtain⟨hp,g,d,tk,os⟩:=s1
 repeat (first | with_reducible refine pJ he ?_ | with_reducible refine pJ hCo ?_ | (with_reducible refine pY hCo ?_;rw[hcB]) | wp_step)
 exact wpAny_raiseNew_none hh hE
theorem WN{K:oO}{e:oZ}{pos:pS}{Q:Flow->oR->Prop}(hh:A.handled=sG)
  (h:oS M A (eval e env) (λv s1=>∃a C t dx,v=.ref a/\K.In s1.heap/\Z5 K C=sH/\s1.heap.get? a=sF (xob C dx t .none)/\E (.ref a) s1) E s):oS M A (exec (.Raise (sF e) sG pos) env) Q E s:=by
 rw[arm_exec_Raise]
 first
  | exact oH (pN (Vm hh (oH (thn h λv s1 h1=>oH (pN (oJ h1))))))
  | (simp only[evalOpt,Option.map];exact oH (pN (Vm hh (oH (thn h λv s1 h1=>oH (pN (oJ h1)))))))
end
noncomputable def del(H:Hp)(x:oP):Hp:=λb=>if b=x then sG else H b
theorem WR{H:Hp}{x b:oP}(h:b≠x):del H x b=H b:=if_neg h
theorem YO{H:Hp}{x:oP}:del H x x=sG:=if_pos rfl
section
variable{X:Cx}{sJ:List (oP × pD)}{σ:St}{H:Hp}{s:oR}
theorem Inv.untrack{x:oP}{φ:pb->Prop}(I:Inv X sJ σ H s)(e:H x=sF (.ext φ))(hs:X.s₀.heap.objs.size<=x):Inv X sJ σ (del H x) s:=by
 have nx:∀b u,H b=sF u->(∀ψ,u≠.ext ψ)->b≠x:=λb u q nu z=>by subst z;rw[e] at q;cases q;exact nu _ rfl
 have hn:∀b,b≠x->del H x b=H b:=λb hb=>WR hb
 have es:s={ s with heap:=s.heap,gens:=s.gens,drawn:=s.drawn,toks:=s.toks }:=rfl
 rw[es]
 refine I.step (g':=s.gens) (d':=s.drawn) (ch:=[x]) (λb hb=>?_) (λb o _ _ _ q _=>q) (λb o _ _ _ q _=>⟨o.slots,q⟩) (λb o hc _ n=>?_)
  (λb o _ q=>⟨o,q⟩) (λb xs q=>?_) (λb u xs q=>?_) (λb ps q=>?_) (λm hm=>hm) (λb u q=>?_) I.bare
 ·have eb:b=x:=by simpa using hb
  subst eb
  refine⟨.inr hs,λz=>?_,λy c q z=>?_,λp hp z=>?_⟩
  ·rw[z,I.free] at e;cases e
  ·have:=I.freeC y c q;rw[z,e] at this;cases this
  ·have:=(I.pin p hp).2.1;rw[z,e] at this;cases this
 ·rw[hn b (by simpa using hc)];exact n
 ·rw[hn b (nx b _ q λ_ z=>by cases z)];exact q
 ·rw[hn b (nx b _ q λ_ z=>by cases z)];exact q
 ·exact⟨#[],by rw[hn b (nx b _ q λ_ z=>by cases z),q];simp⟩
 ·by_cases hb:b=x
  ·subst hb
   rw[YO] at q
   cases q
  ·rw[hn b hb] at q
   exact (I.hok b u q).stay (λc v _ z=>z) (λc z=>by rw[hn c (nx c _ z λ_ y=>by cases y)];exact z) λc xs z=>by rw[hn c (nx c _ z λ_ y=>by cases y)];exact z
theorem Wi{C:oP}{us:List oQ}{E:oQ->oR->Prop}{Q:oQ->oR->Prop}(I:Inv X sJ σ H s)(xc:Z5 X.K C=sH)(hi:ah X.K (.ref C) "__init__" = sF (sF (.builtin "ValueError.__init__")))(hl:us.length<=oN)
  (h:∀s' x t,s.heap.objs.size<=x->Inv X sJ σ H s'->s'.heap.get? x=sF (xob C sG t .none)->Q (.ref x) s'):oS (model X.prog X.w) X.A (call (.ref C) us) Q E s:=by
 have F:=dN
 obtain⟨bm,N,nm,qn,bs,sn,sub,ab,col,dd,k0,k1,k2,k3,k5,lk,tl⟩:=vQ xc
 have hC:=I.kIn _ _ lk
 have T:=tl _ I.kIn
 obtain⟨hp,g,d,t,os⟩:=s
 have k:∀b o,hp.get? b=sF o->((hp.push { cls:=.type "tuple",data:=.seq us.toArray }).push (xob C sG hp.objs.size .none)).get? b=sF o:=λb o e=>aa _ (aa _ e)
 refine pV (Xz I.kIn xc hi (λself=>PySem.W.Looks.of_pure (F.init.bind self)) hl ?_)
 have hget:((hp.push { cls:=.type "tuple",data:=.seq us.toArray }).push (xob C sG hp.objs.size .none)).get? (hp.objs.size+1)=sF (xob C sG hp.objs.size .none):=by heap_get
 refine rj F.init.plain F.initEntry (wpAny_check_init_subT F (T.keeps k) (k _ _ hC) hget rfl ?_)
 wp_walk
 refine⟨rfl,h _ (hp.objs.size+1) ((hp.push { cls:=.type "tuple",data:=.seq us.toArray }).push (xob C sG hp.objs.size .none)).objs.size (cC _) (I.kept (t':=t) λb o e=>?_) ?_⟩
 ·exact (aL _ _ (cb (ci (ay e)))).trans (aa _ (k b o e))
 ·exact bW (Obj.mapFields λx=>x.setIfInBounds 0 (Value.ref ((hp.push { cls:=.type "tuple",data:=.seq us.toArray }).push (xob C sG hp.objs.size .none)).objs.size)) (aa _ hget) rfl
def W8(E:XK)(C:oP)(t:TA):TS:=λ_ σ H=>t σ H λvs H1=>vs.length<=oN/\E (.ref C) sG H1
theorem yS{E:XK}{C:oP}{cn:oW}{np cpos pos:pS}{e:oZ}{es:List oZ}{t:TA}(hx:XE X E)(hc:X.calm=sH)(xc:XC X.K C)(hi:ah X.K (.ref C) "__init__" = sF (sF (.builtin "ValueError.__init__")))(hg:Gl X cn)(hm:X.mg cn=sF (.ref C))(ha:PA X (e::es) t)
  (hdb:(cn == ("__debug__" : oW))=sI:=by decide) (he:oM (e::es) X.env=(sI,eval e X.env)::oM es X.env:=by rfl) (hpl:(pj cpos (oM es X.env)).any (·.1)=sI:=by rfl) :
  PS X (.Raise (sF (.Call (.Name cn np) (e::es) [] cpos)) sG pos) (W8 E C t):=by
 intro sJ s σ H D I h
 refine WN (K:=X.K) (I.ok.hd hc) (pz (vt I hg hm ?_ hdb))
 refine bN (h₀:=X.base) I.ok.mod.kin xc.kp (thn (ha cpos sJ s σ H _ I h) λus s1 ⟨vs,H1,I1,r,z,q⟩=>⟨I1.kIn,?_⟩) he hpl
 refine Wi (us:=[] ++ us) I1 xc.ok hi (by show us.length<=oN;rw[<- r.length];exact z) λs2 x t hz I2 ob=>⟨x,C,t,sG,rfl,I2.kIn,xc.ok,ob,?_⟩
 exact hx _ _ ⟨sJ,σ,H1,x,C,t,sG,.none,rfl,I2,ob,.inl rfl,I1.fpOk hz (I1.hok.fresh hz),λT z=>(by cases z),q⟩
theorem Ue{A:oY}{C:oP}{us:List oQ}{k:Nat}(r:Room (k+1) A):Room k (A.under (.builtin "type.__call__" ⟨.ref C::us,[]⟩)):=r.make C us []
def VR(E:XK)(C:oP)(sp:Sp)(t:TA):TS:=λ_ σ H=>t σ H λvs H1=>vs.length<=oN/\∀x,H1 x=sG->sp (.ref x::vs) (upd H1 x (XN x C sG)) (λv H2=>v=.non/\∃dx,H2 x=sF (XN x C dx)/\E (.ref C) dx (del H2 x)) E0
theorem Zo{E:XK}{C f:oP}{fd:oU}{k:Nat}{ps:List oW}{sp:Sp}{cn:oW}{np cpos pos:pS}{e:oZ}{es:List oZ}{t:TA}(hx:XE X E)(hc:X.calm=sH)(xc:XC X.K C)(hi:ah X.K (.ref C) "__init__" = sF (sF (.ref f)))(hfn:bg X.K (.ref f)=sH)
  (F:FnOk X.prog X.w X.K X.mg X.base CX0 k f fd ps sp) (hr:Room (k+1) X.A) (hb:Binds X.K fd ps []) (hg:Gl X cn) (hm:X.mg cn=sF (.ref C)) (ha:PA X (e::es) t)
  (hdb:(cn == ("__debug__" : oW))=sI:=by decide) (he:oM (e::es) X.env=(sI,eval e X.env)::oM es X.env:=by rfl) (hpl:(pj cpos (oM es X.env)).any (·.1)=sI:=by rfl) :
  PS X (.Raise (sF (.Call (.Name cn np) (e::es) [] cpos)) sG pos) (VR E C sp t):=by
 intro sJ s σ H D I h
 refine WN (K:=X.K) (I.ok.hd hc) (pz (vt I hg hm ?_ hdb))
 refine bN (h₀:=X.base) I.ok.mod.kin xc.kp (thn (ha cpos sJ s σ H _ I h) λus s1 ⟨vs,H1,I1,r,z,q⟩=>⟨I1.kIn,?_⟩) he hpl
 have hl:us.length<=oN:=by rw[<- r.length];exact z
 have ob:((s1.heap.push { cls:=.type "tuple",data:=.seq us.toArray }).push (xob C sG s1.heap.objs.size .none)).get? (s1.heap.objs.size+1)=sF (xob C sG s1.heap.objs.size .none):=by heap_get
 have hfr:H1 (s1.heap.objs.size+1)=sG:=I1.hok.fresh (cC _)
 have I2:Inv X sJ σ (upd H1 (s1.heap.objs.size+1) (XN (s1.heap.objs.size+1) C sG)) { s1 with heap:=(s1.heap.push { cls:=.type "tuple",data:=.seq us.toArray }).push (xob C sG s1.heap.objs.size .none) } :=
  I1.laid (t':=s1.toks) (λb o e=>aa _ (aa _ e)) (cC _) (zaL ob)
 have q1:=q _ hfr
 have r2:Vals (V.ref (s1.heap.objs.size+1)::vs) (Value.ref (s1.heap.objs.size+1)::us):=.cons rfl r
 have hlen:(Value.ref (s1.heap.objs.size+1)::us ++ ([]:List oQ)).length=ps.length:=by
  rw[aS,<- r2.length]
  exact F.len _ _ _ _ q1
 have hb2:=hb { s1 with heap:=(s1.heap.push { cls:=.type "tuple",data:=.seq us.toArray }).push (xob C sG s1.heap.objs.size .none) } (Value.ref (s1.heap.objs.size+1)::us) I2.kIn hlen
 rw[aS] at hb2
 have run:=F.run _ X.stack _ _ ⟨Value.ref (s1.heap.objs.size+1)::us,[]⟩ (Value.ref (s1.heap.objs.size+1)::us) _ _ E0 (Ue (C:=C) (us:=us) hr) (I2.env0.make C us []) hb2 r2 q1
 have sz0:X.s₀.heap.objs.size<=s1.heap.objs.size+1:=aO I1.sz (cC _)
 show oS (model X.prog X.w) X.A (call (.ref C) us) _ X.xe s1
 refine pV ?_
 refine Xz (h:=s1.heap) (g:=s1.gens) (d:=s1.drawn) (t:=s1.toks) (os:=s1.os) (rest:=us) I1.kIn xc.ok hi (λself=>fq I1.kIn self (beq_iff_eq.mp hfn)) hl (pX run λr s' hq=>?_)
 cases r with
 | error e=>exact False.elim hq
 | ok fl =>
  cases fl with
  | ret u =>
   obtain⟨v,H',I3,rv,ev,dx,hx3,q3⟩:=I2.after hq
   subst ev
   refine⟨rv,?_⟩
   obtain⟨t,ob3⟩:=za0 (I3.hok _ _ hx3)
   have I4:=Inv.untrack I3 hx3 sz0
   refine⟨_,C,t,dx,rfl,I3.kIn,xc.ok,ob3,hx _ _ ⟨sJ,σ,_,_,C,t,dx,.none,rfl,I4,ob3,.inl rfl,?_,λT z=>(by cases z),q3⟩⟩
   exact I1.fpOk (cC _) YO
  | next=>exact False.elim hq
  | brk=>exact False.elim hq
  | cont=>exact False.elim hq
end
end L3
namespace L3
def KK(X:Cx)(sJ:List (oP × pD))(σ:St)(E:XK)(e:oQ)(s:oR):Prop:=∃(cx:oQ) (kx:Bool) (H:Hp) (x C t:oP) (dx:Option oP) (tb:oQ),e=.ref x/\Inv X sJ σ H s /\
 s.heap.get? x=sF (xog C dx t tb cx kx)/\KJ s.heap x tb/\xW X sJ H x/\(∀T,tb=.ref T->xW X sJ H T)/\E (.ref C) dx H
noncomputable abbrev TX:=St->Hp->VK->XK->Prop
def PEX(X:Cx)(e:oZ)(t:TX):Prop :=
 ∀(sJ:List (oP × pD)) (s:oR) (σ:St) (H:Hp) (Q:VK) (E:XK),Inv X sJ σ H s->t σ H Q E->oS (model X.prog X.w) X.A (eval e X.env) (EP X sJ σ Q) (KK X sJ σ E) s
section
variable{X:Cx}
variable{k:Nat}{f:oP}{fd:oU}{ps:List oW}{sp:Sp}{dvs:List V}{ds:List oQ}{x:oW}{p pos:pS}{e:oZ}{es:List oZ}{t:TA}
theorem QO(F:FnOk X.prog X.w X.K X.mg X.base (CXx X.prog X.w) k f fd ps sp)(hr:Room k X.A)(hg:Gl X x)(hm:X.mg x=sF (.ref f))(hk:aj X.K (.ref f)=sH)(hb:Binds X.K fd ps ds)(hd:Vals dvs ds)
  (ha:PA X.nox (e::es) t) (hdb:(x == ("__debug__" : oW))=sI:=by decide) (he:oM (e::es) X.env=(sI,eval e X.env)::oM es X.env:=by rfl) (hpl:(pj pos (oM es X.env)).any (·.1)=sI:=by rfl) :
  PEX X (.Call (.Name x p) (e::es) [] pos) (λσ H Q E=>t σ H λvs H1=>sp (vs ++ dvs) H1 Q E):=by
 intro sJ s σ H Q E I h
 refine pz (vt I hg hm ?_ hdb)
 refine bN (h₀:=X.base) I.ok.mod.kin hk (pC (thn (ha pos sJ s σ H _ (I.wish _) h) λus s1 ⟨vs,H1,I1,r,q⟩=>⟨I1.kIn,?_⟩)) he hpl
 have I1':Inv X sJ σ H1 s1:=I1.unwish
 have r2:Vals (vs ++ dvs) (us ++ ds):=r.append hd
 have hl:(us ++ ds).length=ps.length:=by rw[<- r2.length];exact F.len _ _ _ _ q
 refine pV (pX (F.run X.A X.stack s1 H1 ⟨us,[]⟩ (us ++ ds) (vs ++ dvs) Q E hr I1'.env0 (hb s1 us I1'.kIn hl) r2 q) λr s' hq=>?_)
 cases r with
 | error e =>
  obtain⟨x,C,t,dx,tb,H',rfl,os,bare,un,hok,ob,tr,hn,hsz,hT,q⟩:=hq
  exact⟨.none,sI,H',x,C,t,dx,tb,rfl,I1'.call' os un hok bare (λb z=>absurd z (by simp)),ob,tr,I1'.fpOk hsz hn,λT e=>I1'.fpOk (hT T e).2 (hT T e).1,q⟩
 | ok fl =>
  cases fl with
  | ret u=>exact I1'.after hq
  | next=>exact False.elim hq
  | brk=>exact False.elim hq
  | cont=>exact False.elim hq
end
noncomputable abbrev Cx.suite(X:Cx)(e:oQ):Cx:={ X with A:=X.A.mark (sF e),calm:=sI,xe:=λ_ _=>False }
theorem Inv.suite{X:Cx}{sJ:List (oP × pD)}{σ:St}{H:Hp}{s:oR}(I:Inv X sJ σ H s)(e:oQ):Inv (Cx.suite X e) sJ σ H s :=
 ⟨⟨I.ok.mod,I.ok.kind,I.ok.glob,I.ok.blt,I.ok.above,I.ok.inj,I.ok.has,I.ok.cab,λz=>absurd z (by simp [Cx.suite]),I.ok.frames,I.ok.stk,I.ok.exf,I.ok.bs,I.ok.bsz,I.ok.noex,I.ok.exfs,I.ok.funs,I.ok.frf⟩,
  I.os,I.bare,I.base,I.loc,I.cell,I.free,I.freeC,I.pin,I.hok,I.len⟩
theorem Inv.unsuite{X:Cx}{sJ:List (oP × pD)}{σ σ':St}{H H':Hp}{s s':oR}{e:oQ}(J:Inv X sJ σ' H' s')(I:Inv (Cx.suite X e) sJ σ H s):Inv X sJ σ H s :=
 ⟨J.ok,I.os,I.bare,I.base,I.loc,I.cell,I.free,I.freeC,I.pin,I.hok,I.len⟩
structure Hd where
 D:oP
 i:Nat
 ts:TS
def tHs(K:oO)(C:oP)(dx:Option oP)(x:oP)(Dd:vk)(σ:St)(H:Hp):List Hd->Prop
 | []=>False
 | h::r=>∃b,cJ K (.ref C) (.ref h.D)=sF b/\if b=sH then h.ts { Dd with nx:=λσ' H'=>Dd.nx (σ'.set h.i sG) H',bk:=λσ' H'=>Dd.bk (σ'.set h.i sG) H',ct:=λσ' H'=>Dd.ct (σ'.set h.i sG) H' } (σ.set h.i (sF (.ref x))) H else tHs K C dx x Dd σ H r
section
variable{X:Cx}{sJ:List (oP × pD)}{σ:St}{H:Hp}{s:oR}
end
theorem zbc{M:sk}{A:oY}{E:oQ->oR->Prop}{K:oO}{s:oR}{x C D t:oP}{dx:Option oP}{tb cx:oQ}{kx:Bool}{b:Bool}{Q:Bool->oR->Prop}(X:K.In s.heap)(hD:Z5 K D=sH)(he:s.heap.get? x=sF (xog C dx t tb cx kx))
  (hs:cJ K (.ref C) (.ref D)=sF b) (h:Q b s):oS M A (excMatches (.ref x) (.ref D)) Q E s:=by
 obtain⟨bm,N,nm,qn,bs,sn,sub,ab,col,dd,k0,k1,k2,k3,k5,lk,tl⟩:=vQ hD
 have hDo:=X _ _ lk
 have T:=tl _ X
 have hcB:(Value.ref D::bm).contains (.type "BaseException")=sH:=by rw[df,T.hasType (show bmV.contains (.type "BaseException")=sH by decide +kernel),dv]
 have L:=PySem.W.looks_subIn (M:=M) X hs
 have f:=tc_notTuple
 obtain⟨hp,g,d,tk,os⟩:=s
 unfold excMatches
 repeat (first | with_reducible refine pJ he ?_ | with_reducible refine pJ hDo ?_ | (with_reducible refine pY hDo ?_;rw[hcB]) | (with_reducible refine PySem.W.Looks.at L ?_) | wp_step)
 cases b with
 | false=>exact oJ (oJ (oJ h))
 | true=>exact oJ (oJ (oJ h))
section
variable{X:Cx}
noncomputable def tbL:oQ->List oP
 | .ref b=>[b]
 | _=>[]
def zc3(K:oO)(i:Nat)(te:TX)(hds:List Hd):TS:=λD σ H=>te σ H (λv H1=>D.nx (σ.set i (sF v)) H1) λcls dx H1=>∃C,cls=.ref C/\∀x,H1 x=sG->tHs K C dx x D σ (upd H1 x (XT x C dx)) hds
end
end L3
namespace L3
section
variable{prog:oV}{w:oX}{A:oY}{E:oQ->oR->Prop}{s:oR}{K:oO}{x C:oP}{ox:pD}{od:Option pD}{name:oW}{tk:rD}
theorem zbd{fill expr:Bool}{Q:oQ->oR->Prop}(X:K.In s.heap)(xc:XC K C)(J:PySem.W.InstAt s.heap x ox C od)
  (h:oS (model prog w) A.in1 (Builtin.«object.__getattribute__» ⟨[.ref x,.str name tk],[]⟩) (λfin s'=>match fin with | .done (.ret v)=>oS (model prog w) A (handedOut v) Q E s' | _=>False) (λ_ _=>False) s) :
  oS (model prog w) A (getAttrBy (.ref x) (.str name tk) fill expr) Q E s:=by
 obtain⟨bm,N,nm,qn,bs,sn,sub,ab,col,dd,k0,k1,k2,k3,k5,lk,tl⟩:=vQ xc.ok
 have hC:=X _ _ lk
 have T:=tl _ X
 have FB:=PySem.F.attrBase_ValueError
 have L0:=J.type (M:=model prog w)
 have L1:=cB (M:=model prog w) X xc.ga
 have L2:=cB (M:=model prog w) X xc.gt
 have hcB:(Value.ref C::bm).contains (.type "BaseException")=sH:=by rw[df,T.hasType (show bmV.contains (.type "BaseException")=sH by decide +kernel),dv]
 have isB:PySem.W.Looks (model prog w) s.heap (isInstance (.ref x) (.type "BaseException")) sH:=L0.andThen (by have:=ZW (M:=model prog w) hC (.type "BaseException");rw[hcB] at this;exact this)
 have f3:=FB.ga.bind (.ref x)
 have hx0:(expr && onTheHeap (Value.builtin "BaseException.__getattribute__"))=sI:=by cases expr <;> rfl
 have hx2:(Value.builtin "BaseException.__getattribute__" == Value.builtin "object.__getattribute__")=sI:=by decide +kernel
 have hx1:(onTheHeap (Value.ref C) && Value.builtin "BaseException.__getattribute__" == Value.builtin "object.__getattribute__")=sI:=by rw[hx2];rfl
 unfold getAttrBy
 refine pE (oH (L0.here (oH (L1.here ?_))))
 show oS _ _ (if (onTheHeap (Value.ref C) && Value.builtin "BaseException.__getattribute__" == Value.builtin "object.__getattribute__")=sH then _ else _) _ _ _
 rw[hx1,if_neg aF]
 unfold getAttrByItsOwn hookBefore
 rw[if_pos (by rfl)]
 refine oH (L2.here (oH (rg (pE ?_))))
 unfold callGetattribute
 rw[hx0,if_neg aF]
 unfold boundAndCalled
 rw[f3]
 refine oH (oJ ?_)
 show oS (model prog w) A (call (.builtin "BaseException.__getattribute__") [.ref x,.str name tk]) _ _ s
 refine pV (rj FB.ga.plain PySem.F.entry_bexc_ga (@PySem.W.check_slot (model prog w) _ _ s "BaseException.__getattribute__" "BaseException" "__getattribute__" (.ref x) [.str name tk] [] _ (by decide +kernel) (by decide +kernel) isB (PySem.F.args_bexc_ga _ _) ?_))
 refine pT h (λfin s' z=>?_) λ_ _ z=>z.elim
 rcases fin with (_ | _ | _ | v) | _ <;> first | exact z | exact z.elim
theorem Jb{Q:Option oQ->oR->Prop}(X:K.In s.heap)(xc:XC K C)(J:PySem.W.InstAt s.heap x ox C od)(ha:ah K (.ref C) "__class__" = sF (sF (.builtin "object.__class__")))
  (hn:cA K (.builtin "object.__class__") "__get__" = sF (sF (.builtin "getset_descriptor.__get__"))) (htk:du K (.builtin "object.__class__")=sF sH) (hm:bP K C (.type "object")=sF sH)
  (h:Q (sF (.ref C)) { s with toks:=s.toks+1 }):oS (model prog w) A (getAttr? (.ref x) "__class__") Q E s:=by
 have hf:ft K C od "__class__" = sF (.bind (.builtin "getset_descriptor.__get__") (.builtin "object.__class__")):=by
  obtain⟨bm,N,nm,qn,bs,sn,sub,ab,col,dd,k0,k1,k2,k3,k5,lk,tl⟩:=vQ xc.ok
  have hcl:(PySem.W.clsIn K C).isSome=sH:=by unfold PySem.W.clsIn;rw[lk];rfl
  obtain⟨cd,hc⟩:=Option.isSome_iff_exists.mp hcl
  unfold ft
  rw[hc,bU,ha,bU]
  simp [hn,htk]
 unfold getAttr? getAttrBy?
 refine oH (wpAny_mkText (oH (rg (zbd (s:={ s with toks:=s.toks+1 }) X xc J ?_))))
 have L0:=J.type (M:=model prog w)
 have L1:=PySem.W.looks_find (M:=model prog w) X J hf
 unfold Builtin.«object.__getattribute__»
 refine oH (oJ (oH (oJ (oH (L0.here (s:={ s with toks:=s.toks+1 }) (oH (L1.here (s:={ s with toks:=s.toks+1 }) ?_)))))))
 show oS _ _ (holding [.builtin "object.__class__"] (call (.builtin "getset_descriptor.__get__") [.builtin "object.__class__",.ref x,.ref C]) >>= ret) _ _ _
 refine oH (pE (pV (PySem.W.class_get (s:={ s with toks:=s.toks+1 }) X J hm ?_)))
 refine oJ ?_
 show oS _ _ (handedOut (.ref C)) _ _ _
 rw[PySem.W.handedOut_of rfl]
 exact oJ (oJ h)
end
structure XI(K:oO)(C:oP):Prop extends XC K C where
 ca:ah K (.ref C) "__class__" = sF (sF (.builtin "object.__class__"))
 cg:cA K (.builtin "object.__class__") "__get__" = sF (sF (.builtin "getset_descriptor.__get__"))
 ct:du K (.builtin "object.__class__")=sF sH
 mo:bP K C (.type "object")=sF sH
theorem zbb{h:pb}{x C t:oP}{tb c:oQ}{k:Bool}(ob:h.get? x=sF (xog C sG t tb c k)):PySem.W.InstAt h x (xog C sG t tb c k) C sG:=⟨ob,rfl,rfl,trivial⟩
theorem zbZ{K:oO}{x C:oP}{dx:Option oP}(xi:XI K C):PySem.W.KitX K (.ref x) (.ref C) (λh=>(∃t tb c k,h.get? x=sF (xog C dx t tb c k))/\∀d,dx=sF d->∃o,h.get? d=sF o) where
 ty:=λM h X ⟨⟨t,tb,c,k',ob⟩,_⟩=>(PySem.W.Looks.ld ob).andThen .now
 it:=λM h X _=>by
  obtain⟨bm,N,nm,qn,bs,sn,sub,ab,col,dd,k0,k1,k2,k3,k5,lk,tl⟩:=vQ xi.ok
  intro A' Q' E' s' k q
  unfold isType loadHead
  exact oH (rO (k _ _ (X _ _ lk)) (oJ q))
 ne:=λh tp dd its n sl X htp=>by
  obtain⟨bm,N,nm,qn,bs,sn,sub,ab,col,dd,k0,k1,k2,k3,k5,lk,tl⟩:=vQ xi.ok
  refine Bool.eq_false_iff.mpr λq=>?_
  have e:C=tp:=Value.ref.inj (beq_iff_eq.mp q)
  subst e
  have z:=congrArg (λo:Option pD=>o.map λo=>match o.data with | .cls _=>sH | _=>sI) ((X _ _ lk).symm.trans htp)
  exact absurd (show sH=sI from Option.some.inj z) (by decide)
 ca:=λ{prog w A E Q s} X ⟨⟨t,tb,c,k',ob⟩,hd⟩ k=>by
  cases dx with
  | none=>exact Jb X xi.toXC (zbb ob) xi.ca xi.cg xi.ct xi.mo k
  | some d =>
   obtain⟨o,e⟩:=hd d rfl
   exact Jb (od:=sF o) X xi.toXC ⟨ob,rfl,rfl,e⟩ xi.ca xi.cg xi.ct xi.mo k
section
variable{X:Cx}
def XAt(H:Hp)(x C:oP)(dx:Option oP)(fs:List (oW × V)):Prop:=H x=sF (XT x C dx)/\((dx=sG/\fs=[])\/∃d,dx=sF d/\H d=sF (.xd fs))
theorem V8:vP X (.builtin "isinstance") (λxs H Q=>∃x C dx fs c u b,xs=[.ref x,c]/\cV c=sF u/\XAt H x C dx fs/\XI X.K C/\aT X.K (.ref C) u=sF b/\Q (.bl b) H):=by
 intro sJ s σ H xs us Q I r h
 obtain⟨x,C,dx,fs,c,u,b,rfl,hc,⟨hx,hd⟩,xi,e,q⟩:=h
 obtain⟨v,w',rfl,rx,rc⟩:=Uh r
 cases rx
 have:w'=u:=by
  cases c with
  | ty n=>cases hc;exact rc
  | ref a=>cases hc;exact rc
  | _=>cases hc
 subst this
 refine bn (zbZ (dx:=dx) xi) I.kIn ⟨zbV (I.hok _ _ hx),λd z=>?_⟩ e (λz=>nomatch z) λtk=>⟨.bl b,H,I.tok tk,rfl,q⟩
 rcases hd with ⟨z',_⟩ | ⟨d',z',hd'⟩
 ·rw[z'] at z;cases z
 ·rw[z'] at z;cases z
  obtain⟨mA,⟨o,es,ep,ho,_⟩,_⟩:=I.hok _ _ hd'
  exact⟨o,ho⟩
def zcu(K:oO)(ta:TE)(f:oW):TE:=λσ H Q=>ta σ H λy H1=>∃x C dx fs v,y=.ref x/\XAt H1 x C dx fs/\XC K C/\bQ K C=sH/\NoAttr K C f/\fs.lookup f=sF v/\Q v H1
end
end L3
namespace L3
structure Df(P:oV)(w:oX)(K:oO)(mg:oW->Option oQ)(base:pb)(CX:CXT)(k:Nat)(nm:oW)(ps:List oW)(ds:List oQ)(sp:Sp):Prop where
 ex:∃f fd,FnOk P w K mg base CX k f fd ps sp/\mg nm=sF (.ref f)/\aj K (.ref f)=sH/\Binds K fd ps ds
structure Bt(mg:oW->Option oQ):Prop where
 len:mg "len" = sG
 range:mg "range" = sG
 isi:mg "isinstance" = sG
 str:mg "str" = sG
 int:mg "int" = sG
 tuple:mg "tuple" = sG
 list:mg "list" = sG
 bool:mg "bool" = sG
 enum:mg "enumerate" = sG
 all:mg "all" = sG
 verr:mg "ValueError" = sG
 max:mg "max" = sG
 rev:mg "reversed" = sG
 zip:mg "zip" = sG
 sum:mg "sum" = sG
 sorted:mg "sorted" = sG
section
variable{X:Cx}{CX:CXT}{k:Nat}{ps:List oW}{sp:Sp}{ds:List oQ}{dvs:List V}{E:XK}{x:oW}{p pos:pS}{e:oZ}{es:List oZ}{t:TA}
theorem cl0{j:Nat}(D:Df X.prog X.w X.K X.mg X.base CX0 k x ps ds sp)(hr:Room j X.A)(hd:Vals dvs ds)(hg:Gl X x)(ha:PA X (e::es) t)(hdb:(x == ("__debug__" : oW))=sI:=by decide)(he:oM (e::es) X.env=(sI,eval e X.env)::oM es X.env:=by rfl)
  (hpl:(pj pos (oM es X.env)).any (·.1)=sI:=by rfl) (hj:k<=j:=by decide):PE X (.Call (.Name x p) (e::es) [] pos) (jr sp dvs E0 t):=by
 obtain⟨f,fd,F,hm,hk,hb⟩:=D.ex
 exact Uv F (hr.mono hj) hg hm hk hb hd YI ha hdb he hpl
theorem clX{j:Nat}(D:Df X.prog X.w X.K X.mg X.base (CXx X.prog X.w) k x ps ds sp)(hr:Room j X.A)(hd:Vals dvs ds)(hg:Gl X x)(ha:PA X.nox (e::es) t)(hdb:(x == ("__debug__" : oW))=sI:=by decide)(he:oM (e::es) X.env=(sI,eval e X.env)::oM es X.env:=by rfl)
  (hpl:(pj pos (oM es X.env)).any (·.1)=sI:=by rfl) (hj:k<=j:=by decide):PEX X (.Call (.Name x p) (e::es) [] pos) (λσ H Q E=>t σ H λvs H1=>sp (vs ++ dvs) H1 Q E):=by
 obtain⟨f,fd,F,hm,hk,hb⟩:=D.ex
 exact QO F (hr.mono hj) hg hm hk hb hd ha hdb he hpl
theorem clP{j:Nat}(hx:XE X E)(D:Df X.prog X.w X.K X.mg X.base (CXx X.prog X.w) k x ps ds sp)(hr:Room j X.A)(hd:Vals dvs ds)(hg:Gl X x)(ha:PA X (e::es) t)(hdb:(x == ("__debug__" : oW))=sI:=by decide)(he:oM (e::es) X.env=(sI,eval e X.env)::oM es X.env:=by rfl)
  (hpl:(pj pos (oM es X.env)).any (·.1)=sI:=by rfl) (hj:k<=j:=by decide):PE X (.Call (.Name x p) (e::es) [] pos) (jr sp dvs E t):=by
 obtain⟨f,fd,F,hm,hk,hb⟩:=D.ex
 exact Uv F (hr.mono hj) hg hm hk hb hd (XF hx) ha hdb he hpl
end
def TyX(K:oO)(H:Hp)(x:V)(t:oQ):Prop:=Y5 K H x t\/(∃a C dx fs,x=.ref a/\t=.ref C/\XAt H a C dx fs/\XI K C)\/(∃a xs,x=.ref a/\t=.type "list"/\SqL K H a xs)\/∃a xs,x=.ref a/\t=.type "tuple"/\SqT K H a xs
def zcl(K:oO):List V->Hp->VK->Prop:=λxs H Q=>∃x c u t b,xs=[x,c]/\cV c=sF u/\TyX K H x t/\aT K t u=sF b/\Q (.bl b) H
theorem zbN{X:Cx}:vP X (.builtin "isinstance") (zcl X.K):=by
 intro sJ s σ H xs us Q I r h
 obtain⟨x,c,u,t,b,rfl,hc,ty,e,q⟩:=h
 rcases ty with ty | ⟨a,C,dx,fs,rfl,rfl,ha,xi⟩ | ⟨a,ys,rfl,rfl,hq⟩ | ⟨a,ys,rfl,rfl,hq⟩
 ·exact QB sJ s σ H _ us Q I r ⟨x,c,u,t,b,rfl,hc,ty,e,q⟩
 ·exact V8 sJ s σ H _ us Q I r ⟨a,C,dx,fs,c,u,b,rfl,hc,ha,xi,e,q⟩
 all_goals
  obtain⟨v,w',rfl,rx,rc⟩:=Uh r
  have:w'=u:=by
   cases c with
   | ty n=>cases hc;exact rc
   | ref a=>cases hc;exact rc
   | _=>cases hc
  subst this
  cases rx
 ·obtain⟨its,_,p,_⟩:=I.list hq
  obtain⟨o,h1,h2,_⟩:=p.isList
  exact bn dP I.kIn ⟨o,h1,h2⟩ e (λz=>nomatch z) λtk=>⟨.bl b,H,I.tok tk,rfl,q⟩
 ·obtain⟨its,_,p,_⟩:=I.tuple hq
  obtain⟨o,h1,h2,_⟩:=p
  exact bn eZ I.kIn ⟨o,h1,h2⟩ e (λz=>nomatch z) λtk=>⟨.bl b,H,I.tok tk,rfl,q⟩
theorem xG{X:Cx}{e:oZ}{te:TE}{c:oW}{n:String}{p q pos:pS}(h1:Gl X "isinstance")(h2:X.mg "isinstance" = sG)(he:PE X e te)(hg:Gl X c)(hm:X.mg c=sG)(hv:pF c=sF (.type n))(hn:c≠"__name__":=by decide)(hd:(c == ("__debug__" : oW))=sI:=by decide)
  (hs1:oM [e,.Name c q] X.env=(sI,eval e X.env)::oM [.Name c q] X.env:=by rfl) (hs3:oM [.Name c q] X.env=(sI,eval (.Name c q) X.env)::oM [] X.env:=by rfl) (hs2:(pj pos (oM [.Name c q] X.env)).any (·.1)=sI:=by rfl):PE X (.Call (.Name "isinstance" p) [e,.Name c q] [] pos) (tCB (zcl X.K) (zP te (zP (tC (.ty n)) vd))) :=
 zp zbN h1 h2 boot_isinstance (za he (za (K1 hg hm hv rfl hn hd) ze hs3) hs1) (he:=hs1) (hpl:=hs2)
theorem zau{a:oP}:cV (.ref a)=sF (.ref a):=rfl
theorem zbM{n:String}:cV (.ty n)=sF (.type n):=rfl
theorem zds{P w K mg base N q sc f cd A o s H}:(cxH P w K mg base N q sc f cd A o s H).K=K:=rfl
def W5:V->List V->Hp->VK->Prop:=λx xs H Q=>∃z y,x=.str z/\xs=[.str y]/\Q (.int (Txt.count z y)) H
theorem W7{X:Cx}:MtR X "str.count" W5:=QL
def zb1:V->List V->Hp->VK->Prop:=λx xs H Q=>∃z y,x=.str z/\xs=[.str y]/\Q (.int (Txt.find z y)) H
theorem VX(l:List Nat)(c:Nat):Txt.count (tx l) (tx [c])=(l.count c:Int):=by
 have h:∀l:List Nat,cnt c l=(l.count c:Int):=λl=>by
  induction l with
  | nil=>rfl
  | cons n r ih =>
   rw[cnt_cons,ih,List.count_cons]
   by_cases e:n=c
   ·subst e;simp;lia
   ·have:(n == c)=sI:=by simpa using e
    simp [e,this]
 exact (PyProof.Rows.count_is (tx l) c).trans (h l)
theorem lt1{a b:Nat}:([a]:List Nat) < [b] ↔ a<b:=by rw[List.cons_lt_cons_iff];exact⟨λh=>h.elim id λ⟨_,q⟩=>absurd q (List.not_lt_nil _),.inl⟩
theorem Um{l:List Nat}{k v:Nat}(h:l[k]? = sF v):(v::(l.take k ++ l.drop (k+1))).Perm l:=by
 obtain⟨hk,e⟩:=List.getElem?_eq_some_iff.mp h
 have e2:l.take k ++ (v::l.drop (k+1))=l:=by
  rw[<- e,<- aV hk,bK]
 exact (List.perm_middle.symm.trans (by rw[e2]))
def zaa(K:oO):List V->Hp->VK->Prop:=λxs H Q=>∃x n,xs=[x]/\zcr K x H n/\Q (.int n) H
theorem zX{X:Cx}:vP X (.builtin "len") (zaa X.K):=Qe
def ForR(lo:Int)(n:Nat)(g:TG)(tb:TS)(D:vk)(σ:St)(H:Hp):Prop:=∃W:Nat->Nat->St->Hp->Prop,(∃m,W 0 m σ H)/\∀i m σ H,W i m σ H ->
 ((Itr lo n).stop i H/\D.nx σ H)\/((Itr lo n).go i H/\∃N:St->Hp->Prop,(∀σ' H',N σ' H'->∃m',m'<m/\W (i+1) m' σ' H')/\∀x H',(Itr lo n).yld i H x H'->g x σ H' λσ2 H2=>tb { D with nx:=N,ct:=N,bk:=D.nx } σ2 H2)
theorem zbU{ta:TA}{g:TG}{tb:TS}{D:vk}{σ:St}{H:Hp}:UE (KC ta) g tb D σ H=ta σ H λvs H1=>∃j:Int,vs=[.int j]/\-(2 ^ 62)<=j/\j<2 ^ 62/\ForR 0 j.toNat g tb D σ H1:=rfl
theorem zch{ta:TA}{g:TG}{tb:TS}{D:vk}{σ:St}{H:Hp}:UE (zaT ta) g tb D σ H=ta σ H λvs H1=>∃i j:Int,vs=[.int i,.int j]/\(-(2 ^ 62)<=i/\i<2 ^ 62/\-(2 ^ 62)<=j/\j<2 ^ 62)/\ForR i (j - i).toNat g tb D σ H1:=rfl
theorem ForR.by{lo:Int}{n:Nat}{g:TG}{tb:TS}{D:vk}{σ:St}{H:Hp}(Pv:Nat->St->Hp->Prop)(h0:Pv 0 σ H)
  (hs:∀i σ H,i<n->Pv i σ H->g (.int (lo+i)) σ H λσ2 H2=>tb { D with nx:=Pv (i+1),ct:=Pv (i+1),bk:=D.nx } σ2 H2) (hd:∀σ H,Pv n σ H->D.nx σ H):ForR lo n g tb D σ H:=W6 Pv h0 hs hd
def ForL(K:oO)(a:oP)(g:TG)(tb:TS)(D:vk)(σ:St)(H:Hp):Prop:=∃W:Nat->Nat->St->Hp->Prop,(∃m,W 0 m σ H)/\∀i m σ H,W i m σ H ->
 ((Itl K a).stop i H/\D.nx σ H)\/((Itl K a).go i H/\∃N:St->Hp->Prop,(∀σ' H',N σ' H'->∃m',m'<m/\W (i+1) m' σ' H')/\∀x H',(Itl K a).yld i H x H'->g x σ H' λσ2 H2=>tb { D with nx:=N,ct:=N,bk:=D.nx } σ2 H2)
theorem zc2{K:oO}{tl:TE}{g:TG}{tb:TS}{D:vk}{σ:St}{H:Hp}:UE (JT K tl) g tb D σ H=tl σ H λx H1=>∃a,x=.ref a/\(∃xs,SqL K H1 a xs)/\ForL K a g tb D σ H1:=rfl
def ForS(x:oW)(g:TG)(tb:TS)(D:vk)(σ:St)(H:Hp):Prop:=∃W:Nat->Nat->St->Hp->Prop,(∃m,W 0 m σ H)/\∀i m σ H,W i m σ H ->
 ((Its x).stop i H/\D.nx σ H)\/((Its x).go i H/\∃N:St->Hp->Prop,(∀σ' H',N σ' H'->∃m',m'<m/\W (i+1) m' σ' H')/\∀v H',(Its x).yld i H v H'->g v σ H' λσ2 H2=>tb { D with nx:=N,ct:=N,bk:=D.nx } σ2 H2)
theorem zc4{tl:TE}{g:TG}{tb:TS}{D:vk}{σ:St}{H:Hp}:UE (zci tl) g tb D σ H=tl σ H λv H1=>∃x,v=.str x/\ForS x g tb D σ H1:=rfl
theorem ForS.by{l:List Nat}{g:TG}{tb:TS}{D:vk}{σ:St}{H:Hp}(Pv:Nat->St->Hp->Prop)(h0:Pv 0 σ H)
  (hs:∀i c σ H,l[i]? = sF c->Pv i σ H->g (.str (tx [c])) σ H λσ2 H2=>tb { D with nx:=Pv (i+1),ct:=Pv (i+1),bk:=D.nx } σ2 H2) (hd:∀σ H,Pv l.length σ H->D.nx σ H):ForS (tx l) g tb D σ H:=JJ Pv h0 hs hd
def zdi(x:oW)(g:TG)(tb:TS)(D:vk)(σ:St)(H:Hp):Prop:=∃W:Nat->Nat->St->Hp->Prop,(∃m,W 0 m σ H)/\∀i m σ H,W i m σ H ->
 ((Ite x).stop i H/\D.nx σ H)\/((Ite x).go i H/\∃N:St->Hp->Prop,(∀σ' H',N σ' H'->∃m',m'<m/\W (i+1) m' σ' H')/\∀v H',(Ite x).yld i H v H'->g v σ H' λσ2 H2=>tb { D with nx:=N,ct:=N,bk:=D.nx } σ2 H2)
theorem zc7{ta:TA}{g:TG}{tb:TS}{D:vk}{σ:St}{H:Hp}:UE (zbD ta) g tb D σ H=ta σ H λvs H1=>∃x,vs=[.str x]/\zdi x g tb D σ H1:=rfl
theorem ZB{α:Type}(l:List α){k:Int}(h:0<=k):cut l sG (sF k)=l.take k.toNat:=by
 obtain⟨n,rfl⟩:=bE h
 unfold cut
 rw[HT.sIx_none,HT.sIx_nat,dI,Nat.sub_zero]
 by_cases q:n<=l.length
 ·rw[cy q];rfl
 ·rw[dq (by lia),aQ,bf (by simp;lia)]
theorem uS{α:Type}(l:List α){k:Int}(h:0<=k):cut l (sF k) sG=l.drop k.toNat:=by
 obtain⟨n,rfl⟩:=bE h
 unfold cut
 rw[HT.sIx_none,HT.sIx_nat]
 by_cases q:n<=l.length
 ·rw[cy q]
  rw[bf (by rw[br] <;> lia)]
  rfl
 ·rw[dq (by lia),d6,aZ (by simp;lia)]
  simp
theorem vF{α:Type}{xs:List α}{i:Int}(h0:0<=i)(h1:i<xs.length):∃v,atI xs i=sF v/\xs[i.toNat]? = sF v:=by
 obtain⟨n,rfl⟩:=bE h0
 have hn:n<xs.length:=by lia
 exact⟨xs[n],JX (al hn),al hn⟩
noncomputable def alpha:List Nat:=[97,98,99,100,101,102,103,104,105,106,107,108,109,110,111,112,113,114,115,116,117,118,119,120,121,122]
theorem Vc:(("abcdefghijklmnopqrstuvwxyz" : oW))=tx alpha:=by decide +kernel
theorem ym:(oN:Nat)=16777216:=pA
theorem cxK{CX P w K mg base N q sc f cd A o s H E}:(qc CX P w K mg base N q sc f cd A o s H E).K=K:=rfl
theorem cxP{CX P w K mg base N q sc f cd A o s H E}:(qc CX P w K mg base N q sc f cd A o s H E).prog=P:=rfl
theorem cxW{CX P w K mg base N q sc f cd A o s H E}:(qc CX P w K mg base N q sc f cd A o s H E).w=w:=rfl
theorem zbO{a b:Int}:K0 (.int a) (.int b)=sH:=rfl
theorem zcx{a b:oW}:K0 (.str a) (.str b)=sH:=rfl
theorem zbB{a b:Bool}:K0 (.bl a) (.bl b)=sH:=rfl
theorem zb4{b:oW}:K0 .non (.str b)=sH:=rfl
theorem zbF{b:oW}:K0 (.str b) .non=sH:=rfl
theorem zd{H:Hp}{p:oP}{o:HO}(h:H p=sG):Same H (upd H p o):=λb u e=>by
 rw[zo (zH e h)]
 exact e
theorem zW{α:Type}{l:List α}{i:Nat}{c:α}(h:l[i]? = sF c):l.take (i+1)=l.take i ++ [c]:=by
 rw[List.take_add_one,h];rfl
end L3
namespace L3
structure FunD(K:oO)(x qual:oW)(st:pc)(dV:oQ)(f:oP)(fd:oU):Prop where
 ex:∃(oc:oQ) (od:Option oP) (kV doc pm:oQ) (an:Option oP) (cdv ct:oQ) (osl:Array (Option oQ)),
  fd=av x qual (zm st) (zk st) (zb st) dV kV doc pm an cdv ct/\K.lookup f=sF ⟨oc,od,.func fd,osl⟩/\ar K cdv qual=sH
theorem FunD.okX{P:oV}{w:oX}{K:oO}{mg:oW->Option oQ}{base:pb}{x qual:oW}{st:pc}{dV:oQ}{f:oP}{fd:oU}{N ps:List oW}{k:Nat}{sp:Sp}(F:FunD K x qual st dV f fd)(S:zq N ps (zb st))(len:∀vs H Q E,sp vs H Q E->vs.length=ps.length)
  (hbody:∀(cdv:oQ) (A:oY) (outer:List rL) (s:oR) (H:Hp) (vs:List V) (Q:VK) (E:XK),Room k (A.deeper (rn qual (zb st) s.heap.objs.size f cdv))->XE (qc (CXx P w) P w K mg base N qual (zb st) f cdv A outer s H E) E->sp vs H Q E ->
   ∃t,PSs (qc (CXx P w) P w K mg base N qual (zb st) f cdv A outer s H E) (zk st) t/\t { nx:=λ_ H'=>Q .non H',rt:=Q } (start N vs) H):FnOk P w K mg base (CXx P w) (k+1) f fd ps sp:=by
 obtain⟨oc,od,kV,doc,pm,an,cdv,ct,osl,rfl,lk,hcd⟩:=F.ex
 exact Qm lk hcd S len λA outer s H vs Q E hr hsp=>hbody cdv A outer s H vs Q E hr zaH hsp
def vJ(C:oP)(f:oW):Sp:=λvs H Q _=>∃x v,vs=[.ref x,v]/\H x=sF (XN x C sG)/\∀dx,H dx=sG->Q .non (upd (upd H dx (.xd [(f,v)])) x (XN x C (sF dx)))
def zbK(H:Hp)(d:oP)(f:oW)(v:V)(H':Hp):Prop:=H d=sG/\Same H H'/\H' d=sF (.xd [(f,v)])
theorem Vx{E:XK}{C:oP}{f:oW}{v:V}{H:Hp}(h:∀d H',zbK H d f v H'->E (.ref C) (sF d) H'):∀x,H x=sG->vJ C f [.ref x,v] (upd H x (XN x C sG)) (λu H2=>u=.non/\∃dx,H2 x=sF (XN x C dx)/\E (.ref C) dx (del H2 x)) E0:=by
 intro x hx
 refine⟨x,v,rfl,zf,λdx hd=>⟨rfl,sF dx,zf,h dx _ ⟨?_,?_,?_⟩⟩⟩
 ·by_cases e:dx=x
  ·rw[e];exact hx
  ·rw[zo e] at hd;exact hd
 ·have hne:dx≠x:=λe=>by rw[e,zf] at hd;cases hd
  rw[zo hne] at hd
  intro b o q
  have b1:b≠x:=zH q hx
  have b2:b≠dx:=zH q hd
  rw[WR b1,zo b1,zo b2,zo b1]
  exact q
 ·have hne:dx≠x:=λe=>by rw[e,zf] at hd;cases hd
  rw[WR hne,zo hne,zf]
section
variable{X:Cx}
def zdb:R2:=λx y H Q=>∃c l,x=.str (tx [c])/\y=.str (tx l)/\Q (.bl (!decide (c ∈ l))) H
def zdc:R2:=λx y H Q=>∃c l,x=.str (tx [c])/\y=.str (tx l)/\Q (.bl (decide (c ∈ l))) H
def zcK:R2:=λx y H Q=>y=.non/\Q (.bl (decide (x=.non))) H
theorem op_isN':OpR X (ph .Is) zcK:=zae
def zat:R2:=λx y H Q=>y=.non/\Q (.bl (!decide (x=.non))) H
theorem op_notN':OpR X (ph .IsNot) zat:=JB
def J4:List V->Hp->VK->Prop:=λxs H Q=>∃i j,xs=[.int i,.int j]/\Q (.int (if j > i then j else i)) H
theorem Uw(hc:X.calm=sH):vP X (.builtin "max") J4:=VT hc
def rGe:R2:=λx y H Q=>∃i j,x=.int i/\y=.int j/\Q (.bl (decide (j<=i))) H
theorem op_ge':OpR X (ph .GtE) rGe:=zcj
def zdn(K:oO)(ta:TE):TT:=λσ H Q=>ta σ H λx H'=>∃k,K4 K x H' k/\Q k H'
end
theorem uT:pF "max" = sF (.builtin "max"):=by decide +kernel
def KT(ls l:List Nat)(m:Int)(k:Nat):Prop:=∃c,l[k]? = sF c/\(m<=k\/c ∉ ls)
def FB(ls l:List Nat)(m:Int)(k:Nat):Prop:=KT ls l m k/\∀j<k,¬ KT ls l m j
def NB(ls l:List Nat)(m:Int):Prop:=∀j,¬ KT ls l m j
theorem FB.nb{ls l:List Nat}{m:Int}{k:Nat}(h:FB ls l m k)(n:NB ls l m):False:=n k h.1
end L3
namespace L3
inductive D where
 | non | bl (b:Bool) | int (i:Int) | str (x:oW) | lst (l:List D) | tup (l:List D)
mutual
def Is(K:oO)(H:Hp):D->V->Prop
 | .non,v=>v=.non
 | .bl b,v=>v=.bl b
 | .int i,v=>v=.int i
 | .str x,v=>v=.str x
 | .lst l,v=>∃a xs,v=.ref a/\SqL K H a xs/\Iss K H l xs
 | .tup l,v=>∃a xs,v=.ref a/\SqT K H a xs/\Iss K H l xs
def Iss(K:oO)(H:Hp):List D->List V->Prop
 | [],vs=>vs=[]
 | d::l,vs=>∃v r,vs=v::r/\Is K H d v/\Iss K H l r
end
mutual
noncomputable def eqD:D->D->Bool
 | .non,.non=>sH
 | .bl a,.bl b=>a == b
 | .bl a,.int b=>(if a then 1 else 0) == b
 | .int a,.bl b=>a == (if b then 1 else 0)
 | .int a,.int b=>a == b
 | .str a,.str b=>a == b
 | .lst l,.lst m=>jm l m
 | .tup l,.tup m=>jm l m
 | _,_=>sI
noncomputable def jm:List D->List D->Bool
 | [],[]=>sH
 | d::l,e::m=>eqD d e && jm l m
 | _,_=>sI
end
mutual
noncomputable def dpD:D->Nat
 | .lst l=>uO l+1
 | .tup l=>uO l+1
 | _=>0
noncomputable def uO:List D->Nat
 | []=>0
 | d::l=>max (dpD d) (uO l)
end
theorem J0:∀{l:List D} {j:Nat} {d:D},l[j]? = sF d->dpD d<=uO l
 | d::l,0,_,h=>by
  cases h
  simp only[uO]
  lia
 | d::l,j+1,e,h=>by
  have:=J0 (l:=l) (j:=j) (d:=e) h
  simp only[uO]
  lia
mutual
theorem kJ:∀d:D,eqD d d=sH
 | .non=>rfl
 | .bl b=>by simp [eqD]
 | .int i=>by simp [eqD]
 | .str x=>by simp [eqD]
 | .lst l=>by simp only[eqD];exact vC l
 | .tup l=>by simp only[eqD];exact vC l
theorem vC:∀l:List D,jm l l=sH
 | []=>rfl
 | d::l=>by simp only[jm,kJ d,vC l,Bool.and_self]
end
theorem Iss.len{K:oO}{H:Hp}:∀{l:List D} {vs:List V},Iss K H l vs->vs.length=l.length
 | [],vs,h=>by simp only[Iss] at h;rw[h];rfl
 | d::l,vs,h=>by
  simp only[Iss] at h
  obtain⟨v,r,rfl,_,h2⟩:=h
  simp only[aM,Iss.len h2]
theorem Iss.at{K:oO}{H:Hp}:∀{l:List D} {vs:List V} {j:Nat} {d:D},Iss K H l vs->l[j]? = sF d->∃v,vs[j]? = sF v/\Is K H d v
 | d::l,vs,0,_,h,q=>by
  cases q
  simp only[Iss] at h
  obtain⟨v,r,rfl,h1,_⟩:=h
  exact⟨v,rfl,h1⟩
 | d::l,vs,j+1,e,h,q=>by
  simp only[Iss] at h
  obtain⟨v,r,rfl,_,h2⟩:=h
  exact Iss.at (j:=j) h2 q
theorem Iss.append{K:oO}{H:Hp}:∀{l m:List D} {vs us:List V},Iss K H l vs->Iss K H m us->Iss K H (l ++ m) (vs ++ us)
 | [],m,vs,us,h,g=>by simp only[Iss] at h;rw[h];exact g
 | d::l,m,vs,us,h,g=>by
  simp only[Iss] at h
  obtain⟨v,r,rfl,h1,h2⟩:=h
  simp only[bF,Iss]
  exact⟨v,r ++ us,rfl,h1,Iss.append h2 g⟩
theorem Iss.ints{K:oO}{H:Hp}:∀(l:List Int),Iss K H (l.map D.int) (l.map V.int)
 | []=>by simp only[aN,Iss]
 | i::l=>by
  simp only[aC,Iss,Is]
  exact⟨_,_,rfl,rfl,Iss.ints l⟩
theorem zl{K:oO}{H H':Hp}{a:oP}{xs:List V}(e:Same H H')(h:SqT K H a xs):SqT K H' a xs:=by
 rcases h with (h | ⟨o,h⟩) | h
 ·exact .inl (.inl (e _ _ h))
 ·exact .inl (.inr ⟨o,e _ _ h⟩)
 ·exact .inr h
mutual
theorem Is.same{K:oO}{H H':Hp}(e:Same H H'):∀(d:D) (v:V),Is K H d v->Is K H' d v
 | .non,v,h=>by simp only[Is] at h ⊢;exact h
 | .bl b,v,h=>by simp only[Is] at h ⊢;exact h
 | .int b,v,h=>by simp only[Is] at h ⊢;exact h
 | .str b,v,h=>by simp only[Is] at h ⊢;exact h
 | .lst l,v,h=>by
  simp only[Is] at h ⊢
  obtain⟨a,xs,e1,e2,e3⟩:=h
  exact⟨a,xs,e1,e.seq e2,Iss.same e l xs e3⟩
 | .tup l,v,h=>by
  simp only[Is] at h ⊢
  obtain⟨a,xs,e1,e2,e3⟩:=h
  exact⟨a,xs,e1,zl e e2,Iss.same e l xs e3⟩
theorem Iss.same{K:oO}{H H':Hp}(e:Same H H'):∀(l:List D) (vs:List V),Iss K H l vs->Iss K H' l vs
 | [],vs,h=>by simp only[Iss] at h ⊢;exact h
 | d::l,vs,h=>by
  simp only[Iss] at h ⊢
  obtain⟨v,r,e1,e2,e3⟩:=h
  exact⟨v,r,e1,Is.same e d v e2,Iss.same e l r e3⟩
end
theorem vw:∀(l m:List D),jm l m=((aY (min l.length m.length)).all (λj=>eqD (l.getD j .non) (m.getD j .non)) && l.length == m.length)
 | [],[]=>rfl
 | [],e::m=>by simp [jm]
 | d::l,[]=>by simp [jm]
 | d::l,e::m=>by
  simp only[jm,vw l m,aM]
  have h1:min (l.length+1) (m.length+1)=min l.length m.length+1:=by lia
  rw[h1,eK,List.all_cons,List.all_map]
  have h2:(l.length+1 == m.length+1)=(l.length == m.length):=by
   rw[cZ,beq_iff_eq,beq_iff_eq];lia
  rw[h2]
  simp only[List.getD_cons_zero,Bool.and_assoc]
  rfl
section
variable{X:Cx}{sJ:List (oP × pD)}{σ:St}{H:Hp}{s:oR}
theorem ZM{a:oP}{xs ys:List V}(I:Inv X sJ σ H s)(h:SqL X.K H a xs)(g:SqT X.K H a ys):False:=by
 obtain⟨its,r,⟨o,n,e,c,_,d⟩,_⟩:=I.list h
 obtain⟨its',r',⟨o',e',c',n',d'⟩,_⟩:=I.tuple g
 rw[e] at e'
 cases e'
 rw[c] at c'
 exact absurd (Value.type.inj c') (by decide)
mutual
theorem VY(I:Inv X sJ σ H s):∀(d e:D) (v:V),Is X.K H d v->Is X.K H e v->d=e
 | .lst l,.lst m,v,h,g=>by
  simp only[Is] at h g
  obtain⟨a,xs,rfl,h1,h2⟩:=h
  obtain⟨b,ys,e,g1,g2⟩:=g
  cases e
  have:=I.list_inj h1 g1
  subst this
  rw[Ya I l m xs h2 g2]
 | .tup l,.tup m,v,h,g=>by
  simp only[Is] at h g
  obtain⟨a,xs,rfl,h1,h2⟩:=h
  obtain⟨b,ys,e,g1,g2⟩:=g
  cases e
  have:=I.tuple_inj h1 g1
  subst this
  rw[Ya I l m xs h2 g2]
 | .lst l,.tup m,v,h,g=>by
  simp only[Is] at h g
  obtain⟨a,xs,rfl,h1,h2⟩:=h
  obtain⟨b,ys,e,g1,g2⟩:=g
  cases e
  exact (ZM I h1 g1).elim
 | .tup l,.lst m,v,h,g=>by
  simp only[Is] at h g
  obtain⟨a,xs,rfl,h1,h2⟩:=h
  obtain⟨b,ys,e,g1,g2⟩:=g
  cases e
  exact (ZM I g1 h1).elim
 | .lst l,.non,v,h,g=>by simp only[Is] at h g;obtain⟨a,xs,rfl,_⟩:=h;cases g
 | .lst l,.bl _,v,h,g=>by simp only[Is] at h g;obtain⟨a,xs,rfl,_⟩:=h;cases g
 | .lst l,.int _,v,h,g=>by simp only[Is] at h g;obtain⟨a,xs,rfl,_⟩:=h;cases g
 | .lst l,.str _,v,h,g=>by simp only[Is] at h g;obtain⟨a,xs,rfl,_⟩:=h;cases g
 | .tup l,.non,v,h,g=>by simp only[Is] at h g;obtain⟨a,xs,rfl,_⟩:=h;cases g
 | .tup l,.bl _,v,h,g=>by simp only[Is] at h g;obtain⟨a,xs,rfl,_⟩:=h;cases g
 | .tup l,.int _,v,h,g=>by simp only[Is] at h g;obtain⟨a,xs,rfl,_⟩:=h;cases g
 | .tup l,.str _,v,h,g=>by simp only[Is] at h g;obtain⟨a,xs,rfl,_⟩:=h;cases g
 | .non,e,v,h,g=>by
  simp only[Is] at h
  subst h
  cases e <;> simp only[Is] at g
  all_goals first | rfl | (obtain⟨a,xs,q,_⟩:=g;cases q) | cases g
 | .bl _,e,v,h,g=>by
  simp only[Is] at h
  subst h
  cases e <;> simp only[Is] at g
  all_goals first | (cases g;rfl) | (obtain⟨a,xs,q,_⟩:=g;cases q) | cases g
 | .int _,e,v,h,g=>by
  simp only[Is] at h
  subst h
  cases e <;> simp only[Is] at g
  all_goals first | (cases g;rfl) | (obtain⟨a,xs,q,_⟩:=g;cases q) | cases g
 | .str _,e,v,h,g=>by
  simp only[Is] at h
  subst h
  cases e <;> simp only[Is] at g
  all_goals first | (cases g;rfl) | (obtain⟨a,xs,q,_⟩:=g;cases q) | cases g
theorem Ya(I:Inv X sJ σ H s):∀(l m:List D) (vs:List V),Iss X.K H l vs->Iss X.K H m vs->l=m
 | [],[],_,_,_=>rfl
 | [],e::m,vs,h,g=>by
  simp only[Iss] at h g
  subst h
  obtain⟨_,_,q,_⟩:=g
  cases q
 | d::l,[],vs,h,g=>by
  simp only[Iss] at h g
  subst g
  obtain⟨_,_,q,_⟩:=h
  cases q
 | d::l,e::m,vs,h,g=>by
  simp only[Iss] at h g
  obtain⟨v,r,rfl,h1,h2⟩:=h
  obtain⟨v',r',q,g1,g2⟩:=g
  cases q
  rw[VY I d e v h1 g1,Ya I l m r h2 g2]
end
theorem xX:∀{xs:List V} {us:List oQ} {j:Nat} {x:V},Vals xs us->xs[j]? = sF x->∃u,us[j]? = sF u/\RelV x u
 | _,_,0,_,.cons r t,h=>by cases h;exact⟨_,rfl,r⟩
 | _,_,j+1,_,.cons r t,h=>xX (j:=j) t h
theorem vb{l m:List D}{xs ys:List V}{its its':List oQ}{A:oY}{n:Nat}(hl:Iss X.K H l xs)(hm:Iss X.K H m ys)(r:Vals xs its)(r':Vals ys its')(hn:uO l<n)
  (ih:∀(d e:D) (x y:V) (u v:oQ),dpD d<n->Is X.K H d x->Is X.K H e y->RelV x u->RelV y v->SeqAt.EqAt A s u v (eqD d e)) :
  ∀j (h1:j<its.toArray.size) (h2:j<its'.toArray.size),SeqAt.EqAt A s its.toArray[j] its'.toArray[j] (eqD (l.getD j .non) (m.getD j .non)):=by
 intro j h1 h2
 rw[ao] at h1 h2
 have e1:=hl.len
 have e2:=hm.len
 have e3:=r.length
 have e4:=r'.length
 have g1:l[j]? = sF l[j]:=al (by lia)
 have g2:m[j]? = sF m[j]:=al (by lia)
 generalize l[j]=d at g1
 generalize m[j]=e at g2
 obtain⟨x,hx,ix⟩:=hl.at g1
 obtain⟨y,hy,iy⟩:=hm.at g2
 obtain⟨u,hu,ru⟩:=xX r hx
 obtain⟨v,hv,rv⟩:=xX r' hy
 have q1:its.toArray[j]=u:=by
  have:=(List.getElem?_eq_some_iff.mp hu).2
  simpa using this
 have q2:its'.toArray[j]=v:=by
  have:=(List.getElem?_eq_some_iff.mp hv).2
  simpa using this
 rw[q1,q2,ac,ac,g1,g2]
 exact ih d e x y u v (cp (J0 g1) hn) ix iy ru rv
theorem Zh(I:Inv X sJ σ H s):∀(n:Nat) (A:oY) (d e:D) (x y:V) (u v:oQ),A.units+n<cLine->dpD d<n->Is X.K H d x->Is X.K H e y->RelV x u->RelV y v->SeqAt.EqAt A s u v (eqD d e):=by
 intro n
 induction n with
 | zero=>intro A d e x y u v _ h;exact absurd h (cL _)
 | succ n ih =>
  intro A d e x y u v hu hd hx hy rx ry
  have hu1:A.units<cLine:=by lia
  have huA:A.in1.units+n<cLine:=by show A.units+1+n<cLine;lia
  cases d with
  | lst l =>
   simp only[Is] at hx
   obtain⟨a,xs,rfl,h1,h2⟩:=hx
   cases rx
   obtain⟨its,r,p,_⟩:=I.list h1
   cases e with
   | non=>simp only[Is] at hy;subst hy;cases ry;exact SeqAt.EqAt.list_none p.isList hu1
   | bl b=>simp only[Is] at hy;subst hy;cases ry;exact SeqAt.EqAt.list_bool b p.isList hu1
   | int b=>simp only[Is] at hy;subst hy;obtain⟨t,rfl⟩:=ry;exact SeqAt.EqAt.list_int b t p.isList hu1
   | str b=>simp only[Is] at hy;subst hy;obtain⟨t,rfl⟩:=ry;exact SeqAt.EqAt.list_str b t p.isList hu1
   | tup m =>
    simp only[Is] at hy
    obtain⟨b,ys,rfl,g1,g2⟩:=hy
    cases ry
    obtain⟨its',r',p',_⟩:=I.tuple g1
    exact SeqAt.EqAt.list_tuple p.isList p' hu1
   | lst m =>
    have hy':=hy
    simp only[Is] at hy
    obtain⟨b,ys,rfl,g1,g2⟩:=hy
    cases ry
    obtain⟨its',r',p',_⟩:=I.list g1
    simp only[dpD] at hd
    by_cases hab:a=b
    ·subst hab
     have:=VY I (.lst l) (.lst m) (.ref a) (by simp only[Is];exact⟨a,xs,rfl,h1,h2⟩) hy'
     rw[this,kJ]
     exact SeqAt.EqAt.same _
    ·refine .of_refs hab ?_
     simp only[eqD]
     have L1:=h2.len
     have L2:=g2.len
     have L3:=r.length
     have L4:=r'.length
     by_cases hl:l.length=m.length
     ·have:=SeqAt.RcAt.lists (A:=A) p.isList p'.isList (by simp only[ao];lia) hu1 (vb h2 g2 r r' (n:=n) (by lia) λd e x y u v q1 q2 q3 q4 q5=>ih A.in1 d e x y u v huA q1 q2 q3 q4 q5)
      rw[vw,hl,e7,beq_self_eq_true,eV]
      have e1:its.toArray.size=m.length:=by simp only[ao];lia
      rw[e1] at this
      exact this
     ·rw[vw,beq_eq_false_iff_ne.mpr hl,eN]
      exact SeqAt.RcAt.lists_lengths p.isList p'.isList (by rw[bne_iff_ne];simp only[ao];lia) hu1
  | tup l =>
   simp only[Is] at hx
   obtain⟨a,xs,rfl,h1,h2⟩:=hx
   cases rx
   obtain⟨its,r,p,_⟩:=I.tuple h1
   cases e with
   | non=>simp only[Is] at hy;subst hy;cases ry;exact SeqAt.EqAt.tuple_none p hu1
   | bl b=>simp only[Is] at hy;subst hy;cases ry;exact SeqAt.EqAt.tuple_bool b p hu1
   | int b=>simp only[Is] at hy;subst hy;obtain⟨t,rfl⟩:=ry;exact SeqAt.EqAt.tuple_int b t p hu1
   | str b=>simp only[Is] at hy;subst hy;obtain⟨t,rfl⟩:=ry;exact SeqAt.EqAt.tuple_str b t p hu1
   | lst m =>
    simp only[Is] at hy
    obtain⟨b,ys,rfl,g1,g2⟩:=hy
    cases ry
    obtain⟨its',r',p',_⟩:=I.list g1
    exact SeqAt.EqAt.tuple_list p p'.isList hu1
   | tup m =>
    have hy':=hy
    simp only[Is] at hy
    obtain⟨b,ys,rfl,g1,g2⟩:=hy
    cases ry
    obtain⟨its',r',p',_⟩:=I.tuple g1
    simp only[dpD] at hd
    by_cases hab:a=b
    ·subst hab
     have:=VY I (.tup l) (.tup m) (.ref a) (by simp only[Is];exact⟨a,xs,rfl,h1,h2⟩) hy'
     rw[this,kJ]
     exact SeqAt.EqAt.same _
    ·refine .of_refs hab ?_
     simp only[eqD]
     have L1:=h2.len
     have L2:=g2.len
     have L3:=r.length
     have L4:=r'.length
     have:=SeqAt.RcAt.tuples (A:=A) p p' hu1 (vb h2 g2 r r' (n:=n) (by lia) λd e x y u v q1 q2 q3 q4 q5=>ih A.in1 d e x y u v huA q1 q2 q3 q4 q5)
     rw[vw]
     simp only[ao] at this
     rw[<- L1,<- L2,L3,L4]
     exact this
  | non =>
   simp only[Is] at hx
   subst hx
   cases e with
   | lst m =>
    simp only[Is] at hy
    obtain⟨b,ys,rfl,g1,g2⟩:=hy
    cases rx;cases ry
    obtain⟨its',r',p',_⟩:=I.list g1
    exact SeqAt.EqAt.none_list p'.isList hu1
   | tup m =>
    simp only[Is] at hy
    obtain⟨b,ys,rfl,g1,g2⟩:=hy
    cases rx;cases ry
    obtain⟨its',r',p',_⟩:=I.tuple g1
    exact SeqAt.EqAt.none_tuple p' hu1
   | _=>simp only[Is] at hy;subst hy;exact Xm rx ry rfl rfl
  | bl c =>
   simp only[Is] at hx
   subst hx
   cases e with
   | lst m =>
    simp only[Is] at hy
    obtain⟨b,ys,rfl,g1,g2⟩:=hy
    cases rx;cases ry
    obtain⟨its',r',p',_⟩:=I.list g1
    exact SeqAt.EqAt.bool_list _ p'.isList hu1
   | tup m =>
    simp only[Is] at hy
    obtain⟨b,ys,rfl,g1,g2⟩:=hy
    cases rx;cases ry
    obtain⟨its',r',p',_⟩:=I.tuple g1
    exact SeqAt.EqAt.bool_tuple _ p' hu1
   | _=>simp only[Is] at hy;subst hy;exact Xm rx ry rfl rfl
  | int c =>
   simp only[Is] at hx
   subst hx
   cases e with
   | lst m =>
    simp only[Is] at hy
    obtain⟨b,ys,rfl,g1,g2⟩:=hy
    obtain⟨t,rfl⟩:=rx;cases ry
    obtain⟨its',r',p',_⟩:=I.list g1
    exact SeqAt.EqAt.int_list _ _ p'.isList hu1
   | tup m =>
    simp only[Is] at hy
    obtain⟨b,ys,rfl,g1,g2⟩:=hy
    obtain⟨t,rfl⟩:=rx;cases ry
    obtain⟨its',r',p',_⟩:=I.tuple g1
    exact SeqAt.EqAt.int_tuple _ _ p' hu1
   | _=>simp only[Is] at hy;subst hy;exact Xm rx ry rfl rfl
  | str c =>
   simp only[Is] at hx
   subst hx
   cases e with
   | lst m =>
    simp only[Is] at hy
    obtain⟨b,ys,rfl,g1,g2⟩:=hy
    obtain⟨t,rfl⟩:=rx;cases ry
    obtain⟨its',r',p',_⟩:=I.list g1
    exact SeqAt.EqAt.str_list _ _ p'.isList hu1
   | tup m =>
    simp only[Is] at hy
    obtain⟨b,ys,rfl,g1,g2⟩:=hy
    obtain⟨t,rfl⟩:=rx;cases ry
    obtain⟨its',r',p',_⟩:=I.tuple g1
    exact SeqAt.EqAt.str_tuple _ _ p' hu1
   | _=>simp only[Is] at hy;subst hy;exact Xm rx ry rfl rfl
def zcF(K:oO):R2:=λx y H Q=>∃l m,((Is K H (.lst l) x/\Is K H (.lst m) y)\/(Is K H (.tup l) x/\Is K H (.tup m) y))/\uO l<50/\Q (.bl (jm l m)) H
theorem Jp(hu:X.A.units+100<cLine):OpR X (ph .Eq) (zcF X.K):=by
 intro sJ s σ H x y v u Q I rx ry h
 obtain⟨l,m,hh,hd,q⟩:=h
 have hu1:X.A.units<cLine:=by lia
 have huA:X.A.in1.units+50<cLine:=by show X.A.units+1+50<cLine;lia
 rcases hh with ⟨hx,hy⟩ | ⟨hx,hy⟩
 ·simp only[Is] at hx hy
  obtain⟨a,xs,rfl,h1,h2⟩:=hx
  obtain⟨b,ys,rfl,g1,g2⟩:=hy
  cases rx;cases ry
  obtain⟨its,r,p,_⟩:=I.list h1
  obtain⟨its',r',p',_⟩:=I.list g1
  have L1:=h2.len
  have L2:=g2.len
  have L3:=r.length
  have L4:=r'.length
  by_cases hl:l.length=m.length
  ·have:=SeqAt.RcAt.lists (A:=X.A) p.isList p'.isList (by simp only[ao];lia) hu1 (vb h2 g2 r r' (n:=50) hd λd e x y u v q1 q2 q3 q4 q5=>Zh I 50 X.A.in1 d e x y u v huA q1 q2 q3 q4 q5)
   have e1:its.toArray.size=m.length:=by simp only[ao];lia
   rw[e1] at this
   rw[vw,hl,e7,beq_self_eq_true,eV] at q
   exact this X.prog X.w X.xe _ ⟨.bl _,H,I,rfl,q⟩
  ·rw[vw,beq_eq_false_iff_ne.mpr hl,eN] at q
   exact SeqAt.RcAt.lists_lengths p.isList p'.isList (by rw[bne_iff_ne];simp only[ao];lia) hu1 X.prog X.w X.xe _ ⟨.bl _,H,I,rfl,q⟩
 ·simp only[Is] at hx hy
  obtain⟨a,xs,rfl,h1,h2⟩:=hx
  obtain⟨b,ys,rfl,g1,g2⟩:=hy
  cases rx;cases ry
  obtain⟨its,r,p,_⟩:=I.tuple h1
  obtain⟨its',r',p',_⟩:=I.tuple g1
  have L1:=h2.len
  have L2:=g2.len
  have L3:=r.length
  have L4:=r'.length
  have:=SeqAt.RcAt.tuples (A:=X.A) p p' hu1 (vb h2 g2 r r' (n:=50) hd λd e x y u v q1 q2 q3 q4 q5=>Zh I 50 X.A.in1 d e x y u v huA q1 q2 q3 q4 q5)
  simp only[ao] at this
  rw[vw,<- L1,<- L2,L3,L4] at q
  exact this X.prog X.w X.xe _ ⟨.bl _,H,I,rfl,q⟩
end
theorem Z1(l m:List Int):jm (l.map D.int) (m.map D.int)=decide (l=m):=by
 induction l generalizing m with
 | nil=>cases m <;> simp [jm]
 | cons a l ih =>
  cases m with
  | nil=>simp [jm]
  | cons b m =>
   simp only[aC,jm,eqD,ih m]
   by_cases h1:a=b
   ·subst h1
    by_cases h2:l=m
    ·simp [h2]
    ·simp [h2]
   ·simp [h1]
theorem Ys(l:List Int):uO (l.map D.int)=0:=by
 induction l with
 | nil=>rfl
 | cons a l ih=>simp only[aC,uO,dpD,ih];rfl
abbrev CNx(n i:Nat)(Pv:Nat->List V->Hp->Prop)(sL:List V)(H:Hp):Prop:=∃m',m'<n - i/\(m'=n - (i+1)/\i+1<=n/\Pv (i+1) sL H)
theorem CNx.mk{n i:Nat}{Pv:Nat->List V->Hp->Prop}{sL:List V}{H:Hp}(hi:i<n)(h:Pv (i+1) sL H):CNx n i Pv sL H:=⟨n - (i+1),by lia,rfl,hi,h⟩
def XR(J:It)(g:TG)(tt:TT)(te:TE)(own:Nat)(ix:List Nat)(σ:St)(H1:Hp)(Q:VK)(D:oP):Prop:=∃W:Nat->Nat->List V->Hp->Prop,(∃m,W 0 m [] (upd H1 D (.lst []))) /\
 ∀i m sL H',W i m sL H'->(J.stop i H'/\Q (.ref D) H')\/(J.go i H'/\∀x H2,J.yld i H' x H2->g x (vo σ own ix) H2 λσ3 H3=>xt (vo σ own ix) σ3/\tt σ3 H3 λb H4=>if b=sH then
  te σ3 H4 λv H5=>H5 D=sF (.lst sL)/\sL.length<oN/\∃m',m'<m/\W (i+1) m' (sL ++ [v]) (upd H5 D (.lst (sL ++ [v])))
  else ∃m',m'<m/\W (i+1) m' sL H4)
def CompR(lo:Int)(n:Nat)(g:TG)(tt:TT)(te:TE)(own:Nat)(ix:List Nat)(σ:St)(H1:Hp)(Q:VK)(D:oP):Prop:=XR (Itr lo n) g tt te own ix σ H1 Q D
def CompL(K:oO)(a:oP)(g:TG)(tt:TT)(te:TE)(own:Nat)(ix:List Nat)(σ:St)(H1:Hp)(Q:VK)(D:oP):Prop:=XR (Itl K a) g tt te own ix σ H1 Q D
def CompS(x:oW)(g:TG)(tt:TT)(te:TE)(own:Nat)(ix:List Nat)(σ:St)(H1:Hp)(Q:VK)(D:oP):Prop:=XR (Its x) g tt te own ix σ H1 Q D
theorem zay{ta:TA}{g:TG}{tt:TT}{te:TE}{own:Nat}{ix:List Nat}{σ:St}{H:Hp}{Q:VK}:kB (KC ta) g tt te own ix σ H Q=ta σ H λvs H1=>∃j:Int,vs=[.int j]/\-(2 ^ 62)<=j/\j<2 ^ 62/\∀D,H1 D=sG->CompR 0 j.toNat g tt te own ix σ H1 Q D:=rfl
theorem zbL{K:oO}{tl:TE}{g:TG}{tt:TT}{te:TE}{own:Nat}{ix:List Nat}{σ:St}{H:Hp}{Q:VK}:kB (JT K tl) g tt te own ix σ H Q=tl σ H λx H1=>∃a,x=.ref a/\(∃xs,SqL K H1 a xs)/\∀D,H1 D=sG->CompL K a g tt te own ix σ H1 Q D:=rfl
theorem zcc{tl:TE}{g:TG}{tt:TT}{te:TE}{own:Nat}{ix:List Nat}{σ:St}{H:Hp}{Q:VK}:kB (zci tl) g tt te own ix σ H Q=tl σ H λv H1=>∃x,v=.str x/\∀D,H1 D=sG->CompS x g tt te own ix σ H1 Q D:=rfl
section
variable{g:TG}{tt:TT}{te:TE}{own:Nat}{ix:List Nat}{σ:St}{H1:Hp}{Q:VK}{D:oP}
theorem CompR.by{lo:Int}{n:Nat}(Pv:Nat->List V->Hp->Prop)(h0:Pv 0 [] (upd H1 D (.lst [])))
  (hs:∀i sL H',i<n->Pv i sL H'->g (.int (lo+i)) (vo σ own ix) H' λσ3 H3=>xt (vo σ own ix) σ3/\tt σ3 H3 λb H4=>if b=sH then
   te σ3 H4 λv H5=>H5 D=sF (.lst sL)/\sL.length<oN/\CNx n i Pv (sL ++ [v]) (upd H5 D (.lst (sL ++ [v]))) else CNx n i Pv sL H4)
  (hd:∀sL H',Pv n sL H'->Q (.ref D) H'):CompR lo n g tt te own ix σ H1 Q D:=by
 refine⟨λi m sL H=>m=n - i/\i<=n/\Pv i sL H,⟨n,by simp,aJ _,h0⟩,?_⟩
 rintro i m sL H' ⟨rfl,hi,p⟩
 by_cases hlt:i<n
 ·refine .inr ⟨hlt,λx H2 y=>?_⟩
  obtain⟨e,y⟩:=y
  subst e y
  exact hs i sL _ hlt p
 ·have e:i=n:=by lia
  subst e
  exact .inl ⟨au _,hd sL H' p⟩
theorem CompL.by{K:oO}{a:oP}{xs:List V}(Pv:Nat->List V->Hp->Prop)(h0:Pv 0 [] (upd H1 D (.lst [])))(hl:∀i sL H',i<=xs.length->Pv i sL H'->SqL K H' a xs)
  (hs:∀i x sL H',xs[i]? = sF x->Pv i sL H'->g x (vo σ own ix) H' λσ3 H3=>xt (vo σ own ix) σ3/\tt σ3 H3 λb H4=>if b=sH then
   te σ3 H4 λv H5=>H5 D=sF (.lst sL)/\sL.length<oN/\CNx xs.length i Pv (sL ++ [v]) (upd H5 D (.lst (sL ++ [v]))) else CNx xs.length i Pv sL H4)
  (hd:∀sL H',Pv xs.length sL H'->Q (.ref D) H'):CompL K a g tt te own ix σ H1 Q D:=by
 refine⟨λi m sL H=>m=xs.length - i/\i<=xs.length/\Pv i sL H,⟨xs.length,by simp,aJ _,h0⟩,?_⟩
 rintro i m sL H' ⟨rfl,hi,p⟩
 have q:=hl i sL H' hi p
 by_cases hlt:i<xs.length
 ·refine .inr ⟨⟨xs,xs[i],q,by simp [hlt]⟩,λx H2 y=>?_⟩
  obtain⟨e,y⟩:=y
  subst e
  exact hs i x sL _ (y xs q) p
 ·have e:i=xs.length:=by lia
  subst e
  exact .inl ⟨⟨xs,q,au _⟩,hd sL H' p⟩
theorem CompS.by{l:List Nat}(Pv:Nat->List V->Hp->Prop)(h0:Pv 0 [] (upd H1 D (.lst [])))
  (hs:∀i c sL H',l[i]? = sF c->Pv i sL H'->g (.str (tx [c])) (vo σ own ix) H' λσ3 H3=>xt (vo σ own ix) σ3/\tt σ3 H3 λb H4=>if b=sH then
   te σ3 H4 λv H5=>H5 D=sF (.lst sL)/\sL.length<oN/\CNx l.length i Pv (sL ++ [v]) (upd H5 D (.lst (sL ++ [v]))) else CNx l.length i Pv sL H4)
  (hd:∀sL H',Pv l.length sL H'->Q (.ref D) H'):CompS (tx l) g tt te own ix σ H1 Q D:=by
 refine⟨λi m sL H=>m=l.length - i/\i<=l.length/\Pv i sL H,⟨l.length,by simp,aJ _,h0⟩,?_⟩
 rintro i m sL H' ⟨rfl,hi,p⟩
 by_cases hlt:i<l.length
 ·refine .inr ⟨hlt,λv H2 y=>?_⟩
  obtain⟨e,c,hc,ev⟩:=y
  subst e ev
  exact hs i c sL _ hc p
 ·have e:i=l.length:=by lia
  subst e
  exact .inl ⟨rfl,hd sL H' p⟩
end
theorem wD{x:V}{r:St}:xt (sG::r) (sF x::r):=⟨rfl,λi v h=>by
 cases i with
 | zero=>cases h
 | succ i=>exact h⟩
theorem yb{X:Cx}{scope sc:pK}{own caps:List oW}{ix:List Nat}(h1:scope.kind=.function)(h2:scope.names.all (λy=>y.2 != .cell)=sH)(h3:scope.names.all (λy=>y.2 != .local || scope.names.lookup y.1 == sF .local)=sH)
  (h4:scope.names.all (λy=>y.2 != .free || sc.names.lookup y.1 == sF .cell)=sH) (hsc:X.env.scope=sc) (h5:own.all (λy=>scope.names.lookup y == sF .local)=sH) (h6:caps.all (λy=>scope.names.lookup y == sF .free)=sH) (h7:ix.map (λi=>X.N[i]?)=caps.map sF):qQ X scope own caps ix:=by
 refine⟨h1,λy hy=>?_,λy hy e=>?_,λy hy=>?_,λy hy=>?_,λy hy=>?_,h7⟩
 ·have:=List.all_eq_true.mp h2 y hy
  simpa using this
 ·have:=List.all_eq_true.mp h3 y hy
  rw[e] at this
  simpa using this
 ·have:=List.all_eq_true.mp h4 _ hy
  have:=by simpa using this
  show X.env.scope.names.lookup y=sF .cell
  rw[hsc]
  exact this
 ·have:=List.all_eq_true.mp h5 y hy
  simpa using this
 ·have:=List.all_eq_true.mp h6 y hy
  simpa using this
theorem ko{α:Type}(l:List α){a b:Int}(h0:0<=a)(h1:a<=b)(h2:b<=l.length):cut l (sF a) (sF b)=(l.drop a.toNat).take (b - a).toNat:=by
 obtain⟨m,rfl⟩:=bE h0
 obtain⟨n,rfl⟩:=bE (by lia:0<=b)
 unfold cut
 rw[HT.sIx_nat,HT.sIx_nat,cy (by lia),cy (by lia)]
 have:((n:Int) - (m:Int)).toNat=n - m:=by lia
 rw[this]
 rfl
theorem Yh{k:Nat}{A:oY}(r:Room k A):A.units+100<cLine:=by have:=r.un;lia
end L3
namespace L3
theorem Vv{K:oO}{x y:V}{H:Hp}{Q:VK}{l m:List D}(h:(Is K H (.lst l) x/\Is K H (.lst m) y)\/(Is K H (.tup l) x/\Is K H (.tup m) y))(hd:uO l<50)(q:Q (.bl (jm l m)) H):zcF K x y H Q:=⟨l,m,h,hd,q⟩
def zc0(t u:TS):TS:=λD σ H=>∃R:St->Hp->Prop,t { D with nx:=R } σ H/\∀σ' H',R σ' H'->u D σ' H'
theorem zi{X:Cx}{st:pc}{rest:List pc}{t u:TS}(h1:PS X st t)(h2:PSs X rest u):PSs X (st::rest) (zc0 t u):=by
 intro sJ s σ H D I h
 obtain⟨R,h,hr⟩:=h
 refine pW (thn (h1 sJ s σ H { D with nx:=R } I h) λf s1 q=>?_)
 cases f with
 | next =>
  obtain⟨σ',H',I',q⟩:=q
  exact h2 sJ s1 σ' H' D I' (hr _ _ q)
 | ret v=>exact q
 | brk=>exact q
 | cont=>exact q
theorem zj{t u:TS}{D:vk}{σ:St}{H:Hp}(R:St->Hp->Prop)(h:t { D with nx:=R } σ H)(hr:∀σ' H',R σ' H'->u D σ' H'):zc0 t u D σ H:=⟨R,h,hr⟩
theorem zG{H H':Hp}{a:oP}{o:HO}(h:Same H H')(e:H a=sG):Same H (upd H' a o):=λb u q=>by
 rw[zo (zH q e)]
 exact h b u q
theorem ForL.by{K:oO}{a:oP}{xs:List V}{g:TG}{tb:TS}{D:vk}{σ:St}{H:Hp}(Pv:Nat->St->Hp->Prop)(h0:Pv 0 σ H)(hl:∀i σ H,i<=xs.length->Pv i σ H->SqL K H a xs)
  (hs:∀i x σ H,xs[i]? = sF x->Pv i σ H->g x σ H λσ2 H2=>tb { D with nx:=Pv (i+1),ct:=Pv (i+1),bk:=D.nx } σ2 H2) (hd:∀σ H,Pv xs.length σ H->D.nx σ H):ForL K a g tb D σ H:=Qa Pv h0 hl hs hd
theorem Uy{A B:Prop}(h:B):if sH=sI then A else B:=by rw[if_neg (by decide)];exact h
def CompV(K:oO)(a:oP)(n:Nat)(g:TG)(tt:TT)(te:TE)(own:Nat)(ix:List Nat)(σ:L2.St)(H1:Hp)(Q:VK)(D:oP):Prop:=XR (Irv K a n) g tt te own ix σ H1 Q D
theorem zcy{K:oO}{ta:TA}{g:TG}{tt:TT}{te:TE}{own:Nat}{ix:List Nat}{σ:L2.St}{H:Hp}{Q:VK}:kB (zcI K ta) g tt te own ix σ H Q=ta σ H λvs H1=>∃a xs,vs=[.ref a]/\SqL K H1 a xs/\∀D,H1 D=sG->CompV K a xs.length g tt te own ix σ H1 Q D:=rfl
theorem CompV.by{K:oO}{a:oP}{xs:List V}{g:TG}{tt:TT}{te:TE}{own:Nat}{ix:List Nat}{σ:L2.St}{H1:Hp}{Q:VK}{D:oP}(Pv:Nat->List V->Hp->Prop)(h0:Pv 0 [] (upd H1 D (.lst [])))(hl:∀i sL H',i<=xs.length->Pv i sL H'->SqL K H' a xs)
  (hs:∀i x sL H',xs.reverse[i]? = sF x->Pv i sL H'->g x (vo σ own ix) H' λσ3 H3=>xt (vo σ own ix) σ3/\tt σ3 H3 λb H4=>if b=sH then
   te σ3 H4 λv H5=>H5 D=sF (.lst sL)/\sL.length<oN/\CNx xs.length i Pv (sL ++ [v]) (upd H5 D (.lst (sL ++ [v]))) else CNx xs.length i Pv sL H4)
  (hd:∀sL H',Pv xs.length sL H'->Q (.ref D) H'):CompV K a xs.length g tt te own ix σ H1 Q D:=by
 refine⟨λi m sL H=>m=xs.length - i/\i<=xs.length/\Pv i sL H,⟨xs.length,by simp,aJ _,h0⟩,?_⟩
 rintro i m sL H' ⟨rfl,hi,p⟩
 have q:=hl i sL H' hi p
 by_cases hlt:i<xs.length
 ·refine .inr ⟨⟨xs,q,rfl,hlt⟩,λx H2 y=>?_⟩
  obtain⟨e,y⟩:=y
  subst e
  refine hs i x sL _ ?_ p
  rw[bL hlt]
  exact y xs q rfl
 ·have e:i=xs.length:=by lia
  subst e
  exact .inl ⟨rfl,hd sL H' p⟩
end L3
namespace L3
section
variable{X:Cx}
theorem YL:∀{bs:List Bool} {its:List oQ} {i:Nat} {v:oQ},Vals (bs.map V.bl) its->its[i]? = sF v->v=.bool (bs.getD i sI)
 | [],_,_,_,.nil,h=>by cases h
 | b::bs,_,0,v,.cons r t,h=>by
  cases r
  cases h
  rfl
 | b::bs,_,i+1,v,.cons r t,h=>YL (bs:=bs) (i:=i) t h
end
end L3
namespace L3
section
variable{M:sk}{A:oY}{E:oQ->oR->Prop}{s:oR}{base:pb}{env env0:rL}{outer:List rL}{L x t C:oP}{dx:Option oP}
theorem za6{tb:oQ}{Q:Unit->oR->Prop}(hfr:A.frames=sF (env0::outer))(hl:s.heap.FunFrames base (env0::outer))(hf:env0.frame=sF L)(he:env.frame=sF L)
  (hx:s.heap.get? x=sF (xob C dx t tb)) (htb:KJ s.heap x tb)
  (h:∀h' T oT ts,h'.get? x=sF (xob C dx t (.ref T))->T≠x->(tb=.ref T\/s.heap.objs.size<=T)->h'.get? T=sF oT->oT.data=.fields ts->3<ts.size ->
   (∀b o,b≠x->tb≠.ref b->b ∉ frs (env0::outer)->s.heap.get? b=sF o->h'.get? b=sF o)->(∀b o,b≠x->tb≠.ref b->s.heap.get? b=sF o->∃sl,h'.get? b=sF { o with slots:=sl })->Q () { s with heap:=h' }) :
  oS M A (noteFrame (.ref x) env) Q E s:=by
 have land:∀(h1:pb) (T:oP) (oT:pD) (ts:Array oQ),h1.get? x=sF (xob C dx t (.ref T))->T≠x->(tb=.ref T\/s.heap.objs.size<=T)->h1.get? T=sF oT->oT.data=.fields ts->3<ts.size ->
   (∀b o,b≠x->tb≠.ref b->b ∉ frs (env0::outer)->s.heap.get? b=sF o->h1.get? b=sF o)->(∀b o,b≠x->tb≠.ref b->s.heap.get? b=sF o->∃sl,h1.get? b=sF { o with slots:=sl }) ->
   Q () { s with heap:=h1 }:=λh1 T oT ts e1 nT oldT e2 d2 z2 k1 k2=>h h1 T oT ts e1 nT oldT e2 d2 z2 k1 k2
 unfold noteFrame
 simp only[he]
 refine oH (pi hx rfl (x:=tb) rfl ?_)
 rcases htb with rfl | ⟨T,oT,ts,rfl,nT,e2,d2,z2⟩
 ·rw[if_neg (by decide)]
  refine ke hfr hl hf he hx λh' oT ts e1 ne e2 d2 z2 k1 k2=>land h' _ oT ts e1 ne (.inr (au _)) e2 d2 z2 (λb o hb _ hbf e=>k1 b o hb hbf e) λb o hb _ e=>k2 b o hb e
 ·rw[if_pos (show (Value.ref T != Value.none)=sH from by simp)]
  obtain⟨y,hy⟩:∃y,ts[3]? = sF y:=⟨ts[3],by simp [z2]⟩
  refine oH (pi e2 d2 (x:=y) hy ?_)
  by_cases c:(y == rawInt L)=sH
  ·rw[if_pos c]
   exact oJ (land s.heap T oT ts hx nT (.inl rfl) e2 d2 z2 (λb o _ _ _ e=>e) λb o _ _ e=>⟨o.slots,e⟩)
  ·rw[if_neg c]
   refine oH (pP e2 d2 z2 ?_)
   have oth:∀b,b≠T->(s.heap.update T (Obj.mapFields (·.setIfInBounds 3 Value.none))).get? b=s.heap.get? b:=λb hb=>aL _ _ (Ne.symm hb)
   have hl1:(s.heap.update T (Obj.mapFields (·.setIfInBounds 3 Value.none))).FunFrames base (env0::outer):=hl.of_keeps λb o hb hnf=>⟨o,(oth b λq=>by rw[q,e2] at hb;cases hb;exact hnf ts d2).trans hb,rfl⟩
   have hsz:(s.heap.update T (Obj.mapFields (·.setIfInBounds 3 Value.none))).objs.size=s.heap.objs.size:=dn ..
   refine ke (s:={ s with heap:=s.heap.update T (Obj.mapFields (·.setIfInBounds 3 Value.none)) }) hfr hl1 hf he ((oth x (Ne.symm nT)).trans hx) λh' oT' ts' e1 ne e2' d2' z2' k1 k2=>?_
   refine land h' _ oT' ts' e1 ne (.inr (by rw[hsz];exact au _)) e2' d2' z2' (λb o hb hbt hbf e=>k1 b o hb hbf ((oth b λq=>hbt (by rw[q])).trans e)) λb o hb hbt e=>k2 b o hb ((oth b λq=>hbt (by rw[q])).trans e)
end
section
variable{X:Cx}{sJ:List (oP × pD)}{σ:St}{H1:Hp}{s1:oR}
theorem Inv.noted{h':pb}{x T:oP}{tb:oQ}(I1:Inv X sJ σ H1 s1)(hst:X.stack=X.env::X.outer)(fx:xW X sJ H1 x)(fT:∀T,tb=.ref T->xW X sJ H1 T)(fT':xW X sJ H1 T)
  (k1:∀b o,b≠x->tb≠.ref b->b ∉ frs (X.env::X.outer)->s1.heap.get? b=sF o->h'.get? b=sF o) (k2:∀b o,b≠x->tb≠.ref b->s1.heap.get? b=sF o->∃sl,h'.get? b=sF { o with slots:=sl }):Inv X sJ σ H1 { s1 with heap:=h' }:=by
 have tbs:∀b,tb=.ref b->H1 b=sG:=λb hb=>(fT b hb).1
 have nch:∀b o,s1.heap.get? b=sF o->b ∉ (x::T::tbL tb)->b≠x/\tb≠.ref b:=λb o _ hb=>by
  refine⟨λz=>hb (by simp [z]),λz=>hb ?_⟩
  rw[z]
  simp [tbL]
 have un:Un (frs X.stack) (x::T::tbL tb) H1 H1 s1.heap h':=by
  rw[hst]
  refine⟨λb o e n hb hc=>?_,λb o e n hb hc=>?_,λb o e n _=>n,λb o e hc=>?_,λb xs e=>e,λb o u e=>e,λb ps e=>⟨#[],by rw[e];simp⟩⟩
  ·obtain⟨a1,a2⟩:=nch b o e hc
   exact k1 b o a1 a2 hb e
  ·obtain⟨a1,a2⟩:=nch b o e hc
   exact k2 b o a1 a2 e
  ·obtain⟨a1,a2⟩:=nch b o e hc
   obtain⟨sl,q⟩:=k2 b o a1 a2 e
   exact⟨_,q⟩
 have hok:HOk X.prog X.w H1 h':=λb u e=>by
  refine (I1.hok b u e).stay (λc v hc q=>k1 c v ?_ ?_ ?_ q) (λ_ q=>q) λ_ _ q=>q
  ·rintro rfl
   rcases hc with rfl | hc
   ·rw[fx.1] at e;cases e
   ·rw[fx.1] at hc;cases hc
  ·intro z
   have:=tbs c z
   rcases hc with rfl | hc
   ·rw[this] at e;cases e
   ·rw[this] at hc;cases hc
  ·intro z
   rw[<- hst] at z
   have:=I1.stkFree c z
   rcases hc with rfl | hc
   ·rw[this] at e;cases e
   ·rw[this] at hc;cases hc
 exact I1.call' (s':={ s1 with heap:=h' }) rfl un hok I1.bare λb hb=>by
  have fb:xW X sJ H1 b:=by
   rcases List.mem_cons.mp hb with z | z
   ·rw[z];exact fx
   ·rcases List.mem_cons.mp z with z | z
    ·rw[z];exact fT'
    ·cases tb with
     | ref b' =>
      have:b=b':=by simpa [tbL] using z
      rw[this];exact fT b' rfl
     | _=>simp [tbL] at z
  obtain⟨_,a1,_,a3,a4,a5⟩:=fb
  exact⟨a3,a1,a4,a5⟩
end
section
variable{X:Cx}{scope:pK}{own caps:List oW}{ix:List Nat}{cl:List (oW × oP)}
theorem Wy{N:List oW}{EX:XK}{sJ:List (oP × pD)}{σ:St}{H3:Hp}{s3:oR}{fp:List oP}{xe:oQ->oR->Prop}{e:oQ}{s1:oR}{RE:oQ->oR->Prop}(hst:X.stack=X.env::X.outer/\X.env.frame=sF X.env.locals)(hxe:XE X EX)
  (hc1:∀y c,cl.lookup y=sF c->X.env.cells.lookup y=sF c) (I3:Inv X sJ σ H3 s3) (f3:∀b ∈ fp,xW X sJ H3 b) (fl:zbm (yh X scope cl s3.heap.objs.size N sJ s3 H3 fp xe) EX e s1)
  (hRE:∀m s' x,s'.heap.Ns s3.heap.objs.size m->(∀h',Heap.SameBut s3.heap.objs.size s'.heap h'->∀cenv:rL,cenv.locals=s3.heap.objs.size->oS (model X.prog X.w) X.A (e8 "comprehension.variables-let-go" x cenv:sx oQ) (λ_ _=>False) X.xe { s' with heap:=h' })->RE x s') :
  notedBy (model X.prog X.w) X.A (compEnvC scope cl s3.heap.objs.size X.env) RE e s1:=by
 obtain⟨pins',σ',H1,x,C,t,dx,tb,rfl,I1,ob,tr,fx,fT,q⟩:=fl
 have IX:Inv X sJ σ H1 s1:=I3.call' (s':=s1) I1.os I1.base I1.hok I1.bare λb hb=>by
  obtain⟨_,a1,a2,a3,a4,a5⟩:=f3 b hb
  exact⟨a3,a1,a4,a5⟩
 have up:∀b,xW (yh X scope cl s3.heap.objs.size N sJ s3 H3 fp xe) pins' H1 b->xW X sJ H1 b:=λb hb=>by
  obtain⟨a0,a1,a2,a3,a4,a5⟩:=hb
  rcases a3 with a3 | a3
  ·exact⟨a0,(f3 b a3).2⟩
  ·exact I3.fpOk a3 a0
 have fx':=up x fx
 have fT':∀T,tb=.ref T->xW X sJ H1 T:=λT h=>up T (fT T h)
 have fr:X.A.frames=sF (X.env::X.outer):=by rw[<- hst.1];exact IX.ok.frames
 have ff:s1.heap.FunFrames X.base (X.env::X.outer):=by rw[<- hst.1];exact IX.stack
 obtain⟨m,hm,_⟩:=I1.loc
 have fC:xW X sJ H1 s3.heap.objs.size:=I3.fpOk (au _) I1.free
 refine za6 fr ff hst.2 hst.2 ob tr λh' T oT ts e1 nT oldT e2 d2 z2 k1 k2=>?_
 have fT2:xW X sJ H1 T:=by
  rcases oldT with z | z
  ·exact fT' T z
  ·exact IX.fpOk z (IX.hok.fresh z)
 have I2:Inv X sJ σ H1 { s1 with heap:=h' }:=Inv.noted IX hst.1 fx' fT' fT2 k1 k2
 have hCx:s3.heap.objs.size≠x:=λz=>fx.2.1 z.symm
 have hCtb:tb≠.ref s3.heap.objs.size:=λz=>(fT _ z).2.1 rfl
 obtain⟨oC,es,ep,hoC,rC⟩:=hm
 have hCT:T≠s3.heap.objs.size:=by
  rcases oldT with z | z
  ·exact (fT T z).2.1
  ·exact cb (aD (ay hoC) z)
 have hCf:s3.heap.objs.size ∉ frs (X.env::X.outer):=λz=>by
  rw[<- hst.1] at z
  rcases List.mem_cons.mp (IX.stkSub _ z) with y | y
  ·exact fC.2.1 y
  ·exact fC.2.2.1 y
 refine hRE m _ _ ⟨oC,es,ep,k1 _ _ hCx hCtb hCf hoC,rC⟩ λh2 sb cenv hcenv=>?_
 have I3':Inv X sJ σ H1 { s1 with heap:=h2 }:=I2.turned (t':=s1.toks) (λb o hb e=>(sb.2 b hb).trans e) fC.1 fC.2.1 fC.2.2.2.1 fC.2.2.2.2.1 fC.2.2.2.2.2
 have ob2:h2.get? x=sF (xob C dx t (.ref T)):=(sb.2 x (Ne.symm hCx)).trans e1
 have oT2:h2.get? T=sF oT:=(sb.2 T hCT).trans e2
 unfold e8
 refine oH (pi (s:={ s1 with heap:=h2 }) ob2 rfl (x:=.ref T) rfl ?_)
 rw[if_neg (show ¬ (Value.ref T == Value.none)=sH from by simp)]
 unfold setFlight
 refine oH (oH (pi (s:={ s1 with heap:=h2 }) ob2 rfl (x:=.ref T) rfl ?_))
 rw[if_pos (show (Value.ref T != Value.none)=sH from by simp)]
 refine pP (s:={ s1 with heap:=h2 }) oT2 d2 z2 (wpAny_throw (hxe _ _ ?_))
 have d3:=Obj.data_mapFields d2 (·.setIfInBounds 3 (cenv.frame.elim Value.none λf=>rawInt f))
 have I4:Inv X sJ σ H1 { s1 with heap:=h2.update T (Obj.mapFields (·.setIfInBounds 3 (cenv.frame.elim Value.none λf=>rawInt f))) } :=
  I3'.turned (t':=s1.toks) (λb o hb e=>(aL _ _ (Ne.symm hb)).trans e) fT2.1 fT2.2.1 fT2.2.2.2.1 fT2.2.2.2.2.1 fT2.2.2.2.2.2
 exact⟨sJ,σ,H1,x,C,t,dx,.ref T,rfl,I4,(aL _ _ nT).trans ob2,.inr ⟨T,_,_,rfl,nT,bW _ oT2 (Obj.isFreed_of_fields d3),d3,by simpa using z2⟩,fx',λT' z=>by cases z;exact fT2,q⟩
end
section
variable{X:Cx}{scope:pK}{own caps:List oW}{ix:List Nat}{elt tg iter:oZ}{ifs:List oZ}{pos:pS}{wi:TI}{g:TG}{tt:TT}{te:TE}
end
end L3
namespace L3
open PySem.AutoSeq1 (wpAny_loadPart')
open MeetsSeq MeetsSeq2 MeetsSeq3 SeqRoads2 SeqAt
def LtAt(A:oY)(s:oR)(y x:oQ)(b:Bool):Prop :=
 ∀(prog:oV) (w:oX) (E:oQ->oR->Prop) (Q:oQ->oR->Prop),Q (.bool b) s->oS (model prog w) A (richCompare .Lt y x) Q E s
def X3(e t r:Nat->Bool)(m n:Nat):Prop:=∀i,i<=m->i<=n->r i=if i<m/\i<n then (if e i=sH then r (i+1) else t i) else decide (m<n)
theorem VN(l b:oP)(items sK:Array oQ)(n n2:Nat)(dd dd2:Option oP)(sl sl2:Array (Option oQ))(e t r:Nat->Bool)(hr:X3 e t r items.size sK.size)(k:Nat) :
  ∀i:Nat,i<=items.size->i<=sK.size->items.size - i=k->Meets (Builtin.«list.__eq__.loop» ⟨[.ref l,.ref b,rawInt i,rawInt 0],[]⟩)
   (λA R s=>s.heap.get? l=sF { cls:=.type "list",dict:=dd,data:=.seq items n,slots:=sl }/\s.heap.get? b=sF { cls:=.type "list",dict:=dd2,data:=.seq sK n2,slots:=sl2 } /\
    (∀j (h1:j<items.size) (h2:j<sK.size),EqAt A.in1 s items[j] sK[j] (e j))/\(∀j (h1:j<items.size) (h2:j<sK.size),e j=sI->LtAt A.in1 s items[j] sK[j] (t j)) /\
    R (.ok (.ret (.bool (r i)))) s):=by
 induction k with
 | zero =>
  intro i b1 b2 hk prog w A R s h
  obtain⟨hp,g,d,tk,os⟩:=s;obtain⟨hl,hb,he,ht,h⟩:=h
  have hri:=hr i b1 b2
  rw[if_neg (by lia)] at hri
  rw[hri] at h
  wp_walk using wpAny_loadPart' hl,wpAny_loadPart' hb
  have hi1:items[((i:Nat):Int).toNat]? = sG:=by simp;lia
  rw[hi1]
  wp_walk using wpAny_loadPart' hl,wpAny_loadPart' hb
  exact h
 | succ k ih =>
  intro i b1 b2 hk prog w A R s h
  obtain⟨hp,g,d,tk,os⟩:=s;obtain⟨hl,hb,he,ht,h⟩:=h
  have hlt:i<items.size:=by lia
  have hi1:items[((i:Nat):Int).toNat]? = sF items[i]:=by simp [hlt]
  have hc:((i:Int)+1)=((i+1:Nat):Int):=by push_cast;rfl
  have hri:=hr i b1 b2
  by_cases hlt2:i<sK.size
  ·rw[if_pos ⟨hlt,hlt2⟩] at hri
   rw[hri] at h
   have hi2:sK[((i:Nat):Int).toNat]? = sF sK[i]:=by simp [hlt2]
   wp_walk using wpAny_loadPart' hl,wpAny_loadPart' hb
   rw[hi1,hi2]
   refine oH (he i hlt hlt2 prog w _ _ ?_)
   cases hb':e i with
   | true =>
    rw[hb',if_pos rfl] at h
    wp_walk
    rw[hc]
    exact⟨plainId_quiet plain_eq_loop _,ra entry_eq_loop (by
     rw[Around.under_plainId plain_eq_loop _]
     exact ih (i+1) (by lia) (by lia) (by lia) prog w A R _ ⟨hl,hb,he,ht,h⟩)⟩
   | false =>
    rw[hb',if_neg aF] at h
    wp_walk using wpAny_loadPart' hl,wpAny_loadPart' hb
    rw[hi1,hi2]
    refine oH (ht i hlt hlt2 hb' prog w _ _ ?_)
    wp_walk
    exact h
  ·rw[if_neg (by lia)] at hri
   rw[hri] at h
   have hi2:sK[((i:Nat):Int).toNat]? = sG:=by simp;lia
   wp_walk using wpAny_loadPart' hl,wpAny_loadPart' hb
   rw[hi1,hi2]
   wp_walk using wpAny_loadPart' hl,wpAny_loadPart' hb
   exact h
theorem Vf(l b:oP)(items sK:Array oQ)(n n2:Nat)(dd dd2:Option oP)(sl sl2:Array (Option oQ))(e t r:Nat->Bool)(hr:X3 e t r items.size sK.size) :
  Meets (Builtin.«list.__lt__» ⟨[.ref l,.ref b],[]⟩)
   (λA R s=>s.heap.get? l=sF { cls:=.type "list",dict:=dd,data:=.seq items n,slots:=sl }/\s.heap.get? b=sF { cls:=.type "list",dict:=dd2,data:=.seq sK n2,slots:=sl2 } /\
    (∀j (h1:j<items.size) (h2:j<sK.size),EqAt A.in1 s items[j] sK[j] (e j))/\(∀j (h1:j<items.size) (h2:j<sK.size),e j=sI->LtAt A.in1 s items[j] sK[j] (t j)) /\
    R (.ok (.ret (.bool (r 0)))) s):=by
 intro prog w A R s h
 obtain⟨hp,g,d,tk,os⟩:=s;obtain⟨hl,hb,he,ht,h⟩:=h
 have f3:=AutoSeq1.sub_list_list
 wp_walk using wpAny_loadPart' hl,wpAny_loadPart' hb
 exact⟨plainId_quiet plain_eq_loop _,ra entry_eq_loop (by
  rw[Around.under_plainId plain_eq_loop _]
  exact VN l b items sK n n2 dd dd2 sl sl2 e t r hr _ 0 (aJ _) (aJ _) rfl prog w A R _ ⟨hl,hb,he,ht,h⟩)⟩
theorem Wj(l b:oP)(items sK:Array oQ)(n n2:Nat)(dd dd2:Option oP)(sl sl2:Array (Option oQ))(e t r:Nat->Bool)(hr:X3 e t r items.size sK.size) :
  Meets (Builtin.«tuple.__lt__» ⟨[.ref l,.ref b],[]⟩)
   (λA R s=>s.heap.get? l=sF { cls:=.type "tuple",dict:=dd,data:=.seq items n,slots:=sl }/\s.heap.get? b=sF { cls:=.type "tuple",dict:=dd2,data:=.seq sK n2,slots:=sl2 } /\
    (∀j (h1:j<items.size) (h2:j<sK.size),EqAt A.in1 s items[j] sK[j] (e j))/\(∀j (h1:j<items.size) (h2:j<sK.size),e j=sI->LtAt A.in1 s items[j] sK[j] (t j)) /\
    R (.ok (.ret (.bool (r 0)))) s) :=
 .of_wp λprog w A R s h=>by
  obtain⟨hp,g,d,tk,os⟩:=s;obtain⟨hl,hb,he,ht,h⟩:=h
  have f2:=AutoSeq1.sub_tuple_tuple
  have hZ:(items.toList.zip sK.toList).length=min items.size sK.size:=by simp
  wp_walk using wpAny_loadPart' hl,wpAny_loadPart' hb,wpAny_forIn_list _ (λrest b s'=>b.1=sG/\s'=⟨hp,g,d,tk,os⟩/\∃i,i<=min items.size sK.size/\rest=(items.toList.zip sK.toList).drop i /\
   R (.ok (.ret (.bool (r i)))) ⟨hp,g,d,tk,os⟩) _
  case turn =>
   rintro⟨y,x⟩ rest b s' ⟨hb',rfl,i,hi,hz,hR⟩
   have hlt:i<(items.toList.zip sK.toList).length:=by
    rcases d7 i (items.toList.zip sK.toList).length with h' | h'
    ·exact h'
    ·rw[aZ h'] at hz;cases hz
   have hm:i<min items.size sK.size:=hZ ▸ hlt
   have h1:i<items.size:=aD hm (Nat.min_le_left _ _)
   have h2:i<sK.size:=aD hm (Nat.min_le_right _ _)
   rw[aV hlt] at hz
   injection hz with hyx hrest
   have hy:y=items[i]:=by have:=congrArg Prod.fst hyx;simpa using this
   have hx:x=sK[i]:=by have:=congrArg Prod.snd hyx;simpa using this
   subst hy hx
   have hri:=hr i (by lia) (by lia)
   rw[if_pos ⟨h1,h2⟩] at hri
   rw[hri] at hR
   refine oH (he i h1 h2 prog w _ _ ?_)
   cases hy:e i with
   | true =>
    rw[hy,if_pos rfl] at hR
    wp_walk
    exact⟨rfl,rfl,i+1,by lia,hrest,hR⟩
   | false =>
    rw[hy,if_neg aF] at hR
    simp only[Bool.not_false,if_true]
    refine oH (rG ?_)
    refine oH (ht i h1 h2 hy prog w _ _ ?_)
    wp_walk
    exact⟨_,rfl,hR⟩
  case fin =>
   rintro⟨b1,b2⟩ s' ⟨hb',rfl,i,hi,hz,hR⟩
   simp only at hb'
   subst hb'
   have hge:min items.size sK.size<=i:=by
    rcases d7 i (items.toList.zip sK.toList).length with h' | h'
    ·rw[aV h'] at hz;cases hz
    ·exact hZ ▸ h'
   have hri:=hr i (by lia) (by lia)
   rw[if_neg (by lia)] at hri
   rw[hri] at hR
   wp_walk
   exact⟨_,rfl,hR⟩
  case h =>
   exact⟨rfl,rfl,0,aJ _,rfl,h⟩
theorem LtAt.lists{A:oY}{s:oR}{l b:oP}{items sK:Array oQ}{e t r:Nat->Bool}(hl:s.heap.IsList l items)(hb:s.heap.IsList b sK)(hr:X3 e t r items.size sK.size)(hu:A.units<cLine)
  (he:∀j (h1:j<items.size) (h2:j<sK.size),EqAt A.in1 s items[j] sK[j] (e j)) (ht:∀j (h1:j<items.size) (h2:j<sK.size),e j=sI->LtAt A.in1 s items[j] sK[j] (t j)):LtAt A s (.ref l) (.ref b) (r 0):=λprog w E Q h=>by
 obtain⟨⟨cls,dd,data,sl⟩,ho,hc,n,hd⟩:=id hl
 obtain⟨⟨cls2,dd2,data2,sl2⟩,ho2,hc2,n2,hd2⟩:=id hb
 simp only at hc hd hc2 hd2
 subst hc hd hc2 hd2
 exact richCompare_meets_room (op:=.Lt) ⟨_,ho,rfl⟩ ⟨_,ho2,rfl⟩ F.slot_list_lt F.entry_list_lt (F.args_list_lt_2 _ _) (Vf l b items sK n n2 dd dd2 sl sl2 e t r hr)
  ⟨ho,ho2,he,ht,show Value.bool (r 0)≠Value.notImplemented/\Q (.bool (r 0)) s from ⟨(λx=>nomatch x),h⟩⟩ hu
theorem LtAt.tuples{A:oY}{s:oR}{l b:oP}{items sK:Array oQ}{e t r:Nat->Bool}(hl:s.heap.IsTuple l items)(hb:s.heap.IsTuple b sK)(hr:X3 e t r items.size sK.size)(hu:A.units<cLine)
  (he:∀j (h1:j<items.size) (h2:j<sK.size),EqAt A.in1 s items[j] sK[j] (e j)) (ht:∀j (h1:j<items.size) (h2:j<sK.size),e j=sI->LtAt A.in1 s items[j] sK[j] (t j)):LtAt A s (.ref l) (.ref b) (r 0):=λprog w E Q h=>by
 obtain⟨⟨cls,dd,data,sl⟩,ho,hc,n,hd⟩:=id hl
 obtain⟨⟨cls2,dd2,data2,sl2⟩,ho2,hc2,n2,hd2⟩:=id hb
 simp only at hc hd hc2 hd2
 subst hc hd hc2 hd2
 exact richCompare_meets_room (op:=.Lt) ⟨_,ho,rfl⟩ ⟨_,ho2,rfl⟩ F.slot_tuple_lt F.entry_tuple_lt (F.args_tuple_lt_2 _ _) (Wj l b items sK n n2 dd dd2 sl sl2 e t r hr)
  ⟨ho,ho2,he,ht,show Value.bool (r 0)≠Value.notImplemented/\Q (.bool (r 0)) s from ⟨(λx=>nomatch x),h⟩⟩ hu
end L3
namespace L3
mutual
def okD:D->D->Prop
 | .int _,.int _=>True
 | .lst l,.lst m=>kL l m
 | .tup l,.tup m=>kL l m
 | _,_=>False
def kL:List D->List D->Prop
 | d::l,e::m=>okD d e/\kL l m
 | _,_=>True
end
mutual
noncomputable def ltD:D->D->Bool
 | .int a,.int b=>decide (a<b)
 | .lst l,.lst m=>vY l m
 | .tup l,.tup m=>vY l m
 | _,_=>sI
noncomputable def vY:List D->List D->Bool
 | d::l,e::m=>if eqD d e=sH then vY l m else ltD d e
 | [],_::_=>sH
 | _,[]=>sI
end
theorem Vt(l m:List D):X3 (λj=>eqD (l.getD j .non) (m.getD j .non)) (λj=>ltD (l.getD j .non) (m.getD j .non)) (λi=>vY (l.drop i) (m.drop i)) l.length m.length:=by
 intro i b1 b2
 simp only
 by_cases h:i<l.length/\i<m.length
 ·rw[if_pos h,aV h.1,aV h.2,vY]
  rw[ac,ac,al h.1,al h.2]
  rfl
 ·rw[if_neg h]
  by_cases h1:i<l.length
  ·have h2:¬ i<m.length:=λz=>h ⟨h1,z⟩
   rw[aV h1,aZ (cT h2),vY]
   ·simp;lia
   all_goals simp
  ·rw[aZ (cT h1)]
   by_cases h2:i<m.length
   ·rw[aV h2,vY]
    simp;lia
   ·rw[aZ (cT h2),vY]
    ·simp;lia
    all_goals simp
theorem zal:∀{l m:List D} {j:Nat} {d e:D},kL l m->l[j]? = sF d->m[j]? = sF e->okD d e
 | d::l,e::m,0,_,_,h,q1,q2=>by
  cases q1;cases q2
  simp only[kL] at h
  exact h.1
 | d::l,e::m,j+1,_,_,h,q1,q2=>by
  simp only[kL] at h
  exact zal (j:=j) h.2 q1 q2
section
variable{X:Cx}{sJ:List (oP × pD)}{σ:St}{H:Hp}{s:oR}
theorem Y6{l m:List D}{xs ys:List V}{its its':List oQ}{A:oY}{n:Nat}(hl:Iss X.K H l xs)(hm:Iss X.K H m ys)(r:Vals xs its)(r':Vals ys its')(hn:uO l<n)(ok:kL l m)
  (ih:∀(d e:D) (x y:V) (u v:oQ),dpD d<n->okD d e->Is X.K H d x->Is X.K H e y->RelV x u->RelV y v->LtAt A s u v (ltD d e)) :
  ∀j (h1:j<its.toArray.size) (h2:j<its'.toArray.size),LtAt A s its.toArray[j] its'.toArray[j] (ltD (l.getD j .non) (m.getD j .non)):=by
 intro j h1 h2
 rw[ao] at h1 h2
 have e1:=hl.len
 have e2:=hm.len
 have e3:=r.length
 have e4:=r'.length
 have g1:l[j]? = sF l[j]:=al (by lia)
 have g2:m[j]? = sF m[j]:=al (by lia)
 generalize l[j]=d at g1
 generalize m[j]=e at g2
 obtain⟨x,hx,ix⟩:=hl.at g1
 obtain⟨y,hy,iy⟩:=hm.at g2
 obtain⟨u,hu,ru⟩:=xX r hx
 obtain⟨v,hv,rv⟩:=xX r' hy
 have q1:its.toArray[j]=u:=by
  have:=(List.getElem?_eq_some_iff.mp hu).2
  simpa using this
 have q2:its'.toArray[j]=v:=by
  have:=(List.getElem?_eq_some_iff.mp hv).2
  simpa using this
 rw[q1,q2,ac,ac,g1,g2]
 exact ih d e x y u v (cp (J0 g1) hn) (zal ok g1 g2) ix iy ru rv
theorem Q9(I:Inv X sJ σ H s):∀(n:Nat) (A:oY) (d e:D) (x y:V) (u v:oQ),A.units+n<cLine->dpD d<n->okD d e->Is X.K H d x->Is X.K H e y->RelV x u->RelV y v->LtAt A s u v (ltD d e):=by
 intro n
 induction n with
 | zero=>intro A d e x y u v _ h;exact absurd h (cL _)
 | succ n ih =>
  intro A d e x y u v hu hd ok hx hy rx ry
  have hu1:A.units<cLine:=by lia
  have huA:A.in1.units+n<cLine:=by show A.units+1+n<cLine;lia
  cases d with
  | int a =>
   cases e with
   | int b =>
    simp only[Is] at hx hy
    subst hx hy
    obtain⟨t,rfl⟩:=rx
    obtain⟨t',rfl⟩:=ry
    exact λprog w E Q h=>lt_int h
   | _=>simp only[okD] at ok
  | lst l =>
   cases e with
   | lst m =>
    simp only[Is] at hx hy
    obtain⟨a,xs,rfl,h1,h2⟩:=hx
    obtain⟨b,ys,rfl,g1,g2⟩:=hy
    cases rx;cases ry
    obtain⟨its,r,p,_⟩:=I.list h1
    obtain⟨its',r',p',_⟩:=I.list g1
    simp only[dpD] at hd
    simp only[okD] at ok
    have L1:=h2.len
    have L2:=g2.len
    have L3:=r.length
    have L4:=r'.length
    have st:=Vt l m
    rw[show l.length=its.toArray.size by simp only[ao];lia,show m.length=its'.toArray.size by simp only[ao];lia] at st
    exact LtAt.lists (A:=A) p.isList p'.isList st hu1 (vb h2 g2 r r' (n:=n) (by lia) λd e x y u v q1 q2 q3 q4 q5=>Zh I n A.in1 d e x y u v huA q1 q2 q3 q4 q5)
     (λj h1 h2 _=>Y6 (n:=n) (A:=A.in1) ‹_› g2 r r' (by lia) ok (λd e x y u v q1 q2 q3 q4 q5 q6=>ih A.in1 d e x y u v huA q1 q2 q3 q4 q5 q6) j h1 h2)
   | _=>simp only[okD] at ok
  | tup l =>
   cases e with
   | tup m =>
    simp only[Is] at hx hy
    obtain⟨a,xs,rfl,h1,h2⟩:=hx
    obtain⟨b,ys,rfl,g1,g2⟩:=hy
    cases rx;cases ry
    obtain⟨its,r,p,_⟩:=I.tuple h1
    obtain⟨its',r',p',_⟩:=I.tuple g1
    simp only[dpD] at hd
    simp only[okD] at ok
    have L1:=h2.len
    have L2:=g2.len
    have L3:=r.length
    have L4:=r'.length
    have st:=Vt l m
    rw[show l.length=its.toArray.size by simp only[ao];lia,show m.length=its'.toArray.size by simp only[ao];lia] at st
    exact LtAt.tuples (A:=A) p p' st hu1 (vb h2 g2 r r' (n:=n) (by lia) λd e x y u v q1 q2 q3 q4 q5=>Zh I n A.in1 d e x y u v huA q1 q2 q3 q4 q5)
     (λj h1 h2 _=>Y6 (n:=n) (A:=A.in1) ‹_› g2 r r' (by lia) ok (λd e x y u v q1 q2 q3 q4 q5 q6=>ih A.in1 d e x y u v huA q1 q2 q3 q4 q5 q6) j h1 h2)
   | _=>simp only[okD] at ok
  | non=>cases e <;> simp only[okD] at ok
  | bl _=>cases e <;> simp only[okD] at ok
  | str _=>cases e <;> simp only[okD] at ok
def zcL(K:oO):R2:=λx y H Q=>∃d e,Is K H d x/\Is K H e y/\dpD d<50/\okD d e/\Q (.bl (ltD d e)) H
theorem zbn(hu:X.A.units+100<cLine):OpR X (ph .Lt) (zcL X.K):=by
 intro sJ s σ H x y v u Q I rx ry h
 obtain⟨d,e,hx,hy,hd,ok,q⟩:=h
 exact Q9 I 50 X.A d e x y v u (by lia) hd ok hx hy rx ry X.prog X.w X.xe _ ⟨.bl _,H,I,rfl,q⟩
end
theorem JH{K:oO}{x y:V}{H:Hp}{Q:VK}{d e:D}(h1:Is K H d x)(h2:Is K H e y)(h3:dpD d<50)(h4:okD d e)(q:Q (.bl (ltD d e)) H):zcL K x y H Q:=⟨d,e,h1,h2,h3,h4,q⟩
noncomputable def ltI:List Int->List Int->Bool
 | a::l,b::m=>if a=b then ltI l m else decide (a<b)
 | [],_::_=>sH
 | _,[]=>sI
theorem qD:∀(l m:List Int),kL (l.map D.int) (m.map D.int)
 | [],_=>by simp only[aN,kL]
 | _::_,[]=>by simp only[aN,aC,kL]
 | a::l,b::m=>by simp only[aC,kL,okD,true_and];exact qD l m
theorem Zu:∀(l m:List Int),vY (l.map D.int) (m.map D.int)=ltI l m
 | [],[]=>by simp only[aN,vY,ltI]
 | [],_::_=>by simp only[aN,aC,vY,ltI]
 | _::_,[]=>by simp only[aN,aC,vY,ltI]
 | a::l,b::m=>by
  simp only[aC,vY,ltI,eqD,ltD,Zu l m,beq_iff_eq]
end L3
namespace L3
mutual
def xq:D->Prop
 | .lst _=>False
 | .tup l=>zQ l
 | _=>True
def zQ:List D->Prop
 | []=>True
 | d::l=>xq d/\zQ l
end
theorem qh{K:oO}{H:Hp}{a p:oP}{xs ys zs:List V}(hp:H p=sF (.lst ys))(h:SqT K H a xs):SqT K (upd H p (.lst zs)) a xs:=by
 rcases h with (h | ⟨o,h⟩) | h
 ·refine .inl (.inl ?_)
  rw[zo (λe=>by rw[e,hp] at h;cases h)]
  exact h
 ·refine .inl (.inr ⟨o,?_⟩)
  rw[zo (λe=>by rw[e,hp] at h;cases h)]
  exact h
 ·exact .inr h
mutual
theorem Is.updL{K:oO}{H:Hp}{p:oP}{ys zs:List V}(hp:H p=sF (.lst ys)):∀(d:D) (v:V),xq d->Is K H d v->Is K (upd H p (.lst zs)) d v
 | .non,v,_,h=>by simp only[Is] at h ⊢;exact h
 | .bl b,v,_,h=>by simp only[Is] at h ⊢;exact h
 | .int b,v,_,h=>by simp only[Is] at h ⊢;exact h
 | .str b,v,_,h=>by simp only[Is] at h ⊢;exact h
 | .lst l,v,f,h=>by simp only[xq] at f
 | .tup l,v,f,h=>by
  simp only[Is] at h ⊢
  simp only[xq] at f
  obtain⟨a,xs,e1,e2,e3⟩:=h
  exact⟨a,xs,e1,qh hp e2,Iss.updL hp l xs f e3⟩
theorem Iss.updL{K:oO}{H:Hp}{p:oP}{ys zs:List V}(hp:H p=sF (.lst ys)):∀(l:List D) (vs:List V),zQ l->Iss K H l vs->Iss K (upd H p (.lst zs)) l vs
 | [],vs,_,h=>by simp only[Iss] at h ⊢;exact h
 | d::l,vs,f,h=>by
  simp only[Iss] at h ⊢
  simp only[zQ] at f
  obtain⟨v,r,e1,e2,e3⟩:=h
  exact⟨v,r,e1,Is.updL hp d v f.1 e2,Iss.updL hp l r f.2 e3⟩
end
theorem wF:∀{l:List D},(∀d ∈ l,xq d)->zQ l
 | [],_=>by simp only[zQ]
 | d::l,h=>by simp only[zQ];exact⟨h d (by simp),wF λe he=>h e (by simp [he])⟩
theorem VG{n:Nat}:∀{l:List D},(∀d ∈ l,dpD d<=n)->uO l<=n
 | [],_=>by simp only[uO];lia
 | d::l,h=>by
  have h1:=h d (by simp)
  have h2:=VG (n:=n) (l:=l) λe he=>h e (by simp [he])
  simp only[uO]
  lia
def LsA(K:oO)(H:Hp)(a:oP)(ds:List D):Prop:=∃xs,H a=sF (.lst xs)/\Iss K H ds xs
theorem LsA.same{K:oO}{H H':Hp}{a:oP}{ds:List D}(h:LsA K H a ds)(e:Same H H'):LsA K H' a ds:=let ⟨xs,h1,h2⟩:=h; ⟨xs,e _ _ h1,Iss.same e _ _ h2⟩
theorem LsA.is{K:oO}{H:Hp}{a:oP}{ds:List D}(h:LsA K H a ds):Is K H (.lst ds) (.ref a):=by
 obtain⟨xs,h1,h2⟩:=h
 simp only[Is]
 exact⟨a,xs,rfl,SqL.of h1,h2⟩
theorem LsA.nil{K:oO}{H:Hp}{a:oP}:LsA K (upd H a (.lst [])) a []:=⟨[],zf,by simp only[Iss]⟩
theorem LsA.snoc{K:oO}{H:Hp}{a:oP}{ds:List D}{d:D}{xs:List V}{v:V}(h1:H a=sF (.lst xs))(h2:Iss K H ds xs)(f:zQ ds)(fd:xq d)(hv:Is K H d v):LsA K (upd H a (.lst (xs ++ [v]))) a (ds ++ [d]) :=
 ⟨_,zf,Iss.append (Iss.updL h1 _ _ f h2) (by simp only[Iss];exact⟨v,[],rfl,Is.updL h1 _ _ fd hv,rfl⟩)⟩
theorem Is.tup{K:oO}{H:Hp}{p:oP}{vs:List V}{ds:List D}(hp:H p=sG)(h:Iss K H ds vs):Is K (upd H p (.tup vs)) (.tup ds) (.ref p):=by
 simp only[Is]
 exact⟨p,vs,rfl,SqT.of zf,Iss.same (zd hp) _ _ h⟩
noncomputable abbrev dS(l:List Nat):D:=.str (tx l)
noncomputable abbrev zr:=List Nat × List Nat
noncomputable def dR(r:zr):D:=.tup [dS r.1,dS r.2]
theorem zar{K:oO}{H:Hp}{r:zr}{v:V}(h:Is K H (dR r) v):∃p,v=.ref p/\SqT K H p [.str (tx r.1),.str (tx r.2)]:=by
 simp only[dR,Is,Iss] at h
 obtain⟨a,xs,e,hs,v1,r1,rfl,rfl,v2,r2,rfl,rfl,rfl⟩:=h
 exact⟨a,e,hs⟩
theorem Wb{K:oO}{H:Hp}{p:oP}{l m:List Nat}(h:SqT K H p [.str (tx l),.str (tx m)]):Is K H (dR (l,m)) (.ref p):=by
 simp only[dR,Is,Iss]
 exact⟨p,_,rfl,h,_,_,rfl,rfl,_,_,rfl,rfl,rfl⟩
theorem ji(r:zr):xq (dR r):=by simp only[dR,xq,zQ,and_self]
theorem zct(r:zr):dpD (dR r)<=1:=by simp only[dR,dpD,uO];lia
theorem yV(rs:List zr):zQ (rs.map dR):=wF λd h=>by obtain⟨r,_,rfl⟩:=List.mem_map.mp h;exact ji r
theorem Jq(rs:List zr):uO (rs.map dR)<=1:=VG λd h=>by obtain⟨r,_,rfl⟩:=List.mem_map.mp h;exact zct r
noncomputable abbrev N3:=Nat × Nat × Nat
noncomputable def d3(t:N3):D:=.tup [.int (t.1:Nat),.int (t.2.1:Nat),.int (t.2.2:Nat)]
theorem zbG{K:oO}{H:Hp}{t:N3}{v:V}(h:Is K H (d3 t) v):∃p,v=.ref p/\SqT K H p [.int (t.1:Nat),.int (t.2.1:Nat),.int (t.2.2:Nat)]:=by
 simp only[d3,Is,Iss] at h
 obtain⟨a,xs,e,hs,v1,r1,rfl,rfl,v2,r2,rfl,rfl,v3,r3,rfl,rfl,rfl⟩:=h
 exact⟨a,e,hs⟩
theorem zbt{K:oO}{H:Hp}{i j k:Nat}:Iss K H [.int (i:Nat),.int (j:Nat),.int (k:Nat)] [.int (i:Nat),.int (j:Nat),.int (k:Nat)]:=by
 simp only[Iss,Is]
 exact⟨_,_,rfl,rfl,_,_,rfl,rfl,_,_,rfl,rfl,rfl⟩
theorem J8(t:N3):xq (d3 t):=by simp only[d3,xq,zQ,and_self]
theorem YM(rs:List N3):zQ (rs.map d3):=wF λd h=>by obtain⟨r,_,rfl⟩:=List.mem_map.mp h;exact J8 r
theorem Iss.get{K:oO}{H:Hp}{l:List D}{vs:List V}{j:Nat}{v:V}(h:Iss K H l vs)(q:vs[j]? = sF v):∃d,l[j]? = sF d/\Is K H d v:=by
 have hj:=(List.getElem?_eq_some_iff.mp q).1
 have hl:=h.len
 have g1:l[j]? = sF l[j]:=al (by lia)
 obtain⟨x,hx,ix⟩:=h.at g1
 rw[q] at hx
 cases hx
 exact⟨_,g1,ix⟩
theorem Iss.getR{K:oO}{H:Hp}{rs:List zr}{vs:List V}{j:Nat}{v:V}(h:Iss K H (rs.map dR) vs)(q:vs[j]? = sF v):∃r p,rs[j]? = sF r/\v=.ref p/\SqT K H p [.str (tx r.1),.str (tx r.2)]:=by
 obtain⟨d,e,i⟩:=h.get q
 rw[aG] at e
 obtain⟨r,hr,rfl⟩:=Option.map_eq_some_iff.mp e
 obtain⟨p,e1,e2⟩:=zar i
 exact⟨r,p,hr,e1,e2⟩
theorem Iss.get3{K:oO}{H:Hp}{rs:List N3}{vs:List V}{j:Nat}{v:V}(h:Iss K H (rs.map d3) vs)(q:vs[j]? = sF v):∃r p,rs[j]? = sF r/\v=.ref p/\SqT K H p [.int (r.1:Nat),.int (r.2.1:Nat),.int (r.2.2:Nat)]:=by
 obtain⟨d,e,i⟩:=h.get q
 rw[aG] at e
 obtain⟨r,hr,rfl⟩:=Option.map_eq_some_iff.mp e
 obtain⟨p,e1,e2⟩:=zbG i
 exact⟨r,p,hr,e1,e2⟩
theorem QX{α:Type}(l:List α){a b:Int}(h0:0<=a)(h1:a<=b):cut l (sF a) (sF b)=(l.drop a.toNat).take (b - a).toNat:=by
 by_cases h2:b<=l.length
 ·exact ko l h0 h1 h2
 ·obtain⟨m,rfl⟩:=bE h0
  obtain⟨n,rfl⟩:=bE (by lia:0<=b)
  unfold cut
  rw[HT.sIx_nat,HT.sIx_nat,dq (by lia:l.length<=n)]
  have e:(((n:Nat):Int) - ((m:Nat):Int)).toNat=n - m:=by lia
  have e2:((m:Nat):Int).toNat=m:=rfl
  rw[e,e2,bf (l:=l.drop m) (by rw[br];lia)]
  by_cases hm:m<=l.length
  ·rw[cy hm,bf (by rw[br];lia)]
  ·rw[dq (by lia),aZ (au _),aZ (by lia),List.take_nil]
theorem Ua(ns:List Int){a b:Int}(h0:0<=a)(h1:a<=b):Jk (ns.map V.int) (sF a) (sF b)=((ns.drop a.toNat).take (b - a).toNat).map V.int:=by
 have e:Jk (ns.map V.int) (sF a) (sF b)=cut (ns.map V.int) (sF a) (sF b):=rfl
 rw[e,QX _ h0 h1,List.map_take,List.map_drop]
end L3
namespace L3
open Classical in
section
variable{X:Cx}{sJ:List (oP × pD)}{σ:L2.St}{H:Hp}{s:oR}
open Classical in
end
end L3
namespace L3
structure DM(P:oV)(w:oX)(K:oO)(mg:oW->Option oQ)(base:pb)(CX:CXT)(k:Nat)(C:oP)(m:oW)(ps:List oW)(sp:Sp):Prop where
 ex:∃f fd,za1 K C m f/\FnOk P w K mg base CX k f fd ps sp/\Binds K fd ps []
structure DMk(P:oV)(w:oX)(K:oO)(mg:oW->Option oQ)(base:pb)(CX:CXT)(k:Nat)(C:oP)(ps:List oW)(sp:Sp):Prop where
 ex:∃f fd,Mk K C f/\FnOk P w K mg base CX k f fd ps sp/\Binds K fd ps []
section
variable{X:Cx}{k j:Nat}{C:oP}{m:oW}{ps:List oW}{sp:Sp}{o e:oZ}{es:List oZ}{ta:TE}{t:TA}{apos pos p:pS}{x:oW}{E:XK}
theorem me0(D:DM X.prog X.w X.K X.mg X.base CX0 k C m ps sp)(c:Cls X.K C)(hr:Room j X.A)(he:PE X o ta){pl:sx Bool}(ht:eval (.Call (.Attribute o m apos) [] [] pos) X.env=(do
      let ov <- eval o X.env
      standAt apos.atName
      let (f,first) <- holding [ov] (getMethod ov m pl)
      callWith pos f first (pj pos (oM [] X.env)) (pG pos (pf [] X.env))):=by rfl) (hj:k<=j:=by decide):PE X (.Call (.Attribute o m apos) [] [] pos) (ZY C m sp [] E0 ta vd):=by
  obtain⟨f,fd,hm,F,hb⟩:=D.ex
  exact Qu he c hm F (hr.mono hj) hb .nil YI ht
theorem me1(D:DM X.prog X.w X.K X.mg X.base CX0 k C m ps sp)(c:Cls X.K C)(hr:Room j X.A)(he:PE X o ta)(ha:PA X (e::es) t){pl:sx Bool}
    (hst:oM (e::es) X.env=(sI,eval e X.env)::oM es X.env:=by rfl) (hpl:(pj pos (oM es X.env)).any (·.1)=sI:=by rfl)
    (ht:eval (.Call (.Attribute o m apos) (e::es) [] pos) X.env=(do
      let ov <- eval o X.env
      standAt apos.atName
      let (f,first) <- holding [ov] (getMethod ov m pl)
      callWith pos f first (pj pos (oM (e::es) X.env)) (pG pos (pf [] X.env))):=by rfl) (hj:k<=j:=by decide):PE X (.Call (.Attribute o m apos) (e::es) [] pos) (ZY C m sp [] E0 ta t):=by
  obtain⟨f,fd,hm,F,hb⟩:=D.ex
  exact Kq he c hm F (hr.mono hj) hb .nil YI ha hst hpl ht
theorem mkC(D:DMk X.prog X.w X.K X.mg X.base CX0 k C ps sp)(hr:Room j X.A)(hg:Gl X x)(hm:X.mg x=sF (.ref C))(ha:PA X (e::es) t)(hdb:(x == ("__debug__" : oW))=sI:=by decide)(he:oM (e::es) X.env=(sI,eval e X.env)::oM es X.env:=by rfl)
  (hpl:(pj pos (oM es X.env)).any (·.1)=sI:=by rfl) (hj:k+1<=j:=by decide):PE X (.Call (.Name x p) (e::es) [] pos) (UF C sp [] E0 t):=by
 obtain⟨f,fd,M,F,hb⟩:=D.ex
 exact V3 M F (hr.mono hj) hg hm hb .nil YI ha hdb he hpl
end
end L3
namespace L3
section
variable{X:Cx}
end
section
variable{X:Cx}{k j:Nat}{C:oP}{m:oW}{ps:List oW}{sp:Sp}{o e:oZ}{es:List oZ}{ta:TE}{t:TA}{apos pos p:pS}
end
end L3
namespace L3
def zy(Fam:oP->Prop)(m:oW)(sp:oP->Sp)(dvs:List V)(E:XK)(ta:TE)(t:TA):TE:=λσ H Q=>ta σ H λx H1=>∃C a dx fs,Fam C/\x=.ref a/\H1 a=sF (.ins C dx fs)/\fs.lookup m=sG /\
 t σ H1 λvs H2=>sp C (x::(vs ++ dvs)) H2 Q E
structure DMF(P:oV)(w:oX)(K:oO)(mg:oW->Option oQ)(base:pb)(CX:CXT)(k:Nat)(Fam:oP->Prop)(m:oW)(ps:List oW)(sp:oP->Sp):Prop where
 ex:∀C,Fam C->Cls K C/\DM P w K mg base CX k C m ps (sp C)
section
variable{X:Cx}{k j:Nat}{Fam:oP->Prop}{m:oW}{ps:List oW}{sp:oP->Sp}{o e:oZ}{es:List oZ}{ta:TE}{t:TA}{apos pos p:pS}{x:oW}{E:XK}
theorem zdy(D:DMF X.prog X.w X.K X.mg X.base CX0 k Fam m ps sp)(hr:Room j X.A)(he:PE X o ta){pl:sx Bool}(ht:eval (.Call (.Attribute o m apos) [] [] pos) X.env=(do
      let ov <- eval o X.env
      standAt apos.atName
      let (f,first) <- holding [ov] (getMethod ov m pl)
      callWith pos f first (pj pos (oM [] X.env)) (pG pos (pf [] X.env))):=by rfl) (hj:k<=j:=by decide):PE X (.Call (.Attribute o m apos) [] [] pos) (zy Fam m sp [] E0 ta vd):=by
  intro sJ s σ H Q I h
  refine bV (pl:=pl) (thn (he sJ s σ H _ I h) λu s1 ⟨x,H1,I1,rx,C,a,dx,fs,fam,ex,ea,l,q⟩=>?_) ht
  subst ex
  obtain rfl:u=Value.ref a:=rx
  obtain⟨c,⟨f,fd,hm,F,hb⟩⟩:=D.ex C fam
  refine wm I1 ea c hm l ?_
  exact eW (first:=[.ref a]) I1.kIn hm.kp (jB (us:=[.ref a]) (vs:=[.ref a]) F (hr.mono hj) hb .nil YI I1 (.cons rfl .nil) q)
theorem K8(D:DMF X.prog X.w X.K X.mg X.base CX0 k Fam m ps sp)(hr:Room j X.A)(he:PE X o ta)(ha:PA X (e::es) t){pl:sx Bool}
    (hst:oM (e::es) X.env=(sI,eval e X.env)::oM es X.env:=by rfl) (hpl:(pj pos (oM es X.env)).any (·.1)=sI:=by rfl)
    (ht:eval (.Call (.Attribute o m apos) (e::es) [] pos) X.env=(do
      let ov <- eval o X.env
      standAt apos.atName
      let (f,first) <- holding [ov] (getMethod ov m pl)
      callWith pos f first (pj pos (oM (e::es) X.env)) (pG pos (pf [] X.env))):=by rfl) (hj:k<=j:=by decide):PE X (.Call (.Attribute o m apos) (e::es) [] pos) (zy Fam m sp [] E0 ta t):=by
  intro sJ s σ H Q I h
  refine bV (pl:=pl) (thn (he sJ s σ H _ I h) λu s1 ⟨x,H1,I1,rx,C,a,dx,fs,fam,ex,ea,l,q⟩=>?_) ht
  subst ex
  obtain rfl:u=Value.ref a:=rx
  obtain⟨c,⟨f,fd,hm,F,hb⟩⟩:=D.ex C fam
  refine wm I1 ea c hm l ?_
  refine bN (first:=[.ref a]) (h₀:=X.base) I.ok.mod.kin hm.kp (thn (ha pos sJ s1 σ H1 _ I1 q) λus s2 ⟨vs,H2,I2,r,q2⟩=>⟨I2.kIn,?_⟩) hst hpl
  exact jB (us:=.ref a::us) (vs:=.ref a::vs) F (hr.mono hj) hb .nil YI I2 (.cons rfl r) q2
end
section
variable{X:Cx}
theorem Xs:∀{ns:List Int} {its:List oQ},Vals (ns.map V.int) its->so its ns
 | [],_,.nil=>.nil
 | n::ns,_,.cons r t=>by
  obtain⟨tk,rfl⟩:=r
  exact .cons n tk (Xs t)
def yz(K:oO):List V->Hp->VK->Prop:=λxs H Q=>∃(p:oP) (ns:List Int),xs=[.ref p]/\SqL K H p (ns.map V.int)/\Q (.int ns.sum) H
theorem zcb(hc:X.calm=sH):vP X (.builtin "sum") (yz X.K):=by
 intro sJ s σ H xs us Q I r h
 obtain⟨p,ns,rfl,hS,q⟩:=h
 obtain⟨u,rfl,ru⟩:=wP r
 cases ru
 obtain⟨its,rv,pl,hz⟩:=I.list hS
 have hh:X.A.handled=sG:=I.ok.hd hc
 have ia:=Xs rv
 obtain⟨ps,e⟩:=ia.allInts.items
 have en:ps.toList.map (·.1)=ns:=by
  rw[<- nums_intItems,<- e]
  exact ia.numsOf
 refine sum_intListG hh (by rw[<- e];exact pl.isList) λh' tk t' hk=>?_
 rw[preSum_eq,bf (by simp),en]
 exact⟨.int ns.sum,H,I.kept hk,⟨_,rfl⟩,q⟩
end
end L3
namespace L3
theorem XZ(l:List Nat):((Builtin.Str.strSliceIndices sG sG (-1) (tx l).length).filterMap ((tx l).cps[·]?))=l.reverse:=by
 rw[ye,picked_rev]
 have e:(tx l).cps=l.toArray:=rfl
 rw[e]
 apply List.ext_getElem?
 intro i
 have h:((aY l.length).map λk=>l.length - 1 - k).filterMap (l.toArray[·]?)=(aY l.length).map λk=>l.getD (l.length - 1 - k) 0:=by
  rw[filterMap_get,dw]
  ·refine cF λk _=>?_
   show l.toArray.getD (l.length - 1 - k) 0=_
   simp [eU,List.getD]
   split <;> simp_all
  ·intro i hi
   obtain⟨k,hk,rfl⟩:=List.mem_map.mp hi
   have:=List.mem_range.mp hk
   show _<l.toArray.size
   rw[ao]
   lia
 rw[h]
 by_cases hi:i<l.length
 ·rw[bL hi,aG,List.getElem?_range hi]
  show sF (l.getD (l.length - 1 - i) 0)=_
  rw[ac,al (by lia)]
  rfl
 ·rw[bz (by simp;lia),bz (by simp;lia)]
def yA(te ts:TE):TE:=λσ H Q=>te σ H λx H1=>ts σ H1 λy H2=>y=.int (-1)/\∃l:List Nat,x=.str (tx l)/\l.length<=oN/\Q (.str (tx l.reverse)) H2
section
variable{X:Cx}{e st:oZ}{te ts:TE}{pos p2:pS}
theorem Kt(he:PE X e te)(hs:PE X st ts):PE X (.Subscript e (.Slice sG sG (sF st) p2) pos) (yA te ts):=by
 intro sJ s σ H Q I h
 refine sB (thn (he sJ s σ H _ I h) λv s1 ⟨x,H1,I1,r1,q1⟩=>?_)
 refine wpAny_Slice ?_
 rw[evalPart_none]
 refine oJ (oJ ?_)
 rw[evalPart_some]
 refine thn (hs sJ s1 σ H1 _ I1 q1) λu s2 ⟨y,H2,I2,r2,ey,l,ex,hl,q2⟩=>?_
 subst ey ex
 obtain⟨t,rfl⟩:=r1
 obtain⟨tk,rfl⟩:=r2
 have I4:Inv X sJ σ H2 { s2 with heap:=s2.heap.push { cls:=.type "slice",data:=.fields #[.none,.none,.int (-1) tk] } }:=I2.kept (t':=s2.toks) λb ob q=>aa _ q
 show oS (model X.prog X.w) X.A (rW e (.Slice sG sG (sF st) p2) (.str (tx l) t) (.ref s2.heap.objs.size)) (EP X sJ σ Q) X.xe { s2 with heap:=s2.heap.push { cls:=.type "slice",data:=.fields #[.none,.none,.int (-1) tk] } }
 refine tail_any (ops:=[.ref s2.heap.objs.size,.str (tx l) t]) (typeIs_str _ (tx l) t) slot_str_getitem.lookup ?_ (by with_unfolding_all rfl)
 refine rE (l:=sG) (u:=sG) (st:=sF (-1,tk)) (Heap.IsSliceOf.new ..) rfl ?_
 unfold sliceMade slicePicked
 have hc':¬ (((sF ((-1:Int),tk)).map (·.1)).getD 1 == 1 && (Builtin.Str.strSliceIndices ((sG:Option (Int × rD)).map (·.1)) ((sG:Option (Int × rD)).map (·.1)) (((sF ((-1:Int),tk)).map (·.1)).getD 1) (tx l).length).length == (tx l).length)=sH:=by
  have:(((sF ((-1:Int),tk)).map (·.1)).getD 1 == 1)=sI:=rfl
  rw[this]
  simp
 rw[if_neg hc']
 have e:Str.mk ((Builtin.Str.strSliceIndices sG sG (-1) (tx l).length).filterMap ((tx l).cps[·]?)).toArray=tx l.reverse:=by
  rw[XZ]
 show (Str.mk ((Builtin.Str.strSliceIndices sG sG (-1) (tx l).length).filterMap ((tx l).cps[·]?)).toArray).length<=oN/\_
 rw[e]
 refine⟨by rw[ye,eX];exact hl,?_⟩
 exact⟨.str (tx l.reverse),H2,I4.tok _,⟨_,by
  show Value.str (Str.mk ((Builtin.Str.strSliceIndices sG sG (-1) (tx l).length).filterMap ((tx l).cps[·]?)).toArray) _=_
  rw[e]⟩,q2⟩
end
end L3
namespace L3
structure zdw(K:oO)(C:oP)(m:oW)(f:oP):Prop where
 sg:cA K (.ref C) "__getattribute__" = sF (sF (.builtin "type.__getattribute__"))
 rd:fu K C (.type "type")=sH
 fc:fv K (.ref C) (.type "type") m=sF (.val (.ref f))
 kp:aj K (.ref f)=sH
structure DC(P:oV)(w:oX)(K:oO)(mg:oW->Option oQ)(base:pb)(CX:CXT)(k:Nat)(C:oP)(m:oW)(ps:List oW)(sp:Sp):Prop where
 ex:∃f fd,zdw K C m f/\FnOk P w K mg base CX k f fd ps sp/\Binds K fd ps []
section
variable{X:Cx}{k j:Nat}{C:oP}{m x:oW}{ps:List oW}{sp:Sp}{e:oZ}{es:List oZ}{t:TA}{apos pos p:pS}
theorem Kr(D:DC X.prog X.w X.K X.mg X.base CX0 k C m ps sp)(hr:Room j X.A)(hg:Gl X x)(hm:X.mg x=sF (.ref C))(ha:PA X (e::es) t){pl:sx Bool}(hdb:(x == ("__debug__" : oW))=sI:=by decide)
    (hst:oM (e::es) X.env=(sI,eval e X.env)::oM es X.env:=by rfl) (hpl:(pj pos (oM es X.env)).any (·.1)=sI:=by rfl)
    (ht:eval (.Call (.Attribute (.Name x p) m apos) (e::es) [] pos) X.env=(do
      let ov <- eval (.Name x p) X.env
      standAt apos.atName
      let (f,first) <- holding [ov] (getMethod ov m pl)
      callWith pos f first (pj pos (oM (e::es) X.env)) (pG pos (pf [] X.env))):=by rfl) (hj:k<=j:=by decide):PE X (.Call (.Attribute (.Name x p) m apos) (e::es) [] pos) (jr sp [] E0 t):=by
  obtain⟨f,fd,cm,F,hb⟩:=D.ex
  have hn:PE X (.Name x p) (tC (.ref C)):=xg hg hm rfl hdb
  intro sJ s σ H Q I h
  refine bV (pl:=pl) (thn (hn sJ s σ H (λy H1=>y=.ref C/\H1=H) I ⟨rfl,rfl⟩) λu s1 ⟨y,H1,I1,ry,ey,eH⟩=>?_) ht
  subst ey eH
  obtain rfl:u=Value.ref C:=ry
  refine PySem.W.method_cls I1.kIn cm.sg (PySem.W.cls_value I1.kIn cm.rd cm.fc rfl ?_)
  refine bN (first:=[]) (h₀:=X.base) I.ok.mod.kin cm.kp (thn (ha pos sJ _ σ H1 _ (I1.tok _) h) λus s2 ⟨vs,H2,I2,r,q2⟩=>⟨I2.kIn,?_⟩) hst hpl
  exact jB (us:=us) (vs:=vs) F (hr.mono hj) hb .nil YI I2 r q2
def zA:V->List V->Hp->VK->Prop:=λx xs H Q=>∃(z y:oW) (i:Nat),x=.str z/\xs=[.str y]/\PySem.Txt.find z y=(i:Int)/\Q (.int (i:Nat)) H
theorem J3:MtR X "str.index" zA:=by
 intro sJ s σ H x xs v us Q I rx rv h
 obtain⟨z,y,i,rfl,rfl,hf,q⟩:=h
 obtain⟨t,rfl⟩:=rx
 obtain⟨u,rfl,t',rfl⟩:=wP rv
 unfold PySem.Txt.find at hf
 cases ho:Builtin.Str.occurrences z y 0 z.length 1 with
 | nil=>rw[ho] at hf;dsimp only at hf;lia
 | cons a r =>
  rw[ho] at hf
  have:a=i:=by dsimp only at hf;lia
  subst this
  exact PySem.SC.index ho ⟨.int _,H,I.tok _,⟨_,rfl⟩,q⟩
end
end L3
namespace L3
section
variable{prog:oV}{w:oX}{A:oY}{E:oQ->oR->Prop}{s:oR}
theorem vf{h h':pb}{a:oP}{ty:String}{x:oW}{t:rD}{i:Nat}(y:h.IsStrIter a ty x t i)(e:∀o,h.get? a=sF o->h'.get? a=sF o):h'.IsStrIter a ty x t i:=let ⟨o,ho,r⟩:=y; ⟨o,e o ho,r⟩
theorem vE{h h':pb}{a t:oP}{i:Nat}(y:h.IsTupleIter a t i)(e:∀o,h.get? a=sF o->h'.get? a=sF o):h'.IsTupleIter a t i:=let ⟨o,ho,r⟩:=y; ⟨o,e o ho,r⟩
theorem QT{h h':pb}{a:oP}{xs:Array oQ}(y:h.IsTuple a xs)(e:∀o,h.get? a=sF o->h'.get? a=sF o):h'.IsTuple a xs:=let ⟨o,ho,r⟩:=y; ⟨o,e o ho,r⟩
theorem sit(x:oW):pq x="str_ascii_iterator"\/pq x="str_iterator":=by
 unfold pq
 split
 ·exact .inl rfl
 ·exact .inr rfl
theorem qm{it:oP}{x:oW}{t:rD}{i c:Nat}{Q:oQ->oR->Prop}(hit:s.heap.IsStrIter it (pq x) x t i)(hx:x.cps[i]? = sF c)
  (hQ:∀h',h'.IsStrIter it (pq x) x t (i+1)->Heap.SameBut it s.heap h'->Q (.str ⟨#[c]⟩ s.toks) { s with heap:=h',toks:=s.toks+1 }) :
  oS (model prog w) A (Builtin.SmallTypes.nextOf (.ref it)) Q E s:=by
 rcases sit x with e | e
 ·rw[e] at hit hQ
  exact wpAny_nextOf_ascii_item hit hx hQ
 ·rw[e] at hit hQ
  exact wpAny_nextOf_wide_item hit hx hQ
theorem jq{it:oP}{x:oW}{t:rD}{i:Nat}{Q:oQ->oR->Prop}(hh:A.handled=sG)(hit:s.heap.IsStrIter it (pq x) x t i)(hx:x.cps[i]? = sG)
  (hE:∀h' e,Heap.ExtBut it s.heap h'->(∃o,h'.get? e=sF o/\o.cls=.type "StopIteration")->E (.ref e) { s with heap:=h' }) :
  oS (model prog w) A (Builtin.SmallTypes.nextOf (.ref it)) Q E s:=by
 rcases sit x with e | e
 ·rw[e] at hit
  exact wpAny_nextOf_ascii_end hh hit hx hE
 ·rw[e] at hit
  exact wpAny_nextOf_wide_end hh hit hx hE
theorem qr{it t:oP}{i:Nat}{items:Array oQ}{x:oQ}{Q:oQ->oR->Prop}(hit:s.heap.IsTupleIter it t i)(ht:s.heap.IsTuple t items)(hx:items[i]? = sF x)
  (hQ:∀h',h'.IsTupleIter it t (i+1)->Heap.SameBut it s.heap h'->Q x { s with heap:=h' }) :
  oS (model prog w) A (Builtin.SmallTypes.nextOf (.ref it)) Q E s:=by
 obtain⟨o,ho,hc,hd⟩:=id hit
 obtain⟨ol,hol,_,nl,hdl⟩:=ht
 unfold Builtin.SmallTypes.nextOf
 refine oH (wpAny_callSpecial?_slot (name:=bG "__next__") hit.typeIs F.slot_tuple_iterator_next
  (rF F.slot_tuple_iterator_next hit.typeIs F.entry_tuple_iterator_next ?_ (F.args_tuple_iterator_next_1 _)))
 show oS _ _ (field (.ref it) 0 >>= _) _ _ s
 refine oH (pi ho hd (x:=.ref t) rfl ?_)
 show oS _ _ (if (Value.ref t == Value.none)=sH then _ else _) _ _ s
 rw[if_neg (show ¬ ((Value.ref t == Value.none)=sH) from aF)]
 show oS _ _ (field (.ref it) 1 >>= _) _ _ s
 refine oH (pi ho hd (x:=.int i 0) rfl ?_)
 show oS _ _ (seqItems? (.ref t) >>= _) _ _ s
 refine oH (pH hol hdl ?_)
 simp only[aX,hx]
 refine oH (pP ho hd (by simp) (oJ ⟨x,rfl,oJ (hQ _ ?_ (Heap.SameBut.update ..))⟩))
 exact⟨_,bW _ ho (Obj.isFreed_of_fields (Obj.data_mapFields hd _)),(Obj.cls_mapFields ..).trans hc,by
  rw[Obj.data_mapFields hd];simp [rawInt]⟩
structure zbs(z TI TO i1 i2 l2:oP):Prop extends Jy z TI TO i1 i2 where
 l2z:l2≠z
 l2TO:l2≠TO
 l2i1:l2≠i1
 l2i2:l2≠i2
theorem Qs{z TI TO i1 i2 l2:oP}{k c:Nat}{X:oW}{tx:rD}{ys:Array oQ}{y a b:oQ}{Q:oQ->oR->Prop}(D:zbs z TI TO i1 i2 l2)
  (hz:rz s.heap z TI TO .none) (hTI:pL s.heap TI (.ref i1) (.ref i2)) (hTO:pL s.heap TO a b)
  (h1:s.heap.IsStrIter i1 (pq X) X tx k) (h2:s.heap.IsTupleIter i2 l2 k) (hl2:s.heap.IsTuple l2 ys) (hx:X.cps[k]? = sF c) (hy:ys[k]? = sF y)
  (hQ:∀h' t',rz h' z TI TO (rawInt s.heap.objs.size)->pL h' TO (.str ⟨#[c]⟩ t') y->h'.IsStrIter i1 (pq X) X tx (k+1)->h'.IsTupleIter i2 l2 (k+1)->pL h' s.heap.objs.size (.str ⟨#[c]⟩ t') y->h'.objs.size=s.heap.objs.size+1 ->
   (∀c o,c≠z->c≠TO->c≠i1->c≠i2->s.heap.get? c=sF o->h'.get? c=sF o)->Q (.ref s.heap.objs.size) { s with heap:=h',toks:=s.toks+1 }) :
  oS (model prog w) A (Builtin.«zip.__next__» ⟨[.ref z],[]⟩) (λfin s'=>∃v,fin=.done (.ret v)/\Q v s') E s:=by
 show oS _ _ (field (.ref z) 2 >>= _) _ _ _
 refine oH (pi hz rfl (x:=.bool sI) rfl ?_)
 show oS _ _ (field (.ref z) 3 >>= _) _ _ _
 refine oH (pi hz rfl (x:=.ref TI) rfl ?_)
 refine oH (pH hTI rfl ?_)
 show oS _ _ (Builtin.SmallTypes.ownedTupleIsFree (.ref z) >>= _) _ _ _
 refine oH ?_
 unfold Builtin.SmallTypes.ownedTupleIsFree
 refine oH (pi hz rfl (x:=.none) rfl (oJ ?_))
 simp only[if_true]
 refine oH (rG ?_)
 refine oH (pi hz rfl (x:=.ref TO) rfl ?_)
 refine oH (pQ hz (by simp) λh₁ hz₁ hs₁=>?_)
 replace hz₁:rz h₁ z TI TO .ellipsis:=hz₁
 refine oH ?_
 simp only[List.zipIdx_cons,List.zipIdx_nil,db,eO]
 refine oH (oH (rT ?_))
 show oS _ _ (Builtin.SmallTypes.nextOf (.ref i1) >>= _) _ _ _
 refine oH (qm (s:={ s with heap:=h₁ }) (vf h1 λo e=>hs₁.extBut _ _ D.i1z e) hx λh₂ h1₂ hs₂=>oJ ?_)
 have hTO₂:pL h₂ TO a b:=hs₂.extBut _ _ D.TOi1 (hs₁.extBut _ _ D.TOz hTO)
 refine oH (pH hTO₂ rfl ?_)
 refine oH (rM hTO₂ λh₃ hTO₃ hs₃=>?_)
 replace hTO₃:pL h₃ TO (.str ⟨#[c]⟩ s.toks) b:=hTO₃
 refine oH (rb (oJ ?_))
 refine oH (oH (rT ?_))
 show oS _ _ (Builtin.SmallTypes.nextOf (.ref i2) >>= _) _ _ _
 have up3:∀d o,d≠z->d≠i1->d≠TO->s.heap.get? d=sF o->h₃.get? d=sF o:=λd o d1 d2 d3 e=>hs₃.extBut _ _ d3 (hs₂.extBut _ _ d2 (hs₁.extBut _ _ d1 e))
 refine oH (qr (vE h2 λo e=>up3 _ o D.i2z D.i12.symm D.TOi2.symm e) (QT hl2 λo e=>up3 _ o D.l2z D.l2i1 D.l2TO e) hy λh₄ h2₄ hs₄=>oJ ?_)
 have hTO₄:pL h₄ TO (.str ⟨#[c]⟩ s.toks) b:=hs₄.extBut _ _ D.TOi2 hTO₃
 refine oH (pH hTO₄ rfl ?_)
 refine oH (rM hTO₄ λh₅ hTO₅ hs₅=>?_)
 replace hTO₅:pL h₅ TO (.str ⟨#[c]⟩ s.toks) y:=hTO₅
 refine oH (rb (oJ (oJ ?_)))
 refine oH (pH hTO₅ rfl ?_)
 refine oH (wpAny_newTuple ?_)
 have hsz:h₅.objs.size=s.heap.objs.size:=by rw[hs₅.1,hs₄.1,hs₃.1,hs₂.1,hs₁.1]
 have hz₅:rz h₅ z TI TO .ellipsis:=hs₅.extBut _ _ D.TOz.symm (hs₄.extBut _ _ D.i2z.symm (hs₃.extBut _ _ D.TOz.symm (hs₂.extBut _ _ D.i1z.symm hz₁)))
 have hk₅:∀c o,c≠z->c≠TO->c≠i1->c≠i2->s.heap.get? c=sF o->h₅.get? c=sF o:=λc o c1 c2 c3 c4 e =>
  hs₅.extBut _ _ c2 (hs₄.extBut _ _ c4 (up3 _ _ c1 c3 c2 e))
 have h1₅:h₅.IsStrIter i1 (pq X) X tx (k+1):=vf h1₂ λo e=>hs₅.extBut _ _ D.TOi1.symm (hs₄.extBut _ _ D.i12 (hs₃.extBut _ _ D.TOi1.symm e))
 have h2₅:h₅.IsTupleIter i2 l2 (k+1):=vE h2₄ λo e=>hs₅.extBut _ _ D.TOi2.symm e
 have hzlt:z<h₅.objs.size:=ay hz₅
 show oS _ _ (Builtin.SmallTypes.ownedTupleHandOut (.ref z) (.ref h₅.objs.size) >>= _) _ _ _
 refine oH ?_
 unfold Builtin.SmallTypes.ownedTupleHandOut
 have hz₆:rz (h₅.push { cls:=.type "tuple",data:=.seq #[.str ⟨#[c]⟩ s.toks,y] }) z TI TO .ellipsis:=aa _ hz₅
 refine oH (pQ hz₆ (by simp) λh₇ hz₇ hs₇=>?_)
 replace hz₇:rz h₇ z TI TO (rawInt h₅.objs.size):=hz₇
 refine pQ hz₇ (by simp) λh₈ hz₈ hs₈=>?_
 replace hz₈:rz h₈ z TI TO (rawInt h₅.objs.size):=hz₈
 have up:∀c o,c≠z->h₅.get? c=sF o->h₈.get? c=sF o:=λc o c1 e=>hs₈.extBut _ _ c1 (hs₇.extBut _ _ c1 (aa _ e))
 have hT₈:pL h₈ h₅.objs.size (.str ⟨#[c]⟩ s.toks) y:=hs₈.extBut _ _ (cb hzlt) (hs₇.extBut _ _ (cb hzlt) (aI _ rfl))
 have hz8:h₈.objs.size=h₅.objs.size+1:=by rw[hs₈.1,hs₇.1,bH]
 rw[hsz] at hz₈ hT₈ hz8
 refine oJ ⟨_,rfl,?_⟩
 show Q (.ref h₅.objs.size) _
 rw[hsz]
 exact hQ h₈ s.toks hz₈ (up _ _ D.TOz hTO₅) (vf h1₅ λo e=>up _ o D.i1z e) (vE h2₅ λo e=>up _ o D.i2z e) hT₈ hz8 λc o c1 c2 c3 c4 e=>up c o c1 (hk₅ c o c1 c2 c3 c4 e)
theorem Kv{z TI TO i1 i2 l2:oP}{k:Nat}{X:oW}{tx:rD}{a b:oQ}{Q:Fin->oR->Prop}(hh:A.handled=sG)(D:zbs z TI TO i1 i2 l2)
  (hz:rz s.heap z TI TO .none) (hTI:pL s.heap TI (.ref i1) (.ref i2)) (hTO:pL s.heap TO a b)
  (h1:s.heap.IsStrIter i1 (pq X) X tx k) (hx:X.cps[k]? = sG)
  (hE:∀h' e,(∀c o,c≠z->c≠TO->c≠i1->c≠i2->s.heap.get? c=sF o->h'.get? c=sF o)->(∃o,h'.get? e=sF o/\o.cls=.type "StopIteration")->E (.ref e) { s with heap:=h' }) :
  oS (model prog w) A (Builtin.«zip.__next__» ⟨[.ref z],[]⟩) Q E s:=by
 show oS _ _ (field (.ref z) 2 >>= _) _ _ _
 refine oH (pi hz rfl (x:=.bool sI) rfl ?_)
 show oS _ _ (field (.ref z) 3 >>= _) _ _ _
 refine oH (pi hz rfl (x:=.ref TI) rfl ?_)
 refine oH (pH hTI rfl ?_)
 show oS _ _ (Builtin.SmallTypes.ownedTupleIsFree (.ref z) >>= _) _ _ _
 refine oH ?_
 unfold Builtin.SmallTypes.ownedTupleIsFree
 refine oH (pi hz rfl (x:=.none) rfl (oJ ?_))
 simp only[if_true]
 refine oH (rG ?_)
 refine oH (pi hz rfl (x:=.ref TO) rfl ?_)
 refine oH (pQ hz (by simp) λh₁ hz₁ hs₁=>?_)
 replace hz₁:rz h₁ z TI TO .ellipsis:=hz₁
 refine oH ?_
 simp only[List.zipIdx_cons,List.zipIdx_nil,db,eO]
 refine oH (oH (rT ?_))
 show oS _ _ (Builtin.SmallTypes.nextOf (.ref i1) >>= _) _ _ _
 refine oH (jq (s:={ s with heap:=h₁ }) hh (vf h1 λo e=>hs₁.extBut _ _ D.i1z e) hx λh₂ e hs₂ he=>?_)
 obtain⟨oe,hoe,hce⟩:=he
 have hz₂:rz h₂ z TI TO .ellipsis:=hs₂ _ _ D.i1z.symm hz₁
 have hez:e≠z:=λx=>by subst x;rw[hz₂] at hoe;cases hoe;simp at hce
 refine pQ hz₂ (by simp) λh₃ _ hs₃=>hE h₃ e (λc o c1 _ c3 _ x=>hs₃.extBut _ _ c1 (hs₂ _ _ c3 (hs₁.extBut _ _ c1 x))) ⟨oe,hs₃.extBut _ _ hez hoe,hce⟩
end
end L3
namespace L3
section
variable{prog:oV}{w:oX}{A:oY}{E:oQ->oR->Prop}{s:oR}
theorem ja{z TI TO i1 i2 l2:oP}{k c:Nat}{X:oW}{tx:rD}{ys:Array oQ}{y a b:oQ}{Q:Option oQ->oR->Prop}(D:zbs z TI TO i1 i2 l2)
  (hz:rz s.heap z TI TO .none) (hTI:pL s.heap TI (.ref i1) (.ref i2)) (hTO:pL s.heap TO a b)
  (h1:s.heap.IsStrIter i1 (pq X) X tx k) (h2:s.heap.IsTupleIter i2 l2 k) (hl2:s.heap.IsTuple l2 ys) (hx:X.cps[k]? = sF c) (hy:ys[k]? = sF y)
  (hQ:∀h' t',rz h' z TI TO (rawInt s.heap.objs.size)->pL h' TO (.str ⟨#[c]⟩ t') y->h'.IsStrIter i1 (pq X) X tx (k+1)->h'.IsTupleIter i2 l2 (k+1)->pL h' s.heap.objs.size (.str ⟨#[c]⟩ t') y->h'.objs.size=s.heap.objs.size+1 ->
   (∀c o,c≠z->c≠TO->c≠i1->c≠i2->s.heap.get? c=sF o->h'.get? c=sF o)->Q (sF (.ref s.heap.objs.size)) { s with heap:=h',toks:=s.toks+1 }) :
  oS (model prog w) A (pyNext (.ref z)) Q E s:=by
 have hT:s.TypeIs (.ref z) "zip":=⟨_,hz,rfl⟩
 unfold pyNext
 exact oH (rg (wpAny_callSpecial?_slot (name:=bG "__next__") hT F.slot_zip_next
  (rF F.slot_zip_next hT F.entry_zip_next
   (Qs D hz hTI hTO h1 h2 hl2 hx hy λh' t' a1 a2 a3 a4 a5 a6 a7=>oJ (hQ h' t' a1 a2 a3 a4 a5 a6 a7)) (F.args_zip_next_1 _))))
theorem jp{z TI TO i1 i2 l2:oP}{k:Nat}{X:oW}{tx:rD}{a b:oQ}{Q:Option oQ->oR->Prop}(hh:A.handled=sG)(D:zbs z TI TO i1 i2 l2)
  (hz:rz s.heap z TI TO .none) (hTI:pL s.heap TI (.ref i1) (.ref i2)) (hTO:pL s.heap TO a b)
  (h1:s.heap.IsStrIter i1 (pq X) X tx k) (hx:X.cps[k]? = sG)
  (hQ:∀h',(∀c o,c≠z->c≠TO->c≠i1->c≠i2->s.heap.get? c=sF o->h'.get? c=sF o)->Q sG { s with heap:=h' }):oS (model prog w) A (pyNext (.ref z)) Q E s:=by
 have hT:s.TypeIs (.ref z) "zip":=⟨_,hz,rfl⟩
 unfold pyNext
 refine oH (rg (wpAny_callSpecial?_slot (name:=bG "__next__") hT F.slot_zip_next
  (rF F.slot_zip_next hT F.entry_zip_next (Kv hh D hz hTI hTO h1 hx λh' e hk he=>?_) (F.args_zip_next_1 _))))
 obtain⟨o,ho,hc⟩:=he
 refine oH (wpAny_isInstance (T:="StopIteration") (b:=sH) ⟨o,ho,hc⟩ isSubtype_stop ?_)
 exact oJ (hQ _ hk)
end
noncomputable abbrev zbu(h:pb)(x:oW)(t:rD):pb:=h.push { cls:=.type (pq x),data:=.fields #[.str x t,.int 0 0] }
noncomputable abbrev zbx(h:pb)(x:oW)(t:rD)(l2:oP):pb:=(zbu h x t).push { cls:=.type "tuple_iterator",data:=.fields #[.ref l2,.int 0 0] }
noncomputable abbrev zbv(h:pb)(x:oW)(t:rD)(l2:oP):pb:=(zbx h x t l2).push { cls:=.type "tuple",data:=.seq #[.ref h.objs.size,.ref (zbu h x t).objs.size] }
noncomputable abbrev zbz(h:pb)(x:oW)(t:rD)(l2:oP):pb:=(zbv h x t l2).push { cls:=.type "tuple",data:=.seq #[.none,.none] }
noncomputable abbrev KI(h:pb)(x:oW)(t:rD)(l2:oP):pb:=(zbz h x t l2).push { cls:=.type "zip",data:=.fields #[.none,.bool sI,.bool sI,.ref (zbx h x t l2).objs.size,.ref (zbv h x t l2).objs.size] }
theorem jY(x:oW)(t:rD)(l2:oP)(ys:Array oQ) :
  Meets (Builtin.«zip.__new__» ⟨[.type "zip",.str x t,.ref l2],[]⟩) (λ_ R s=>s.heap.IsTuple l2 ys /\
   R (.ok (.ret (.ref (zbz s.heap x t l2).objs.size))) { s with heap:=KI s.heap x t l2 }) :=
 .of_wp λprog w A R s h=>by
  obtain⟨hp,g,d,tk,os⟩:=s;obtain⟨hl2,h⟩:=h
  have hsub:=sub_zip
  have hL2:Heap.IsTuple (Shared.heap ⟨hp.push { cls:=.type (pq x),data:=.fields #[.str x t,.int 0 0] },g,d,tk,os⟩) l2 ys:=QT hl2 λo e=>aa _ e
  wp_walk using wpAny_pyIter_strU (s:=⟨hp,g,d,tk,os⟩) (x:=x) (t:=t),rY hL2
  exact⟨_,rfl,h⟩
section
variable{prog:oV}{w:oX}{A:oY}{E:oQ->oR->Prop}{s:oR}
theorem Qb{x:oW}{t:rD}{l2:oP}{ys:Array oQ}{Q:oQ->oR->Prop}(hl2:s.heap.IsTuple l2 ys)
  (h:∀h',rz h' (s.heap.objs.size+4) (s.heap.objs.size+2) (s.heap.objs.size+3) .none->pL h' (s.heap.objs.size+2) (.ref s.heap.objs.size) (.ref (s.heap.objs.size+1)) ->
   pL h' (s.heap.objs.size+3) .none .none->h'.IsStrIter s.heap.objs.size (pq x) x t 0->h'.IsTupleIter (s.heap.objs.size+1) l2 0->h'.objs.size=s.heap.objs.size+5 ->
   (∀c o,s.heap.get? c=sF o->h'.get? c=sF o)->Q (.ref (s.heap.objs.size+4)) { s with heap:=h' }) :
  oS (model prog w) A (call (.type "zip") [.str x t,.ref l2]) Q E s:=by
 refine callType_new F.called_zip (by decide) (F.typeCall_zip_2 _ _) (F.newCall_zip_2 _ _) (λobj=>F.args_object_init_3 obj _ _) F.entry_zip_new
  (jY x t l2 ys) ⟨hl2,?_⟩
 have z1:(zbu s.heap x t).objs.size=s.heap.objs.size+1:=bH ..
 have z2:(zbx s.heap x t l2).objs.size=s.heap.objs.size+2:=by rw[bH,z1]
 have z3:(zbv s.heap x t l2).objs.size=s.heap.objs.size+3:=by rw[bH,z2]
 have z4:(zbz s.heap x t l2).objs.size=s.heap.objs.size+4:=by rw[bH,z3]
 have z5:(KI s.heap x t l2).objs.size=s.heap.objs.size+5:=by rw[bH,z4]
 have g5:(KI s.heap x t l2).get? (zbz s.heap x t l2).objs.size=sF _:=aI _ rfl
 have g4:(KI s.heap x t l2).get? (zbv s.heap x t l2).objs.size=sF _:=aa _ (aI _ rfl)
 have g3:(KI s.heap x t l2).get? (zbx s.heap x t l2).objs.size=sF _:=aa _ (aa _ (aI _ rfl))
 have g2:(KI s.heap x t l2).get? (zbu s.heap x t).objs.size=sF _:=aa _ (aa _ (aa _ (aI _ rfl)))
 have g1:(KI s.heap x t l2).get? s.heap.objs.size=sF _:=aa _ (aa _ (aa _ (aa _ (aI _ rfl))))
 show _/\_
 rw[z2,z3,z4] at g5
 rw[z1,z2] at g3
 rw[z3] at g4
 rw[z1] at g2
 rw[z4]
 exact⟨⟨_,g5,rfl⟩,h _ g5 g3 g4 ⟨_,g1,rfl,rfl⟩ ⟨_,g2,rfl,rfl⟩ z5 λc o x =>
  aa _ (aa _ (aa _ (aa _ (aa _ x))))⟩
end
end L3
namespace L3
noncomputable def Izs(K:oO)(l:List Nat)(b:oP):It:=⟨λi H=>∃ys y,SqT K H b ys/\i<l.length/\ys[i]? = sF y,λi H v H'=>∃p c y,H p=sG/\l[i]? = sF c/\(∀ys,SqT K H b ys->ys[i]? = sF y)/\v=.ref p/\H'=upd H p (.tup [.str (tx [c]),y]),λi H=>i=l.length⟩
def ZSt(z TI TO i1 i2:oP)(X:oW)(t:rD)(l2:oP)(i:Nat)(h:pb):Prop:=rz h z TI TO .none/\pL h TI (.ref i1) (.ref i2)/\(∃a b,pL h TO a b)/\h.IsStrIter i1 (pq X) X t i/\h.IsTupleIter i2 l2 i
theorem Qw{P:oV}{w:oX}{K:oO}{elts:List oZ}{x1:Nat}{tpos:pS}(z TI TO i1 i2 l2:oP)(l:List Nat)(t:rD)(D:zbs z TI TO i1 i2 l2) :
  Uz P w K (.Tuple elts x1 tpos) (Izs K l l2) [z,TI,TO,i1,i2] z (λi h=>ZSt z TI TO i1 i2 (tx l) t l2 i h) where
 mem:=by simp
 obj:=λi h st b hb=>by
  obtain⟨hz,hTI,⟨a,c,hTO⟩,⟨o1,e1,c1,d1⟩,⟨o2,e2,c2,d2⟩⟩:=st
  simp only[dm,d8,or_false] at hb
  rcases hb with rfl | rfl | rfl | rfl | rfl
  ·exact⟨_,hz,λv q=>by have q':Data.fields _=Data.cell v:=q;cases q'⟩
  ·exact⟨_,hTI,λv q=>by have q':Data.seq _ _=Data.cell v:=q;cases q'⟩
  ·exact⟨_,hTO,λv q=>by have q':Data.seq _ _=Data.cell v:=q;cases q'⟩
  ·exact⟨o1,e1,λv q=>by rw[d1] at q;cases q⟩
  ·exact⟨o2,e2,λv q=>by rw[d2] at q;cases q⟩
 keep:=λi h h' st k=>by
  obtain⟨hz,hTI,⟨a,c,hTO⟩,h1,h2⟩:=st
  exact⟨k z (by simp) _ hz,k TI (by simp) _ hTI,⟨a,c,k TO (by simp) _ hTO⟩,vf h1 λo e=>k i1 (by simp) o e,vE h2 λo e=>k i2 (by simp) o e⟩
 item:=by
  intro X hP hw hK hc i sJ s σ H E I hf st hg
  subst hP hw hK
  obtain⟨ys,y,hqy,hi,hy⟩:=hg
  obtain⟨its2,rv2,p2,_⟩:=I.tuple hqy
  obtain⟨u2,hu2,ru2⟩:=rv2.get hy
  obtain⟨hz,hTI,⟨a,b,hTO⟩,h1,h2⟩:=st
  have hl2:s.heap.IsTuple l2 its2.toArray:=p2
  have hx:(tx l).cps[i]? = sF l[i]:=by
   show l.toArray[i]? = _
   simp [hi]
  refine ja D hz hTI hTO h1 h2 hl2 hx (y:=u2) (by simpa using hu2) λh' t' a1 a2 a3 a4 a5 a6 hk=>?_
  refine⟨_,rfl,wpAny_letOwnedTupleGo_zip (s:={ s with heap:=h',toks:=s.toks+1 }) a1 λh2' hz2 sb=>?_⟩
  have zlt:z<s.heap.objs.size:=ay hz
  have TIlt:TI<s.heap.objs.size:=ay hTI
  have TOlt:TO<s.heap.objs.size:=ay hTO
  have i1lt:i1<s.heap.objs.size:=by obtain⟨o,e,_⟩:=h1;exact ay e
  have i2lt:i2<s.heap.objs.size:=by obtain⟨o,e,_⟩:=h2;exact ay e
  have I1:Inv X sJ σ H { s with heap:=h2',toks:=s.toks+1 }:=Inv.turns (fp:=[z,TI,TO,i1,i2]) I (λb o hb q=>by
   have hb':b≠z/\b≠TI/\b≠TO/\b≠i1/\b≠i2:=by simpa using hb
   exact (sb.2 b hb'.1).trans (hk b o hb'.1 hb'.2.2.1 hb'.2.2.2.1 hb'.2.2.2.2 q)) hf
  have hp:H s.heap.objs.size=sG:=I.hok.fresh (au _)
  have hT2:h2'.get? s.heap.objs.size=sF { cls:=.type "tuple",data:=.seq #[.str ⟨#[l[i]]⟩ t',u2] }:=(sb.2 _ (cb zlt)).trans a5
  have ru1:RelV (.str (tx [l[i]])) (.str ⟨#[l[i]]⟩ t'):=⟨t',rfl⟩
  have I2:Inv X sJ σ (upd H s.heap.objs.size (.tup [.str (tx [l[i]]),y])) { s with heap:=h2',toks:=s.toks+1 } :=
   Inv.track I1 (I.fpOk (au _) hp) ⟨by show 2<=oN;decide,[.str ⟨#[l[i]]⟩ t',u2],.cons ru1 (.cons ru2 .nil),⟨_,hT2,rfl,_,rfl⟩⟩
  refine⟨.ref s.heap.objs.size,_,I2,rfl,⟨s.heap.objs.size,l[i],y,hp,by simp [hi],λzs hz'=>by rw[I.tuple_inj hz' hqy];exact hy,rfl,rfl⟩,⟨hz2,(sb.2 _ D.TIz).trans (hk _ _ D.TIz D.TITO D.TIi1 D.TIi2 hTI),⟨_,_,(sb.2 _ D.TOz).trans a2⟩,vf a3 λo e=>(sb.2 _ D.i1z).trans e,vE a4 λo e=>(sb.2 _ D.i2z).trans e⟩,λb hb=>?_⟩
  rw[zo]
  ·exact (hf b hb).1
  ·simp only[dm,d8,or_false] at hb
   rcases hb with rfl | rfl | rfl | rfl | rfl <;> exact aE (by assumption)
 done:=by
  intro X hP hw hK hc i sJ s σ H E I hf st hg
  subst hP hw hK
  have hi:i=l.length:=hg
  obtain⟨hz,hTI,⟨a,b,hTO⟩,h1,h2⟩:=st
  refine jp (I.ok.hd hc) D hz hTI hTO h1 ?_ λh' hk=>⟨rfl,?_⟩
  ·show l.toArray[i]? = sG
   simp [hi]
  ·exact Inv.turns (fp:=[z,TI,TO,i1,i2]) (t':=s.toks) I (λb o hb q=>by
    have hb':b≠z/\b≠TI/\b≠TO/\b≠i1/\b≠i2:=by simpa using hb
    exact hk b o hb'.1 hb'.2.2.1 hb'.2.2.2.1 hb'.2.2.2.2 q) hf
 self:=λA i s Q E st h=>sr st.1 h
section
variable{X:Cx}
def iZs(K:oO)(ta:TA):TI:=λσ H R=>ta σ H λvs H1=>∃l b,vs=[.str (tx l),.ref b]/\(∃ys,SqT K H1 b ys)/\R (Izs K l b) H1
theorem zaQ{a b:oZ}{ta:TA}{p pos tpos:pS}{elts:List oZ}{x1:Nat}(hg:Gl X "zip")(hm:X.mg "zip" = sG)(ha:PA X [a,b] ta)(hs:oM [a,b] X.env=(sI,eval a X.env)::oM [b] X.env:=by rfl)
  (hpl:(pj pos (oM [b] X.env)).any (·.1)=sI:=by rfl):PI X (.Tuple elts x1 tpos) (.Call (.Name "zip" p) [a,b] [] pos) (iZs X.K ta):=by
 intro sJ s σ H R I h
 refine Call_ (vj I hg hm PyProof.Rows.boot_zip (bD (thn (ha pos sJ s σ H _ I h) λus s1 ⟨vs,H1,I1,r1,q1⟩=>?_) hs hpl))
 obtain⟨l,l2,e,⟨ys,hqy⟩,q⟩:=q1
 subst e
 obtain⟨u1,u2,rfl,ru1,ru2⟩:=Uh r1
 obtain⟨t,rfl⟩:=ru1
 cases ru2
 obtain⟨its2,rv2,p2,_⟩:=I1.tuple hqy
 have hl2:s1.heap.IsTuple l2 its2.toArray:=p2
 have l2lt:l2<s1.heap.objs.size:=by obtain⟨o,e,_⟩:=hl2;exact ay e
 have ne:∀a b:Nat,a≠b->s1.heap.objs.size+a≠s1.heap.objs.size+b:=λa b h e=>h (Nat.add_left_cancel e)
 have nl:∀a:Nat,l2≠s1.heap.objs.size+a:=λa=>aE (aD l2lt (cj _ _))
 refine Qb hl2 λh' hz hTI hTO h1 h2 hsz kk=>?_
 have I2:Inv X sJ σ H1 { s1 with heap:=h' }:=I1.kept (t':=s1.toks) kk
 refine sr (s:={ s1 with heap:=h' }) hz ?_
 refine⟨s1.heap.objs.size+4,[s1.heap.objs.size+4,s1.heap.objs.size+2,s1.heap.objs.size+3,s1.heap.objs.size,s1.heap.objs.size+1],_,_,H1,rfl,I2,Qw (s1.heap.objs.size+4) (s1.heap.objs.size+2) (s1.heap.objs.size+3) s1.heap.objs.size (s1.heap.objs.size+1) l2 l t ⟨⟨ne 2 4 (by decide),ne 3 4 (by decide),ne 0 4 (by decide),ne 1 4 (by decide),ne 2 3 (by decide),ne 2 0 (by decide),ne 2 1 (by decide),ne 3 0 (by decide),ne 3 1 (by decide),ne 0 1 (by decide)⟩,nl 4,nl 3,nl 0,nl 1⟩,⟨hz,hTI,⟨_,_,hTO⟩,h1,h2⟩,λb hb=>?_,q⟩
 have hb':s1.heap.objs.size<=b:=by
  simp only[dm,d8,or_false] at hb
  rcases hb with e | e | e | e | e
  ·rw[e];exact cj _ _
  ·rw[e];exact cj _ _
  ·rw[e];exact cj _ _
  ·rw[e];exact au _
  ·rw[e];exact cj _ _
 exact I1.fpOk hb' (I1.hok.fresh hb')
end
def CompZ(K:oO)(l:List Nat)(b:oP)(g:TG)(tt:TT)(te:TE)(own:Nat)(ix:List Nat)(σ:L2.St)(H1:Hp)(Q:VK)(D:oP):Prop:=XR (Izs K l b) g tt te own ix σ H1 Q D
theorem zJ{K:oO}{ta:TA}{g:TG}{tt:TT}{te:TE}{own:Nat}{ix:List Nat}{σ:L2.St}{H:Hp}{Q:VK}:kB (iZs K ta) g tt te own ix σ H Q=ta σ H λvs H1=>∃l b,vs=[.str (tx l),.ref b]/\(∃ys,SqT K H1 b ys)/\∀D,H1 D=sG->CompZ K l b g tt te own ix σ H1 Q D:=rfl
section
variable{g:TG}{tt:TT}{te:TE}{own:Nat}{ix:List Nat}{σ:L2.St}{H1:Hp}{Q:VK}{D:oP}
theorem CompZ.by{K:oO}{l:List Nat}{b:oP}{ys:List V}(Pv:Nat->List V->Hp->Prop)(hlen:l.length=ys.length)(h0:Pv 0 [] (upd H1 D (.lst [])))(hl:∀i sL H',i<=l.length->Pv i sL H'->SqT K H' b ys)
  (hs:∀i c y sL H' p,l[i]? = sF c->ys[i]? = sF y->Pv i sL H'->H' p=sG->g (.ref p) (vo σ own ix) (upd H' p (.tup [.str (tx [c]),y])) λσ3 H3=>xt (vo σ own ix) σ3/\tt σ3 H3 λb H4=>if b=sH then
   te σ3 H4 λv H5=>H5 D=sF (.lst sL)/\sL.length<oN/\CNx l.length i Pv (sL ++ [v]) (upd H5 D (.lst (sL ++ [v]))) else CNx l.length i Pv sL H4)
  (hd:∀sL H',Pv l.length sL H'->Q (.ref D) H'):CompZ K l b g tt te own ix σ H1 Q D:=by
 refine⟨λi m sL H=>m=l.length - i/\i<=l.length/\Pv i sL H,⟨l.length,by simp,aJ _,h0⟩,?_⟩
 rintro i m sL H' ⟨rfl,hi,p⟩
 have q:=hl i sL H' hi p
 by_cases hlt:i<l.length
 ·refine .inr ⟨⟨ys,ys[i],q,hlt,by simp [<- hlen,hlt]⟩,λx H2 y=>?_⟩
  obtain⟨p',c,y,hp,hc,hy,ev,eH⟩:=y
  subst ev eH
  exact hs i c y sL H' p' hc (hy ys q) p hp
 ·have e:i=l.length:=by lia
  subst e
  exact .inl ⟨rfl,hd sL H' p⟩
end
end L3
namespace L3
section
variable{X:Cx}{k1 k2 k3 j:Nat}{C1 C2 C3:oP}{m:oW}{ps:List oW}{s1 s2 s3:Sp}{o e:oZ}{es:List oZ}{ta:TE}{t:TA}{apos pos p:pS}{E:XK}
def yx(t1 t2:TE):TE:=λσ H Q=>t1 σ H Q\/t2 σ H Q
theorem Jh{t1 t2:TE}(h1:PE X e t1)(h2:PE X e t2):PE X e (yx t1 t2):=by
 intro sJ s σ H Q I h
 rcases h with h | h
 ·exact h1 sJ s σ H Q I h
 ·exact h2 sJ s σ H Q I h
theorem zbi(D1:DM X.prog X.w X.K X.mg X.base CX0 k1 C1 m ps s1)(D2:DM X.prog X.w X.K X.mg X.base CX0 k2 C2 m ps s2)(D3:DM X.prog X.w X.K X.mg X.base CX0 k3 C3 m ps s3)(c1:Cls X.K C1)(c2:Cls X.K C2)(c3:Cls X.K C3)(hr:Room j X.A)(he:PE X o ta)(ha:PA X (e::es) t){pl:sx Bool}
    (hst:oM (e::es) X.env=(sI,eval e X.env)::oM es X.env:=by rfl) (hpl:(pj pos (oM es X.env)).any (·.1)=sI:=by rfl)
    (ht:eval (.Call (.Attribute o m apos) (e::es) [] pos) X.env=(do
      let ov <- eval o X.env
      standAt apos.atName
      let (f,first) <- holding [ov] (getMethod ov m pl)
      callWith pos f first (pj pos (oM (e::es) X.env)) (pG pos (pf [] X.env))):=by rfl) (h1:k1<=j:=by decide) (h2:k2<=j:=by decide) (h3:k3<=j:=by decide) :
    PE X (.Call (.Attribute o m apos) (e::es) [] pos) (yx (ZY C1 m s1 [] E0 ta t) (yx (ZY C2 m s2 [] E0 ta t) (ZY C3 m s3 [] E0 ta t))) :=
  Jh (me1 (pl:=pl) D1 c1 hr he ha hst hpl ht h1) (Jh (me1 (pl:=pl) D2 c2 hr he ha hst hpl ht h2) (me1 (pl:=pl) D3 c3 hr he ha hst hpl ht h3))
end
end L3
namespace L3
section
variable{X:Cx}
def zcn:V->List V->Hp->VK->Prop:=λx vs H Q=>∃l xs y,x=.ref l/\vs=[.int 0,y]/\H l=sF (.lst xs)/\xs.length<oN/\Q .non (upd H l (.lst (y::xs)))
theorem JM:MtM X "list.insert" zcn:=by
 intro sJ s σ H x vs v us Q I rx rv h
 obtain⟨l,xs,y,rfl,rfl,hH,hz,q⟩:=h
 cases rx
 cases rv with
 | cons r1 r2 =>
  obtain⟨t0,rfl⟩:=r1
  obtain⟨u,rfl,ru⟩:=wP r2
  obtain⟨z,its,n,r,hl,e⟩:=I.lstM hH
  refine call_meets F.slot_list_insert ⟨_,e,rfl⟩ F.entry_list_insert (F.args_list_insert_3 _ _ _) (PySem.AutoSeq1.list_insert_list_int_val_1 l its.toArray n 0 t0 u (by decide) (by rw[ao];lia)) ⟨e,?_⟩
  refine⟨.non,_,I.lset (its':=u::its) hH e ?_ (.cons ru r) ?_,rfl,q⟩
  ·simp
  ·rw[aM]
   lia
end
end L3
namespace L3
section
variable{X:Cx}
end
end L3
namespace L3
open PySem PySem.Spec PyProof.Rows L2 PySem.W PySem.Calls
def uq(n:Int):Prop:=Builtin.Int.intBits n<=1048576
theorem Jx:∀(ns:List Int),WData.weightAll (ns.map WData.int)<=1048576->∀n ∈ ns,uq n
 | [],_,n,h=>nomatch h
 | m::ns,hw,n,h=>by
  rw[aC,WData.weightAll] at hw
  rcases List.mem_cons.mp h with rfl | h
  ·have e:WData.weight (.int n)=Builtin.Int.intBits n:=by
    rw[WData.weight]
    rfl
   unfold uq
   lia
  ·exact Jx ns (by lia) n h
section
variable{X:Cx}
theorem UV{i j:Int}(hi:uq i)(hj:uq j):IntMulOk i j:=by
 unfold IntMulOk Builtin.Int.intTooBig
 unfold uq at hi hj
 have:(bitsLine:Nat)=134217728:=rfl
 simp
 intro _ _
 lia
theorem UH:OpR X (binaryOp .Mult) (rI (λi j=>uq i/\uq j) λi j=>.int (i * j)):=opI λ_ _ _ _ _ _ _ hc q=>mul_int q (UV hc.1 hc.2)
end
theorem ZK{l:OpenLaw}{n:Nat}{q:oV}{loose:List oW}{XP:(oW->Option oQ)->pb->Prop}{YP:oX->pb->Prop}{d:DefRec}
  (hn:l.most=sF n) (hdf:d.params.defaults=[])
  (call:∀(w:oX) (s₀ s₁:oR) (mg mb:oW->Option oQ) (fa:oP) (o:pD) (pm cd doc:oQ) (a:oP) (vs:List oQ) (ns:List Int),
   Ground q loose [] XP w s₀ mg mb s₁.heap->YP w s₁.heap ->
   s₁.heap.get? fa=sF o->o.data=.func (docDef d.name d.params d.body d.scope pm cd doc)->s₁.heap.CodeRec cd d.name->mg d.name=sF (.ref fa) ->
   s₁.heap.get? a=sF { cls:=.type "list",data:=.seq vs.toArray }->so vs ns->ns.length<=n->(∀z ∈ ns,uq z)->s₁.gens=#[] ->
   pO (model l.prog w) callerA (.call (.ref fa) ⟨[.ref a],[]⟩) (λr s'=>r=.ok (.ret (.bool sH))/\OldK s₁.heap s'.heap/\s'.os=s₁.os/\rp s'.gens) s₁) :
  WalkO q loose XP YP l.row.toRowW d [] (λf vs=>fw f vs):=by
 intro w s₀ s₁ mg mb G Y fa o pm cd doc dV kV ho hd hcd hD hmg hg args vals as hpre hlay hrd hwl hlo
 obtain rfl:dV=.none:=Dflts.none hD hdf
 obtain rfl:kV=.none:=Dflts.noKw hD
 obtain⟨a,vs,ns,rfl,rfl,hobj,hints,hlen⟩:=Att.script_of hn hpre hwl
 have hb:∀z ∈ ns,uq z:=by
  refine Jx ns ?_
  have h1:WData.layable (WData.list (ns.map WData.int))=sH:=by
   have:=hlay
   unfold WData.layableAll at this
   simpa using this
  unfold WData.layable at h1
  simp only[cE,decide_eq_true_eq] at h1
  have h2:=h1.2
  rw[WData.weight] at h2
  exact h2
 refine enter_call (pX (call w s₀ s₁ mg mb fa o pm cd doc a vs ns G Y ho (fd_plain hd) hcd hmg hobj hints hlen hb hg) λr s' hq=>?_)
 obtain⟨rfl,h2,h3,h4⟩:=hq
 exact⟨.inl ⟨.bool sH,.bool sH,[],rfl,λ_=>rfl,.bool sH,Att.post_true l _,λ_=>⟨List.Pairwise.nil,λ_ hm=>(nomatch hm)⟩⟩,h2,h3,h4⟩
end L3
namespace L3
section
variable{X:Cx}{k j:Nat}{C:oP}{x f':oW}{ps:List oW}{sp:Sp}{e:oZ}{es:List oZ}{t:TA}{te:TX}{pos p:pS}
end
section
variable{X:Cx}{k j:Nat}{C:oP}{m x:oW}{ps:List oW}{sp:Sp}{e:oZ}{es:List oZ}{t:TA}{apos pos p:pS}{E:XK}
end
end L3
namespace L3
section
variable{prog:oV}{w:oX}{A:oY}{E:oQ->oR->Prop}{s:oR}{env:rL}
end
end L3
namespace L3
theorem XEg.xe{X:Cx}{E:XK}(h:XEg X E):XE X E:=λe s ⟨sJ,σ,H,x,C,t,dx,tb,q⟩=>h e s ⟨.none,sI,sJ,σ,H,x,C,t,dx,tb,q⟩
section
variable{X:Cx}{k:Nat}{ps:List oW}{sp:Sp}{ds:List oQ}{dvs:List V}{E:XK}{x:oW}{p pos:pS}{e:oZ}{es:List oZ}{t:TA}
end
section
variable{X:Cx}{o e:oZ}{to:TE}{te:TX}{name:oW}{apos cpos:pS}{T id:String}{r:V->List V->Hp->VK->Prop}
end
section
variable{X:Cx}
end
section
variable{X:Cx}{k j:Nat}{C:oP}{ps:List oW}{sp:Sp}{e:oZ}{es:List oZ}{t:TA}{pos p:pS}{x:oW}
end
end L3
namespace L3
theorem Ym(x y:oW)(i j:Int)(t u v v':rD):Gives (Builtin.«str.find» ⟨[.str x t,.str y u,.int i v,.int j v'],[]⟩) (.int (match Builtin.Str.occurrences x y (fromIndex x.length i) (min (fromIndex x.length j) x.length) 1 with | k::_=>(k:Int) | []=>-1)):=by
 show Gives (match Builtin.Str.occurrences x y (fromIndex x.length i) (min (fromIndex x.length j) x.length) 1 with | k::_=>retInt k | []=>(do rule "str.find.not-found";retInt (-1))) _
 cases Builtin.Str.occurrences x y (fromIndex x.length i) (min (fromIndex x.length j) x.length) 1 with
 | nil=>exact .rule (.of_eq rfl)
 | cons k _=>exact .of_eq rfl
theorem Yg(x y:oW)(lo hi:Nat) :
  (Builtin.Str.occurrences x y lo hi 1=[]/\∀i,lo<=i->¬ StrLaws.At x y hi i) \/
  ∃i r,Builtin.Str.occurrences x y lo hi 1=i::r/\lo<=i/\StrLaws.At x y hi i/\∀k,lo<=k->k<i->¬ StrLaws.At x y hi k:=by
 rw[StrLaws.occ_eq]
 rcases StrLaws.occ_first x y hi 1 (au 1) (List.range' lo (hi+1 - lo)) lo (λi hm=>(List.mem_range'_1.mp hm).1) with ⟨e,no⟩ | ⟨pre,a,post,e,e0,at_a,no⟩
 ·exact .inl ⟨by rw[e],λi h1 h2=>no i (by have:=h2.1;rw[List.mem_range'_1];lia) h2⟩
 ·have sp:=StrLaws.range'_split_from e
  generalize (forIn (List.range' lo (hi+1 - lo)) ((#[]:Array Nat),lo) (StrLaws.occBody x y hi 1)).run.fst=z at e0 ⊢
  obtain⟨zs⟩:=z
  cases zs with
  | nil=>simp at e0
  | cons b r =>
   have:b=a:=by simpa using e0
   subst this
   exact .inr ⟨b,r,rfl,sp.1,at_a,λk h1 h2=>no k (sp.2 k h1 h2)⟩
theorem zbP(l p:List Nat)(hi i:Nat):StrLaws.At (tx l) (tx p) hi i ↔ i+p.length<=hi/\(l.drop i).take p.length=p:=by
 unfold StrLaws.At Builtin.Str.subAt
 rw[ye,beq_iff_eq]
 have e1:((tx l).cps.extract i (i+p.length)).toList=(l.drop i).take p.length:=by
  show (l.toArray.extract i (i+p.length)).toList=_
  simp [dX]
 have e2:((tx l).cps.extract i (i+p.length)=(tx p).cps) ↔ (l.drop i).take p.length=p:=by
  constructor
  ·intro h
   rw[<- e1,h]
  ·intro h
   apply Array.toList_inj.mp
   rw[e1,h]
 rw[e2]
def Jw:V->List V->Hp->VK->Prop:=λx xs H Q=>∃(l p:List Nat) (lo hi:Int),x=.str (tx l)/\xs=[.str (tx p),.int lo,.int hi]/\0<=lo/\0<=hi/\∀r:Int,((r=-1/\∀q:Nat,lo<=q->(q:Int)+p.length<=hi->q+p.length<=l.length->(l.drop q).take p.length≠p)\/∃k:Nat,r=k/\lo<=k/\(k:Int)+p.length<=hi/\k+p.length<=l.length/\(l.drop k).take p.length=p/\∀q:Nat,lo<=q->q<k->(l.drop q).take p.length≠p)->Q (.int r) H
theorem Kx{X:Cx}:MtR X "str.find" Jw:=by
 intro sJ s σ H x xs v us Q I rx rv h
 obtain⟨l,p,lo,hi,rfl,rfl,h0,h1,q⟩:=h
 obtain⟨t,rfl⟩:=rx
 cases rv with
 | cons r1 r2 =>
  cases r2 with
  | cons r2 r3 =>
   obtain⟨w3,rfl,t3,rfl⟩:=wP r3
   obtain⟨t1,rfl⟩:=r1
   obtain⟨t2,rfl⟩:=r2
   have f0:fromIndex (tx l).length lo=lo.toNat:=by unfold fromIndex;rw[if_neg (by lia)];lia
   have f1:fromIndex (tx l).length hi=hi.toNat:=by unfold fromIndex;rw[if_neg (by lia)];lia
   refine call_gives F.slot_str_find (typeIs_str _ _ _) F.entry_str_find (F.args_str_find_4 _ _ _ _) (Ym _ _ lo hi t t1 t2 t3) ?_
   refine⟨.int _,H,I.tok _,⟨_,rfl⟩,q _ ?_⟩
   rw[f0,f1]
   have hm:∀k:Nat,k+p.length<=min hi.toNat (tx l).length ↔ (k:Int)+p.length<=hi/\k+p.length<=l.length:=λk=>by rw[ye];lia
   rcases Yg (tx l) (tx p) lo.toNat (min hi.toNat (tx l).length) with ⟨e,no⟩ | ⟨i,r,e,hl,ha,no⟩
   ·rw[e]
    exact .inl ⟨rfl,λk k1 k2 k3 k4=>no k (by lia) ((zbP l p _ k).mpr ⟨(hm k).mpr ⟨k2,k3⟩,k4⟩)⟩
   ·rw[e]
    obtain⟨a1,a2⟩:=(zbP l p _ i).mp ha
    obtain⟨b1,b2⟩:=(hm i).mp a1
    exact .inr ⟨i,rfl,by lia,b1,b2,a2,λk k1 k2 k4=>no k (by lia) k2 ((zbP l p _ k).mpr ⟨(hm k).mpr ⟨by lia,by lia⟩,k4⟩)⟩
end L3
set_option linter.unusedVariables false
namespace L3
section
variable{X:Cx}
end
end L3
namespace L3
section
variable{prog:oV}{w:oX}{A:oY}{R:rR->oR->Prop}{I l S:oP}
theorem Uj(hh:A.handled=sG)(hlI:l≠I)(hSI:S≠I)(hSl:S≠l)(xs:Array oQ)(val:Nat->Int)(hv:∀i v,xs[i]? = sF v->∃t,v=Value.int (val i) t)(d:oQ) :
  ∀(k j:Nat) (z:Int) (t:rD) (s:oR) (c:Nat),xs.size - j=k->j<=xs.size->(∀i,i<j->val i<=z)->s.heap.IsListIter I l j->s.heap.IsList l xs->s.heap.get? S=sF (pw "list" #[.int z t,.int z t] c) ->
   (∀z' t' h' tk,(∀i,i<xs.size->val i<=z')->(∀b o,b≠I->b≠S->s.heap.get? b=sF o->h'.get? b=sF o)->R (.ok (.ret (.int z' t'))) { s with heap:=h',toks:=tk }) ->
   pO (model prog w) A (.builtin "max.loop" ⟨[.ref I,.none,.ref S],[(bG "default",d)]⟩) R s:=by
 have nm:(toString "max" ++ toString ".loop" : String)="max.loop":=by decide
 have W:=Walks.list (prog:=prog) (w:=w) (A:=A.in1) hh I l hlI xs
 intro k
 induction k with
 | zero =>
  intro j z t s c hk hj hz hit hl hS hR
  have e:j=xs.size:=by lia
  refine ra (b:=Builtin.«max.loop») dk ?_
  rw[Around.under_plainId (id:="max.loop") bI _]
  show oS _ A.in1 (seqItems? (Value.ref S) >>= _) _ _ s
  refine oH (pH (items:=#[.int z t,.int z t]) hS rfl ?_)
  show oS _ A.in1 (tryCatch (pyNext (Value.ref I)) _ >>= _) _ _ s
  refine oH (re (W.done s _ _ ⟨e ▸ hit,hl⟩ λh' tk kp=>?_))
  have hS':=kp S _ (by simpa using hSI) hS
  show oS _ A.in1 (updateSeq S (λ_=>(#[]:Array oQ)) >>= _) _ _ _
  refine oH (rK hS' rfl (oH (rb (oJ ?_))))
  exact hR z t _ tk (λi hi=>hz i (by lia)) λb o hb hb' q=>(aL _ _ (Ne.symm hb')).trans (kp b o (by simpa using hb) q)
 | succ k ih =>
  intro j z t s c hk hj hz hit hl hS hR
  refine ra (b:=Builtin.«max.loop») dk ?_
  rw[Around.under_plainId (id:="max.loop") bI _]
  show oS _ A.in1 (seqItems? (Value.ref S) >>= _) _ _ s
  refine oH (pH (items:=#[.int z t,.int z t]) hS rfl ?_)
  show oS _ A.in1 (tryCatch (pyNext (Value.ref I)) _ >>= _) _ _ s
  refine oH (re (W.item j s _ _ (by lia) ⟨hit,hl⟩ λv h' tk hP st kp=>?_))
  obtain⟨t2,rfl⟩:=hv j v hP
  have hS':=kp S _ (by simpa using hSI) hS
  show oS _ A.in1 (tryCatch (holding [Value.int (val j) t2,Value.int (val j) t2] (richCompare .Gt (.int (val j) t2) (.int z t) >>= _)) _ >>= _) _ _ _
  refine oH (re (pE (oH (CmpOf.ints_gt (prog:=prog) (w:=w) (A:=A.in1) (P:=λi v=>∃t,v=Value.int (if i=0 then val j else z) t) (λi=>if i=0 then val j else z) (λi v h=>h) 0 1 _ _ _ _ _ ⟨t2,rfl⟩ ⟨t,rfl⟩ ?_))))
  refine oH (pE (pB (oH (rb (oJ ?_)))))
  by_cases g:val j > z
  ·simp only[if_true,Nat.one_ne_zero,if_false,g,decide_true]
   refine oH (rK hS' rfl (oH (rb ?_)))
   rw[nm]
   refine oJ ⟨plainId_quiet bI _,ih (j+1) (val j) t2 _ _ (by lia) (by lia) (λi hi=>?_) (W.frame _ _ _ st λb hb o q=>?_).1 (W.frame _ _ _ st λb hb o q=>?_).2 (get?_update_seq hS' _) λz' t' h'' tk'' a1 a2=>hR z' t' h'' tk'' a1 λb o hb hb' q=>a2 b o hb hb' ((aL _ _ (Ne.symm hb')).trans (kp b o (by simpa using hb) q))⟩
   ·by_cases e:i=j
    ·rw[e]
     exact fk _
    ·have:=hz i (by lia)
     lia
   all_goals
    refine (aL _ _ (λe:S=b=>?_)).trans q
    subst e
    rcases List.mem_cons.mp hb with e | e
    ·exact hSI e
    ·exact hSl (List.mem_singleton.mp e)
  ·simp only[if_true,Nat.one_ne_zero,if_false,g,decide_false,bO]
   refine oH (rb ?_)
   rw[nm]
   refine oJ ⟨plainId_quiet bI _,ih (j+1) z t _ _ (by lia) (by lia) (λi hi=>?_) st.1 st.2 hS' λz' t' h'' tk'' a1 a2=>hR z' t' h'' tk'' a1 λb o hb hb' q=>a2 b o hb hb' (kp b o (by simpa using hb) q)⟩
   by_cases e:i=j
   ·rw[e]
    lia
   ·exact hz i (by lia)
theorem VI(a v:oQ):argsOk "max" ⟨[a],[(bG "default",v)]⟩:=by unfold argsOk;kernel_rfl
theorem VS{E:oQ->oR->Prop}{s:oR}{Q:oQ->oR->Prop}(hh:A.handled=sG)(xs:Array oQ)(val:Nat->Int)(hv:∀i v,xs[i]? = sF v->∃t,v=Value.int (val i) t)(hl:s.heap.IsList l xs)(d:oQ)
  (h:∀v h' tk,(xs.size=0->v=d)->(0<xs.size->∃z t,v=Value.int z t/\∀i,i<xs.size->val i<=z)->(∀b o,s.heap.get? b=sF o->h'.get? b=sF o)->Q v { s with heap:=h',toks:=tk }) :
  oS (model prog w) A (call (.builtin "max") [.ref l] [(bG "default",d)]) Q E s:=by
 have nm:(toString "max" ++ toString ".loop" : String)="max.loop":=by decide
 have hlt:l<s.heap.objs.size:=by obtain⟨_,e,_⟩:=hl;exact ay e
 refine kmb_tree PySem.F.kind_max PySem.F.plain_max PySem.F.entry_max (VI _ _) ?_
 show oS _ A.in1 (Builtin.Builtins.bindParams "max" ["key","default"] 0 ⟨[],[(bG "default",d)]⟩ >>= _) _ _ s
 refine oH (wpAny_of_eq (show Builtin.Builtins.bindParams "max" ["key","default"] 0 ⟨[],[(bG "default",d)]⟩=pure [sG,sF d] from rfl) (oH (oJ ?_)))
 refine oH (rA hl (oH (rV ?_ (aJ _))))
 rw[nm]
 refine oJ ⟨plainId_quiet bI _,?_⟩
 have gI:(s.heap.push { cls:=.type "list_iterator",data:=.fields #[.ref l,.int 0 0] }).IsListIter s.heap.objs.size l 0:=⟨_,aI _ rfl,rfl,rfl⟩
 have gl:=hl.push { cls:=.type "list_iterator",data:=.fields #[.ref l,.int 0 0] }
 have kp0:∀b o,s.heap.get? b=sF o->(s.heap.push { cls:=.type "list_iterator",data:=.fields #[.ref l,.int 0 0] }).get? b=sF o:=λb o q=>aa _ q
 have hsz:(s.heap.push { cls:=.type "list_iterator",data:=.fields #[.ref l,.int 0 0] }).objs.size=s.heap.objs.size+1:=bH _ _
 have hold:∀b o,s.heap.get? b=sF o->b<s.heap.objs.size:=λb o q=>ay q
 have hlI:l≠s.heap.objs.size:=aE hlt
 generalize s.heap.push { cls:=.type "list_iterator",data:=.fields #[.ref l,.int 0 0] }=h1 at *
 generalize hIe:s.heap.objs.size=I at *
 have W:=Walks.list (prog:=prog) (w:=w) (A:=A.in1) hh I l hlI xs
 have gS:(h1.push { cls:=.type "list",data:=.seq ([]:List oQ).toArray }).get? h1.objs.size=sF (pw "list" #[] 0):=aI _ rfl
 have st0:=W.frame 0 _ (h1.push { cls:=.type "list",data:=.seq ([]:List oQ).toArray }) ⟨gI,gl⟩ λb _ o q=>aa _ q
 have kp1:∀b o,s.heap.get? b=sF o->(h1.push { cls:=.type "list",data:=.seq ([]:List oQ).toArray }).get? b=sF o:=λb o q=>aa _ (kp0 b o q)
 have hSI:h1.objs.size≠I:=by rw[hsz];exact Nat.succ_ne_self I
 have hSl:h1.objs.size≠l:=by rw[hsz];exact cb (ci hlt)
 have hSb:∀b o,s.heap.get? b=sF o->b≠I/\b≠h1.objs.size:=λb o q=>⟨aE (hold b o q),by rw[hsz];exact aE (ci (hold b o q))⟩
 generalize h1.push { cls:=.type "list",data:=.seq ([]:List oQ).toArray }=h2 at *
 generalize h1.objs.size=S at *
 refine ra (b:=Builtin.«max.loop») dk ?_
 rw[Around.under_plainId (id:="max.loop") bI _]
 show oS _ A.in1 (seqItems? (Value.ref S) >>= _) _ _ _
 refine oH (pH (items:=#[]) gS rfl ?_)
 show oS _ A.in1 (tryCatch (pyNext (Value.ref I)) _ >>= _) _ _ _
 by_cases hz:xs.size=0
 ·refine oH (re (W.done _ _ _ (by rw[hz];exact st0) λh' tk kp=>?_))
  show oS _ A.in1 (rule _ >>= λ_=>_) _ _ _
  refine oH (rG (oJ ?_))
  exact h d h' tk (λ_=>rfl) (λq=>absurd q (by lia)) λb o q=>kp b o (by simpa using (hSb b o q).1) (kp1 b o q)
 ·refine oH (re (W.item 0 _ _ _ (by lia) st0 λv h' tk hP st kp=>?_))
  obtain⟨t,rfl⟩:=hv 0 v hP
  have hS':=kp S _ (by simpa using hSI) gS
  show oS _ A.in1 (updateSeq S (λ_=>#[Value.int (val 0) t,Value.int (val 0) t]) >>= _) _ _ _
  refine oH (rK hS' rfl ?_)
  rw[nm]
  have st':=W.frame _ _ (h'.update S (Obj.mapSeq λ_=>#[Value.int (val 0) t,Value.int (val 0) t])) st λb hb o q=>by
   refine (aL _ _ (λe:S=b=>?_)).trans q
   subst e
   rcases List.mem_cons.mp hb with e | e
   ·exact hSI e
   ·exact hSl (List.mem_singleton.mp e)
  refine oJ ⟨plainId_quiet bI _,Uj hh hlI hSI hSl xs val hv d _ 1 (val 0) t _ _ rfl (by lia) (λi hi=>?_) st'.1 st'.2 (get?_update_seq hS' _) λz' t' h'' tk'' a1 a2=>?_⟩
  ·have:i=0:=by lia
   rw[this]
   exact fk _
  ·exact h _ h'' tk'' (λq=>absurd q hz) (λ_=>⟨z',t',rfl,a1⟩) λb o q=>a2 b o (hSb b o q).1 (hSb b o q).2 ((aL _ _ (Ne.symm (hSb b o q).2)).trans (kp b o (by simpa using (hSb b o q).1) (kp1 b o q)))
end
section
variable{X:Cx}{id:String}{x:oW}{e:oZ}{es:List oZ}{kws:List sy}{ks:List oW}{p pos:pS}{t tk:TA}
def Q4(X:Cx)(id:String)(ks:List oW)(r:List V->List V->Hp->VK->Prop):Prop :=
 ∀(sJ:List (oP × pD)) (s:oR) (σ:L2.St) (H:Hp) (vs zs:List V) (us ws:List oQ) (Q:VK),Inv X sJ σ H s->Vals vs us->Vals zs ws->r vs zs H Q->oS (model X.prog X.w) X.A (call (.builtin id) us (ks.zip ws)) (EP X sJ σ Q) X.xe s
def zcV(r:List V->List V->Hp->VK->Prop)(t tk:TA):TE:=λσ H Q=>t σ H λvs H1=>tk σ H1 λzs H2=>r vs zs H2 Q
theorem Uk{r:List V->List V->Hp->VK->Prop}(hc:Q4 X id ks r)(hg:Gl X x)(hm:X.mg x=sG)(hv:pF x=sF (.builtin id))(ha:PA X (e::es) t)(hk:PK X kws tk)(hks:(pG pos (pf kws X.env)).filterMap (·.1)=ks:=by rfl)(hn:x≠"__name__":=by decide)(hdb:(x == ("__debug__" : oW))=sI:=by decide)
  (he:pj pos (oM (e::es) X.env)=(sI,eval e X.env)::pj pos (oM es X.env):=by rfl) (hpl:(pj pos (oM (e::es) X.env)).any (·.1)=sI:=by rfl)
  (hall:(pG pos (pf kws X.env)).all (·.1.isSome)=sH:=by rfl) (hkw:(pG pos (pf kws X.env)).any (·.1.isNone)=sI:=by rfl):PE X (.Call (.Name x p) (e::es) kws pos) (zcV r t tk):=by
 intro sJ s σ H Q I h
 refine pz (vj I hg hm hv ?_ hn hdb)
 refine callWith_kw (thn (ha pos sJ s σ H _ I h) λus s1 ⟨vs,H1,I1,r1,q1⟩=>thn (hk pos sJ s1 σ H1 _ I1 q1) λws s2 ⟨zs,H2,I2,r2,q2⟩=>?_) he hpl hall hkw
 rw[hks]
 exact hc sJ s2 σ H2 vs zs us ws Q I2 r1 r2 q2
def zbH(K:oO):List V->List V->Hp->VK->Prop:=λvs zs H Q=>∃(a:oP) (ns:List Int) (d:Int),vs=[.ref a]/\zs=[.int d]/\SqL K H a (ns.map V.int)/\∀z:Int,(ns=[]->z=d)->(∀n ∈ ns,n<=z)->Q (.int z) H
theorem zba(hc:X.calm=sH):Q4 X "max" [bG "default"] (zbH X.K):=by
 intro sJ s σ H vs zs us ws Q I r1 r2 h
 obtain⟨a,ns,d,rfl,rfl,hS,q⟩:=h
 obtain⟨u,rfl,ru⟩:=wP r1
 cases ru
 obtain⟨w',rfl,td,rfl⟩:=wP r2
 obtain⟨its,rv,pl,hz⟩:=I.list hS
 have hlen:=rv.length
 rw[ae] at hlen
 have hat:∀(i:Nat) (v:oQ),its.toArray[i]? = sF v->∃t,v=Value.int (ns.getD i 0) t:=λi v hi=>by
  have hi':its[i]? = sF v:=by simpa using hi
  have hil:=(List.getElem?_eq_some_iff.mp hi').1
  obtain⟨u,hu,t,rfl⟩:=xX rv (j:=i) (x:=.int (ns.getD i 0)) (by rw[aG,ac,al (by lia)];rfl)
  rw[hi'] at hu
  cases hu
  exact⟨t,rfl⟩
 refine VS (I.ok.hd hc) its.toArray (λi=>ns.getD i 0) hat pl.isList (.int d td) λv h' tk h0 h1 kp=>?_
 by_cases hn:ns=[]
 ·have:=h0 (by rw[ao,<- hlen,hn];rfl)
  subst this
  exact⟨.int d,H,I.kept kp,⟨_,rfl⟩,q d (λ_=>rfl) (λn hm=>by rw[hn] at hm;cases hm)⟩
 ·obtain⟨z,t,rfl,hzz⟩:=h1 (by rw[ao,<- hlen];exact List.length_pos_iff.mpr hn)
  refine⟨.int z,H,I.kept kp,⟨_,rfl⟩,q z (λe=>absurd e hn) λn hm=>?_⟩
  obtain⟨i,hi,rfl⟩:=List.getElem_of_mem hm
  have:=hzz i (by rw[ao,<- hlen];exact hi)
  rw[ac,al hi] at this
  exact this
end
end L3
namespace L3
section
variable{prog:oV}{w:oX}{A:oY}{R:rR->oR->Prop}{I l S:oP}
end
section
variable{X:Cx}
end
end L3
namespace L3
end L3
namespace L3
section
variable{X:Cx}
theorem jF{cn:oW}{np hpos:pS}{b0:pc}{suite:List pc}{hs:List rX}{D:oP}{th:TS}(hg:Gl X cn)(hm:X.mg cn=sF (.ref D))(hdb:(cn == ("__debug__" : oW))=sI)(xc:Z5 X.K D=sH)(hsu:∀e,PSs (Cx.suite X e) (b0::suite) th)
  {sJ:List (oP × pD)} {s:oR} {σ:St} {H:Hp} {Dd:vk} {x C T:oP} {dx:Option oP} (I:Inv X sJ σ H s) (hob:∃t cx kx,s.heap.get? x=sF (xog C dx t (.ref T) cx kx)) (hoT:∃oT ts,s.heap.get? T=sF oT/\oT.data=.fields ts/\3<ts.size) (fT:xW X sJ H T)
  (hb:cJ X.K (.ref C) (.ref D)=sF sH) (q:th Dd σ H):oS (model X.prog X.w) X.A (handleBy (.ref x) X.env (.ExceptHandler (sF (.Name cn np)) sG (b0::suite) hpos::hs)) (SP X sJ Dd) X.xe s:=by
 obtain⟨t,cx,kx,ob⟩:=hob
 obtain⟨oT,ts,eT,dT,zT⟩:=hoT
 have I':=Inv.suite I (.ref x)
 refine wpAny_handleBy_cons (codeAny_handlers_test (vt (X:=Cx.suite X (.ref x)) I' hg hm (zbc I.kIn xc ob hb ?_) hdb)) (by intro q;cases q)
 refine codeAny_handlers_suite ?_
 unfold setFlight
 refine oH (pi ob rfl (x:=.ref T) rfl ?_)
 rw[if_pos (show (Value.ref T != Value.none)=sH from by simp)]
 refine pP eT dT zT ?_
 obtain⟨f0,f1,f2,f3,f4,f5⟩:=fT
 have I2:Inv X sJ σ H { s with heap:=s.heap.update T (Obj.mapFields (·.setIfInBounds 3 ((sG:Option oP).elim Value.none λf=>rawInt f))) } :=
  I.turned (t':=s.toks) (λb o hb e=>(aL _ _ (Ne.symm hb)).trans e) f0 f1 f3 f4 f5
 refine pC (thn (hsu _ sJ _ σ H _ (Inv.suite I2 (.ref x)) q) λfl s4 q4=>?_)
 cases fl with
 | next =>
  obtain⟨σ4,H4,I4,n4⟩:=q4
  exact⟨_,_,Inv.unsuite I I4,n4⟩
 | brk =>
  obtain⟨σ4,H4,I4,n4⟩:=q4
  exact⟨_,_,Inv.unsuite I I4,n4⟩
 | cont =>
  obtain⟨σ4,H4,I4,n4⟩:=q4
  exact⟨_,_,Inv.unsuite I I4,n4⟩
 | ret v =>
  obtain⟨y,σ4,H4,I4,r4,n4⟩:=q4
  exact⟨y,_,_,Inv.unsuite I I4,r4,n4⟩
end
end L3
namespace L3
section
variable{X:Cx}
def Js(K:oO)(i:Nat)(D:oP)(te:TX)(th:TS):TS:=λDd σ H=>te σ H (λv H1=>Dd.nx (σ.set i (sF v)) H1) λcls dx H1=>∃C,cls=.ref C/\cJ K (.ref C) (.ref D)=sF sH/\∀x,H1 x=sG->th Dd σ (upd H1 x (XT x C dx))
theorem U5{i:Nat}{y:oW}{yp apos pos np hpos:pS}{e:oZ}{te:TX}{cn:oW}{b0:pc}{suite:List pc}{hs:List rX}{D:oP}{th:TS}
  (hN:X.N.Nodup) (hy:X.N[i]? = sF y) (hly:Loc X.env.scope y) (hf:X.fn y=sH\/X.env.scope.names.lookup y=sF .local) (hst:X.stack=X.env::X.outer/\X.env.frame=sF X.env.locals) (he:PEX X e te) (hg:Gl X cn) (hm:X.mg cn=sF (.ref D)) (xc:Z5 X.K D=sH) (hsu:∀e,PSs (Cx.suite X e) (b0::suite) th) (hdb:(cn == ("__debug__" : oW))=sI:=by decide) (hsw:swapsWith e (sF (.Name y yp)) apos.line X.env=pure sI:=by rfl) :
  PS X (.Try [.Assign [.Name y yp] e apos] (.ExceptHandler (sF (.Name cn np)) sG (b0::suite) hpos::hs) [] [] pos) (Js X.K i D te th):=by
 intro sJ s σ H D I hq
 refine sv (pW (sj (pT (he sJ s σ H _ _ I hq) (λv s1 ⟨z,H1,I1,r1,q1⟩=>?_) λe s1 fl=>?_) hsw))
 ·exact kA I1 hN hy hly r1 (λs2 I2=>pR (pR ⟨_,H1,I2,q1⟩)) hf
 ·obtain⟨cx,kx,H1,x,C,t,dx,tb,rfl,I1,ob,tr,fx,fT,C',ec,hsb,q1⟩:=fl
  cases ec
  have fr:X.A.frames=sF (X.env::X.outer):=by rw[<- hst.1];exact I1.ok.frames
  have ff:s1.heap.FunFrames X.base (X.env::X.outer):=by rw[<- hst.1];exact I1.stack
  refine kQ fr ff hst.2 hst.2 ob tr λh' T oT ts e1 nT oldT e2 d2 z2 k1 k2=>?_
  have fT':xW X sJ H1 T:=by
   rcases oldT with z | z
   ·exact fT T z
   ·exact I1.fpOk z (I1.hok.fresh z)
  have tbs:∀b,tb=.ref b->H1 b=sG:=λb hb=>(fT b hb).1
  have nch:∀b o,s1.heap.get? b=sF o->b ∉ (x::T::tbL tb)->b≠x/\tb≠.ref b:=λb o _ hb=>by
   refine⟨λz=>hb (by simp [z]),λz=>hb ?_⟩
   rw[z]
   simp [tbL]
  have un:Un (frs X.stack) (x::T::tbL tb) H1 H1 s1.heap h':=by
   rw[hst.1]
   refine⟨λb o e n hb hc=>?_,λb o e n hb hc=>?_,λb o e n _=>n,λb o e hc=>?_,λb xs e=>e,λb o u e=>e,λb ps e=>⟨#[],by rw[e];simp⟩⟩
   ·obtain⟨a1,a2⟩:=nch b o e hc
    exact k1 b o a1 a2 hb e
   ·obtain⟨a1,a2⟩:=nch b o e hc
    exact k2 b o a1 a2 e
   ·obtain⟨a1,a2⟩:=nch b o e hc
    obtain⟨sl,q⟩:=k2 b o a1 a2 e
    exact⟨_,q⟩
  have hok:HOk X.prog X.w H1 h':=λb u e=>by
   refine (I1.hok b u e).stay (λc v hc q=>k1 c v ?_ ?_ ?_ q) (λ_ q=>q) λ_ _ q=>q
   ·rintro rfl
    rcases hc with rfl | hc
    ·rw[fx.1] at e;cases e
    ·rw[fx.1] at hc;cases hc
   ·intro z
    have:=tbs c z
    rcases hc with rfl | hc
    ·rw[this] at e;cases e
    ·rw[this] at hc;cases hc
   ·intro z
    rw[<- hst.1] at z
    have:=I1.stkFree c z
    rcases hc with rfl | hc
    ·rw[this] at e;cases e
    ·rw[this] at hc;cases hc
  have I2:Inv X sJ σ H1 { s1 with heap:=h' }:=I1.call' (s':={ s1 with heap:=h' }) rfl un hok I1.bare λb hb=>by
   have fb:xW X sJ H1 b:=by
    rcases List.mem_cons.mp hb with z | z
    ·rw[z];exact fx
    ·rcases List.mem_cons.mp z with z | z
     ·rw[z];exact fT'
     ·cases tb with
      | ref b' =>
       have:b=b':=by simpa [tbL] using z
       rw[this];exact fT b' rfl
      | _=>simp [tbL] at z
   obtain⟨_,a1,_,a3,a4,a5⟩:=fb
   exact⟨a3,a1,a4,a5⟩
  have I3:Inv X sJ σ (upd H1 x (XT x C dx)) { s1 with heap:=h' }:=Inv.track I2 fx (zak e1)
  exact jF hg hm hdb xc hsu I3 ⟨t,_,_,e1⟩ ⟨oT,ts,e2,d2,z2⟩ ⟨by rw[zo nT];exact fT'.1,fT'.2⟩ hsb (q1 x fx.1)
end
end L3
namespace L3
section
variable{X:Cx}
def QV(K:oO)(D:oP)(te:TX)(th:TS):TS:=λDd σ H=>te σ H (λz H1=>Dd.rt z H1) λcls dx H1=>∃C,cls=.ref C/\cJ K (.ref C) (.ref D)=sF sH/\∀x,H1 x=sG->th Dd σ (upd H1 x (XT x C dx))
theorem QC{apos pos np hpos:pS}{e:oZ}{te:TX}{cn:oW}{b0:pc}{suite:List pc}{hs:List rX}{D:oP}{th:TS}
  (hst:X.stack=X.env::X.outer/\X.env.frame=sF X.env.locals) (he:PEX X e te) (hg:Gl X cn) (hm:X.mg cn=sF (.ref D)) (xc:Z5 X.K D=sH) (hsu:∀e,PSs (Cx.suite X e) (b0::suite) th) (hdb:(cn == ("__debug__" : oW))=sI:=by decide) :
  PS X (.Try [.Return (sF e) apos] (.ExceptHandler (sF (.Name cn np)) sG (b0::suite) hpos::hs) [] [] pos) (QV X.K D te th):=by
 intro sJ s σ H D I hq
 refine sv (pW (si (pT (he sJ s σ H _ _ I hq) (λv s1 ⟨z,H1,I1,r1,q1⟩=>?_) λe s1 fl=>?_)))
 ·exact⟨z,σ,H1,I1,r1,q1⟩
 ·obtain⟨cx,kx,H1,x,C,t,dx,tb,rfl,I1,ob,tr,fx,fT,C',ec,hsb,q1⟩:=fl
  cases ec
  have fr:X.A.frames=sF (X.env::X.outer):=by rw[<- hst.1];exact I1.ok.frames
  have ff:s1.heap.FunFrames X.base (X.env::X.outer):=by rw[<- hst.1];exact I1.stack
  refine kQ fr ff hst.2 hst.2 ob tr λh' T oT ts e1 nT oldT e2 d2 z2 k1 k2=>?_
  have fT':xW X sJ H1 T:=by
   rcases oldT with z | z
   ·exact fT T z
   ·exact I1.fpOk z (I1.hok.fresh z)
  have tbs:∀b,tb=.ref b->H1 b=sG:=λb hb=>(fT b hb).1
  have nch:∀b o,s1.heap.get? b=sF o->b ∉ (x::T::tbL tb)->b≠x/\tb≠.ref b:=λb o _ hb=>by
   refine⟨λz=>hb (by simp [z]),λz=>hb ?_⟩
   rw[z]
   simp [tbL]
  have un:Un (frs X.stack) (x::T::tbL tb) H1 H1 s1.heap h':=by
   rw[hst.1]
   refine⟨λb o e n hb hc=>?_,λb o e n hb hc=>?_,λb o e n _=>n,λb o e hc=>?_,λb xs e=>e,λb o u e=>e,λb ps e=>⟨#[],by rw[e];simp⟩⟩
   ·obtain⟨a1,a2⟩:=nch b o e hc
    exact k1 b o a1 a2 hb e
   ·obtain⟨a1,a2⟩:=nch b o e hc
    exact k2 b o a1 a2 e
   ·obtain⟨a1,a2⟩:=nch b o e hc
    obtain⟨sl,q⟩:=k2 b o a1 a2 e
    exact⟨_,q⟩
  have hok:HOk X.prog X.w H1 h':=λb u e=>by
   refine (I1.hok b u e).stay (λc v hc q=>k1 c v ?_ ?_ ?_ q) (λ_ q=>q) λ_ _ q=>q
   ·rintro rfl
    rcases hc with rfl | hc
    ·rw[fx.1] at e;cases e
    ·rw[fx.1] at hc;cases hc
   ·intro z
    have:=tbs c z
    rcases hc with rfl | hc
    ·rw[this] at e;cases e
    ·rw[this] at hc;cases hc
   ·intro z
    rw[<- hst.1] at z
    have:=I1.stkFree c z
    rcases hc with rfl | hc
    ·rw[this] at e;cases e
    ·rw[this] at hc;cases hc
  have I2:Inv X sJ σ H1 { s1 with heap:=h' }:=I1.call' (s':={ s1 with heap:=h' }) rfl un hok I1.bare λb hb=>by
   have fb:xW X sJ H1 b:=by
    rcases List.mem_cons.mp hb with z | z
    ·rw[z];exact fx
    ·rcases List.mem_cons.mp z with z | z
     ·rw[z];exact fT'
     ·cases tb with
      | ref b' =>
       have:b=b':=by simpa [tbL] using z
       rw[this];exact fT b' rfl
      | _=>simp [tbL] at z
   obtain⟨_,a1,_,a3,a4,a5⟩:=fb
   exact⟨a3,a1,a4,a5⟩
  have I3:Inv X sJ σ (upd H1 x (XT x C dx)) { s1 with heap:=h' }:=Inv.track I2 fx (zak e1)
  exact jF hg hm hdb xc hsu I3 ⟨t,_,_,e1⟩ ⟨oT,ts,e2,d2,z2⟩ ⟨by rw[zo nT];exact fT'.1,fT'.2⟩ hsb (q1 x fx.1)
end
end L3
namespace L3
section
variable{X:Cx}
theorem VB(bs:List Bool):(aY bs.length).any (λi=>bs.getD i sI)=bs.any id:=by
 induction bs with
 | nil=>rfl
 | cons b bs ih =>
  rw[aM,eK,List.any_cons,List.any_map,List.any_cons,<- ih]
  rfl
def zdl(K:oO):List V->Hp->VK->Prop:=λxs H Q=>∃(p:oP) (bs:List Bool),xs=[.ref p]/\SqL K H p (bs.map V.bl)/\Q (.bl (bs.any id)) H
theorem zb9(hc:X.calm=sH):vP X (.builtin "any") (zdl X.K):=by
 intro sJ s σ H xs us Q I r h
 obtain⟨p,bs,rfl,hS,q⟩:=h
 obtain⟨u,rfl,ru⟩:=wP r
 cases ru
 obtain⟨its,rv,pl,hz⟩:=I.list hS
 have hlen:its.length=bs.length:=by
  have:=rv.length
  rw[ae] at this
  exact this.symm
 have hh:X.A.in1.handled=sG:=I.ok.hd hc
 have hne:p≠s.heap.objs.size:=by
  obtain⟨o,n,e,_⟩:=pl
  exact aE (ay e)
 obtain⟨f0,f1,f2,f3,f4,f5⟩:=I.fpOk (H':=H) (au _) (I.hok.fresh (au _))
 have I1:=I.kept (t':=s.toks) (h':=s.heap.push { cls:=.type "list_iterator",data:=.fields #[.ref p,.int 0 0] }) λb o e=>aa _ e
 refine call_any_walk (rA pl.isList ?_)
 refine⟨s.heap.objs.size,_,_,_,_,_,λi=>bs.getD i sI,rfl,Walks.list hh s.heap.objs.size p hne its.toArray,⟨⟨_,aI _ rfl,rfl,rfl⟩,?_⟩,?_,?_⟩
 ·obtain⟨o,n,e,c,d,dt⟩:=pl
  exact⟨o,aa _ e,c,n,dt⟩
 ·intro i v s' Q' E' hv hq
  have:=YL rv (i:=i) (v:=v) (by simpa using hv)
  rw[this]
  exact pB hq
 ·intro h' tk hk
  have e:(aY its.toArray.size).any (λi=>bs.getD i sI)=bs.any id:=by
   rw[ao,hlen,VB]
  rw[e]
  refine⟨.bl _,H,?_,rfl,q⟩
  exact I1.turned (t':=tk) (it:=s.heap.objs.size) (λb o hb q=>hk b o (by simpa using hb) q) f0 f1 f3 f4 f5
end
end L3
namespace L3
def CompEL(K:oO)(a:oP)(g:TG)(tt:TT)(te:TE)(own:Nat)(ix:List Nat)(σ:L2.St)(H1:Hp)(Q:VK)(D:oP):Prop:=XR (Iel K a) g tt te own ix σ H1 Q D
theorem za5{K:oO}{ta:TA}{g:TG}{tt:TT}{te:TE}{own:Nat}{ix:List Nat}{σ:L2.St}{H:Hp}{Q:VK}:kB (Vo K ta) g tt te own ix σ H Q=ta σ H λvs H1=>∃a,vs=[.ref a]/\(∃xs,SqL K H1 a xs)/\∀D,H1 D=sG->CompEL K a g tt te own ix σ H1 Q D:=rfl
section
variable{g:TG}{tt:TT}{te:TE}{own:Nat}{ix:List Nat}{σ:L2.St}{H1:Hp}{Q:VK}{D:oP}
theorem CompEL.by{K:oO}{a:oP}{xs:List V}(Pv:Nat->List V->Hp->Prop)(h0:Pv 0 [] (upd H1 D (.lst [])))(hl:∀i sL H',i<=xs.length->Pv i sL H'->SqL K H' a xs)
  (hs:∀i x sL H' p,xs[i]? = sF x->Pv i sL H'->H' p=sG->g (.ref p) (vo σ own ix) (upd H' p (.tup [.int (i:Nat),x])) λσ3 H3=>xt (vo σ own ix) σ3/\tt σ3 H3 λb H4=>if b=sH then
   te σ3 H4 λv H5=>H5 D=sF (.lst sL)/\sL.length<oN/\CNx xs.length i Pv (sL ++ [v]) (upd H5 D (.lst (sL ++ [v]))) else CNx xs.length i Pv sL H4)
  (hd:∀sL H',Pv xs.length sL H'->Q (.ref D) H'):CompEL K a g tt te own ix σ H1 Q D:=by
 refine⟨λi m sL H=>m=xs.length - i/\i<=xs.length/\Pv i sL H,⟨xs.length,by simp,aJ _,h0⟩,?_⟩
 rintro i m sL H' ⟨rfl,hi,p⟩
 have q:=hl i sL H' hi p
 by_cases hlt:i<xs.length
 ·refine .inr ⟨⟨xs,xs[i],q,by simp [hlt]⟩,λv H2 y=>?_⟩
  obtain⟨p',x,hp,hx,ev,eH⟩:=y
  subst ev eH
  exact hs i x sL H' p' (hx xs q) p hp
 ·have e:i=xs.length:=by lia
  subst e
  exact .inl ⟨⟨xs,q,rfl⟩,hd sL H' p⟩
end
end L3
namespace L3
section
variable{X:Cx}
end
end L3
namespace L3
open PySem PySem.W PyProof.Rows
noncomputable def zbJ(lt:Nat->Nat->Bool){α:Type}:KasT α->α
 | .ret a=>a
 | .ask i j k=>zbJ lt (k (lt i j))
def Kok(lt:Nat->Nat->Bool)(n:Nat){α:Type}:KasT α->(α->Prop)->Prop
 | .ret a,Q=>Q a
 | .ask i j k,Q=>i<n/\j<n/\Kok lt n (k (lt i j)) Q
section
variable{lt:Nat->Nat->Bool}{n:Nat}{α β:Type}
theorem Kok.mono{Q Q':α->Prop}(hq:∀a,Q a->Q' a):∀(t:KasT α),Kok lt n t Q->Kok lt n t Q'
 | .ret a,h=>hq a h
 | .ask _ _ k,h=>⟨h.1,h.2.1,Kok.mono hq (k _) h.2.2⟩
theorem Kok.bind{f:α->KasT β}{Q:β->Prop}:∀(t:KasT α),Kok lt n t (λa=>Kok lt n (f a) Q)->Kok lt n (t.bind f) Q
 | .ret _,h=>h
 | .ask _ _ k,h=>⟨h.1,h.2.1,Kok.bind (k _) h.2.2⟩
theorem Kok.run{Q:α->Prop}:∀(t:KasT α),Kok lt n t Q->Q (zbJ lt t)
 | .ret _,h=>h
 | .ask _ _ k,h=>Kok.run (k _) h.2.2
theorem Kok.wp{cmp:Nat->Nat->(Bool->oR->Prop)->oR->Prop}{I:oR->Prop}(hc:∀i j C s,i<n->j<n->I s->(∀s',I s'->C (lt i j) s')->cmp i j C s){Q:α->Prop}{R:α->oR->Prop}
  (hR:∀a s,Q a->I s->R a s):∀(t:KasT α) (s:oR),I s->Kok lt n t Q->t.kasWp cmp R s
 | .ret a,s,hI,h=>hR a s h hI
 | .ask i j k,s,hI,h=>hc i j _ s h.1 h.2.1 hI λs' hI'=>Kok.wp hc hR (k _) s' hI' h.2.2
end
structure Wk(lt:Nat->Nat->Bool):Prop where
 asym:∀a b,lt a b=sH->lt b a=sI
 ntr:∀a b c,lt b a=sI->lt c b=sI->lt c a=sI
section
variable{lt:Nat->Nat->Bool}{n:Nat}
abbrev Lq(lt:Nat->Nat->Bool)(a b:Nat):Prop:=lt b a=sI
theorem Wk.refl(W:Wk lt)(a:Nat):Lq lt a a:=by
 cases h:lt a a with
 | false=>exact h
 | true=>exact absurd h (by rw[W.asym a a h];decide)
noncomputable abbrev pg(p:Array Nat)(i:Nat):Nat:=p.getD i 0
theorem X2(p:Array Nat)(i:Nat):pg p i=(p[i]?).getD 0:=by simp [pg,Array.getD_eq_getD_getElem?]
def Up(lt:Nat->Nat->Bool)(p:Array Nat)(m:Nat):Prop:=∀i j,i<j->j<m->Lq lt (pg p i) (pg p j)
def Dn(lt:Nat->Nat->Bool)(p:Array Nat)(m:Nat):Prop:=∀i j,i<j->j<m->Lq lt (pg p j) (pg p i)
def Rg(n:Nat)(p:Array Nat):Prop:=p.toList.Perm (aY n)
theorem Rg.size{p:Array Nat}(h:Rg n p):p.size=n:=by have:=h.length_eq;simpa using this
theorem Rg.bd{p:Array Nat}(h:Rg n p){i:Nat}(hi:i<n):pg p i<n:=by
 have hs:=h.size
 have hi':i<p.size:=by lia
 have e:pg p i=p[i]:=by simp [pg,eU,hi']
 rw[e]
 have hm:p[i] ∈ p.toList:=Array.mem_toList_iff.mpr (Array.getElem_mem hi')
 exact List.mem_range.mp (h.mem_iff.mp hm)
theorem vp{p:Array Nat}{i j:Nat}(hj:j<=p.size)(k:Nat):pg (kas_rev p i j) k=if i<=k/\k<j then pg p (i+j - 1 - k) else pg p k:=by
 rw[X2,kas_rev,getElem?_mirror_all hj]
 split <;> rw[X2]
theorem Rg.rev{p:Array Nat}(h:Rg n p)(i j:Nat):Rg n (kas_rev p i j):=(Array.perm_iff_toList_perm.mp (mirror_perm p i j _)).trans h
theorem Rg.bub{p:Array Nat}(h:Rg n p)(i j:Nat):Rg n (bubble p i j):=(Array.perm_iff_toList_perm.mp (bubble_perm p i j)).trans h
theorem Uo(W:Wk lt){p:Array Nat}(hp:Rg n p):∀(f k:Nat),1<=k->k+f<=n->Up lt p k->Kok lt n (kas_asc p f k) (λm=>k<=m/\m<=k+f/\Up lt p m/\(m=k+f\/lt (pg p m) (pg p (m - 1))=sH))
 | 0,k,h1,h2,hu=>⟨by lia,by lia,hu,Or.inl (by lia)⟩
 | f+1,k,h1,h2,hu=>by
  refine⟨hp.bd (by lia),hp.bd (by lia),?_⟩
  rcases ce (lt (pg p k) (pg p (k - 1))) with hc | hc
  ·show Kok lt n (if lt (pg p k) (pg p (k - 1))=sH then .ret k else _) _
   rw[if_pos hc]
   exact⟨by lia,by lia,hu,Or.inr hc⟩
  ·show Kok lt n (if lt (pg p k) (pg p (k - 1))=sH then .ret k else _) _
   rw[if_neg (by rw[hc];decide)]
   refine (Uo W hp f (k+1) (by lia) (by lia) λi j hij hj=>?_).mono (λm hm=>⟨by lia,by lia,hm.2.2.1,?_⟩) _
   ·by_cases e:j=k
    ·subst e
     by_cases e2:i=j - 1
     ·subst e2;exact hc
     ·exact W.ntr _ _ _ (hu i (j - 1) (by lia) (by lia)) hc
    ·exact hu i j hij (by lia)
   ·rcases hm.2.2.2 with h | h
    ·exact Or.inl (by lia)
    ·exact Or.inr h
def Ev(lt:Nat->Nat->Bool)(p:Array Nat)(a b:Nat):Prop:=∀i j,a<=i->i<b->a<=j->j<b->Lq lt (pg p i) (pg p j)
theorem Jj{p:Array Nat}{m q:Nat}(hm:m<=p.size)(hq:q+1<=m)(hd:Dn lt p m)(he:Ev lt p (m - (q+1)) m):Dn lt (kas_rev p (m - (q+1)) m) m:=by
 intro i j hij hj
 rw[vp hm,vp hm]
 by_cases h1:m - (q+1)<=i
 ·rw[if_pos (show m - (q+1)<=i/\i<m by lia),if_pos (show m - (q+1)<=j/\j<m by lia)]
  exact he _ _ (by lia) (by lia) (by lia) (by lia)
 ·rw[if_neg (show ¬ (m - (q+1)<=i/\i<m) by lia)]
  split
  ·exact hd _ _ (by lia) (by lia)
  ·exact hd _ _ (by lia) (by lia)
theorem kd(W:Wk lt):∀(f:Nat) (p:Array Nat) (k q:Nat),Rg n p->1<=k->k+f<=n->q+1<=k->Dn lt p k->Ev lt p (k - (q+1)) k ->
  Kok lt n (kas_desc f p k q) (λr=>Rg n r.1/\k<=r.2.1/\r.2.1<=k+f/\r.2.2+1<=r.2.1/\Dn lt r.1 r.2.1/\Ev lt r.1 (r.2.1 - (r.2.2+1)) r.2.1)
 | 0,p,k,q,hp,h1,h2,hq,hd,he=>⟨hp,au _,cj _ _,hq,hd,he⟩
 | f+1,p,k,q,hp,h1,h2,hq,hd,he=>by
  have hps:=hp.size
  refine⟨hp.bd (by lia),hp.bd (by lia),?_⟩
  have one:∀(p:Array Nat),Ev lt p (k+1 - (0+1)) (k+1):=λp i j a b c d=>by
   have:i=j:=by lia
   subst this
   exact W.refl _
  rcases ce (lt (pg p k) (pg p (k - 1))) with hc | hc
  ·show Kok lt n (if lt (pg p k) (pg p (k - 1))=sH then _ else _) _
   rw[if_pos hc]
   have hle:Lq lt (pg p k) (pg p (k - 1)):=W.asym _ _ hc
   split
   ·rename_i hq0
    refine (kd W f _ (k+1) 0 (hp.rev _ _) (by lia) (by lia) (by lia) (λi j hij hj=>?_) (one _)).mono (λr hr=>⟨hr.1,by lia,by lia,hr.2.2.2⟩) _
    by_cases e:j=k
    ·subst e
     rw[vp (by lia),vp (by lia),if_neg (by lia)]
     split
     ·exact W.ntr _ _ _ hle (he _ _ (by lia) (by lia) (by lia) (by lia))
     ·exact W.ntr _ _ _ hle (hd _ _ (by lia) (by lia))
    ·exact Jj (by lia) hq hd he i j hij (by lia)
   ·refine (kd W f _ (k+1) 0 hp (by lia) (by lia) (by lia) (λi j hij hj=>?_) (one _)).mono (λr hr=>⟨hr.1,by lia,by lia,hr.2.2.2⟩) _
    by_cases e:j=k
    ·subst e
     by_cases e2:i=j - 1
     ·subst e2;exact hle
     ·exact W.ntr _ _ _ hle (hd i (j - 1) (by lia) (by lia))
    ·exact hd i j hij (by lia)
  ·show Kok lt n (if lt (pg p k) (pg p (k - 1))=sH then _ else _) _
   rw[if_neg (by rw[hc];decide)]
   refine⟨hp.bd (by lia),hp.bd (by lia),?_⟩
   rcases ce (lt (pg p (k - 1)) (pg p k)) with hd2 | hd2
   ·show Kok lt n (if lt (pg p (k - 1)) (pg p k)=sH then _ else _) _
    rw[if_pos hd2]
    exact⟨hp,au _,cj _ _,hq,hd,he⟩
   ·show Kok lt n (if lt (pg p (k - 1)) (pg p k)=sH then _ else _) _
    rw[if_neg (by rw[hd2];decide)]
    refine (kd W f _ (k+1) (q+1) hp (by lia) (by lia) (by lia) (λi j hij hj=>?_) (λi j a b c d=>?_)).mono (λr hr=>⟨hr.1,by lia,by lia,hr.2.2.2⟩) _
    ·by_cases e:j=k
     ·subst e
      by_cases e2:i=j - 1
      ·subst e2;exact hd2
      ·exact W.ntr _ _ _ hd2 (hd i (j - 1) (by lia) (by lia))
     ·exact hd i j hij (by lia)
    ·have b1:∀i,k+1 - (q+1+1)<=i->i<k->Lq lt (pg p i) (pg p (k - 1))/\Lq lt (pg p (k - 1)) (pg p i):=λi a b=>⟨he _ _ (by lia) (by lia) (by lia) (by lia),he _ _ (by lia) (by lia) (by lia) (by lia)⟩
     by_cases e:j=k
     ·subst e
      by_cases e3:i=j
      ·subst e3;exact W.refl _
      ·exact W.ntr _ _ _ (b1 i (by lia) (by lia)).1 hc
     ·by_cases e3:i=k
      ·subst e3
       exact W.ntr _ _ _ hd2 (b1 j (by lia) (by lia)).2
      ·exact he _ _ (by lia) (by lia) (by lia) (by lia)
theorem YK(W:Wk lt){p:Array Nat}{m:Nat}(hp:Rg n p)(h1:1<=m)(hm:m<=n)(hd:Dn lt p m):Kok lt n (kas_tail3 m n p) (λr=>Rg n r.2/\1<=r.1/\r.1<=n/\Up lt r.2 r.1):=by
 have hps:=hp.size
 unfold kas_tail3
 refine Kok.bind _ ((Uo W (hp.rev 0 m) (n - m) m h1 (by lia) λi j hij hj=>?_).mono (λk hk=>⟨hp.rev 0 m,by show 1<=k;lia,by show k<=n;lia,hk.2.2.1⟩) _)
 rw[vp (by lia),vp (by lia),if_pos (by lia),if_pos (by lia)]
 exact hd _ _ (by lia) (by lia)
theorem jd(W:Wk lt){p:Array Nat}{m:Nat}(hp:Rg n p)(h1:1<=m)(hm:m+1<=n)(hd:Dn lt p (m+1)):Kok lt n (kas_descPart m n p) (λr=>Rg n r.2/\1<=r.1/\r.1<=n/\Up lt r.2 r.1):=by
 unfold kas_descPart
 refine Kok.bind _ ((kd W (n - (m+1)) p (m+1) 0 hp (by lia) (by lia) (by lia) hd λi j a b c d=>?_).mono (λr hr=>?_) _)
 ·have:i=j:=by lia
  subst this
  exact W.refl _
 ·obtain⟨r1,r2,r3,r4,r5,r6⟩:=hr
  have hs:=r1.size
  (try dsimp only)
  split
  ·exact YK W (r1.rev _ _) (by lia) (by lia) (Jj (by lia) r4 r5 r6)
  ·exact YK W r1 (by lia) (by lia) r5
theorem U0(W:Wk lt){p:Array Nat}(hp:Rg n p)(hn:1<=n):Kok lt n (kas_count n p) (λr=>Rg n r.2/\1<=r.1/\r.1<=n/\Up lt r.2 r.1):=by
 have hps:=hp.size
 unfold kas_count
 refine Kok.bind _ ((Uo W hp (n - 1) 1 (au _) (by lia) λi j hij hj=>by lia).mono (λm hm=>?_) _)
 obtain⟨m1,m2,mu,ms⟩:=hm
 by_cases e:(m == n)=sH
 ·rw[if_pos e]
  exact⟨hp,by show 1<=m;lia,by show m<=n;lia,mu⟩
 ·rw[if_neg e]
  have hne:m≠n:=λh=>e (by rw[h];exact beq_self_eq_true _)
  have hlt:lt (pg p m) (pg p (m - 1))=sH:=by
   rcases ms with h | h
   ·lia
   ·exact h
  have hle:Lq lt (pg p m) (pg p (m - 1)):=W.asym _ _ hlt
  by_cases h1:m > 1
  ·rw[if_pos h1]
   refine⟨hp.bd (by lia),hp.bd (by lia),?_⟩
   rcases ce (lt (pg p 0) (pg p (m - 1))) with hc | hc
   ·show Kok lt n (if lt (pg p 0) (pg p (m - 1))=sH then _ else _) _
    rw[if_pos hc]
    exact⟨hp,by show 1<=m;lia,by show m<=n;lia,mu⟩
   ·show Kok lt n (if lt (pg p 0) (pg p (m - 1))=sH then _ else _) _
    rw[if_neg (by rw[hc];decide)]
    have u0:∀i,i<m->Lq lt (pg p 0) (pg p i):=λi hi=>by
     by_cases h:i=0
     ·subst h;exact W.refl _
     ·exact mu 0 i (by lia) hi
    have ul:∀i,i<m->Lq lt (pg p i) (pg p (m - 1)):=λi hi=>by
     by_cases h:i=m - 1
     ·subst h;exact W.refl _
     ·exact mu i (m - 1) (by lia) (by lia)
    have ev:∀i j,i<m->j<m->Lq lt (pg p i) (pg p j):=λi j hi hj=>W.ntr _ _ _ (ul i hi) (W.ntr _ _ _ hc (u0 j hj))
    refine jd W (hp.rev 0 m) (by lia) (by lia) λi j hij hj=>?_
    by_cases h:j=m
    ·subst h
     rw[vp (by lia),vp (by lia),if_neg (by lia),if_pos (by lia)]
     exact W.ntr _ _ _ hle (ev _ _ (by lia) (by lia))
    ·rw[vp (by lia),vp (by lia),if_pos (by lia),if_pos (by lia)]
     exact ev _ _ (by lia) (by lia)
  ·rw[if_neg h1]
   refine jd W hp (by lia) (by lia) λi j hij hj=>?_
   have h0:i=m - 1:=by lia
   have h1:j=m:=by lia
   subst h0 h1
   exact hle
theorem j7(W:Wk lt){p:Array Nat}(hp:Rg n p){k:Nat}(hk:k<n)(hu:Up lt p k):∀(f l r:Nat),l<=r->r<=k->r - l<=f->(∀i,i<l->Lq lt (pg p i) (pg p k))->(∀i,r<=i->i<k->Lq lt (pg p k) (pg p i)) ->
  Kok lt n (kas_place p k f l r) (λm=>m<=k/\(∀i,i<m->Lq lt (pg p i) (pg p k))/\(∀i,m<=i->i<k->Lq lt (pg p k) (pg p i)))
 | 0,l,r,hl,hr,hf,h1,h2=>by
  have:l=r:=by lia
  subst this
  exact⟨hr,h1,h2⟩
 | f+1,l,r,hl,hr,hf,h1,h2=>by
  unfold kas_place
  by_cases e:l ≥ r
  ·rw[if_pos e]
   have:l=r:=by lia
   subst this
   exact⟨hr,h1,h2⟩
  ·rw[if_neg e]
   refine⟨hp.bd hk,hp.bd (by lia),?_⟩
   rcases ce (lt (pg p k) (pg p ((l+r) / 2))) with hc | hc
   ·show Kok lt n (if lt (pg p k) (pg p ((l+r) / 2))=sH then _ else _) _
    rw[if_pos hc]
    refine j7 W hp hk hu f l ((l+r) / 2) (by lia) (by lia) (by lia) h1 λi hi hik=>?_
    by_cases e2:i=(l+r) / 2
    ·subst e2;exact W.asym _ _ hc
    ·exact W.ntr _ _ _ (W.asym _ _ hc) (hu _ _ (by lia) hik)
   ·show Kok lt n (if lt (pg p k) (pg p ((l+r) / 2))=sH then _ else _) _
    rw[if_neg (by rw[hc];decide)]
    refine j7 W hp hk hu f ((l+r) / 2+1) r (by lia) hr (by lia) (λi hi=>?_) h2
    by_cases e2:i=(l+r) / 2
    ·subst e2;exact hc
    ·exact W.ntr _ _ _ (hu i ((l+r) / 2) (by lia) (by lia)) hc
theorem Q1{p:Array Nat}{k l:Nat}(hk:k<p.size)(hl:l<=k)(i:Nat):pg (bubble p k (k - l)) i=if i=l then pg p k else if l<i/\i<=k then pg p (i - 1) else pg p i:=by
 have e:k - (k - l)=l:=by lia
 rw[X2,getElem?_bubble hk (k - l) (by lia),e]
 by_cases h:i=l
 ·rw[if_pos h,if_pos h];exact (X2 p k).symm
 ·rw[if_neg h,if_neg h]
  by_cases h':l<i/\i<=k
  ·rw[if_pos h',if_pos h'];exact (X2 p (i - 1)).symm
  ·rw[if_neg h',if_neg h'];exact (X2 p i).symm
theorem Jo(W:Wk lt):∀(f:Nat) (p:Array Nat) (k:Nat),Rg n p->k+f=n->Up lt p k->Kok lt n (kas_bin f p k) (λp'=>Rg n p'/\Up lt p' n)
 | 0,p,k,hp,hk,hu=>by
  have:k=n:=by lia
  subst this
  exact⟨hp,hu⟩
 | f+1,p,k,hp,hk,hu=>by
  have hps:=hp.size
  refine Kok.bind _ ((j7 W hp (by lia) hu k 0 k (by lia) (by lia) (by lia) (λi hi=>by lia) (λi h1 h2=>by lia)).mono (λl hl=>?_) _)
  obtain⟨l1,l2,l3⟩:=hl
  refine Jo W f _ (k+1) (hp.bub _ _) (by lia) λi j hij hj=>?_
  rw[Q1 (by lia) l1,Q1 (by lia) l1]
  by_cases h1:i=l
  ·rw[if_pos h1,if_neg (by lia),if_pos (by lia)]
   exact l3 _ (by lia) (by lia)
  ·rw[if_neg h1]
   by_cases h2:j=l
   ·rw[if_pos h2,if_neg (by lia)]
    exact l2 _ (by lia)
   ·rw[if_neg h2]
    by_cases h3:l<i/\i<=k
    ·rw[if_pos h3,if_pos (by lia)]
     exact hu _ _ (by lia) (by lia)
    ·rw[if_neg h3]
     by_cases h4:l<j/\j<=k
     ·rw[if_pos h4]
      by_cases h5:i=j - 1
      ·lia
      ·exact hu _ _ (by lia) (by lia)
     ·rw[if_neg h4]
      exact hu _ _ (by lia) (by lia)
theorem KZ(W:Wk lt)(hn:1<=n):Kok lt n (kas_sort n) (λp=>Rg n p/\Up lt p n):=by
 unfold kas_sort
 refine Kok.bind _ ((U0 W (p:=bh (aY n)) (by unfold Rg;exact List.Perm.refl _) hn).mono (λr hr=>?_) _)
 obtain⟨r1,r2,r3,r4⟩:=hr
 (try dsimp only)
 split
 ·have:max r.1 1=r.1:=by lia
  rw[this]
  exact Jo W _ _ _ r1 (by lia) r4
 ·have:r.1=n:=by lia
  rw[this] at r4
  exact⟨r1,r4⟩
end
noncomputable def srt{α:Type}(lt:α->α->Bool)(d:α)(xs:List α):List α :=
 if xs.length<2 then xs else (zbJ (λi j=>lt (xs.getD i d) (xs.getD j d)) (kas_sort xs.length)).toList.map λi=>xs.getD i d
structure WkO{α:Type}(lt:α->α->Bool):Prop where
 asym:∀a b,lt a b=sH->lt b a=sI
 ntr:∀a b c,lt b a=sI->lt c b=sI->lt c a=sI
end L3
namespace L3
structure KeyFam(α:Type) where
 dec:α->List D
 lt:α->α->Bool
 fst:Bool
 d0:α
structure KeyFam.Ok{α:Type}(F:KeyFam α):Prop where
 w:WkO F.lt
 eq:∀a b,vY (F.dec a) (F.dec b)=F.lt a b
 ok:∀a b,kL (F.dec a) (F.dec b)
 dp:∀a,uO (F.dec a)<40
 sh:∀a,∃d r,F.dec a=d::r/\((F.fst=sH/\∃n,d=.int n)\/(F.fst=sI/\∃l,d=.tup l))
section
variable{X:Cx}{sJ:List (oP × pD)}{σ:L2.St}{H:Hp}{s:oR}
theorem Inv.repin{b:oP}{o o':pD}{h':pb}(I:Inv X (sJ ++ [(b,o)]) σ H s)(hs:X.s₀.heap.objs.size<=b)(hn:∀p ∈ X.pn ++ sJ,p.1≠b)(sb:Heap.SameBut b s.heap h')(ho:h'.get? b=sF o')(hd:∀v,o'.data≠.cell v) :
  Inv X (sJ ++ [(b,o')]) σ H { s with heap:=h' }:=by
 have I1:Inv X sJ σ H s:=I.unpinned
 obtain⟨p1,p2,p3,p4,p5⟩:=I.pin (b,o) (aA _ (aA _ (List.mem_singleton.mpr rfl)))
 have I2:Inv X sJ σ H { s with heap:=h' }:=Inv.turns I1 (fp:=[b]) (t':=s.toks) (λb' u hb e=>(sb.2 b' (by simpa using hb)).trans e) λb' hb=>by
  have e:b'=b:=by simpa using hb
  subst e
  refine⟨p2,p3,p4,.inr hs,λx c e z=>?_,hn⟩
  obtain⟨v,o1,ho1,hd1⟩:=I.cell x c e
  subst z
  rw[p1] at ho1
  cases ho1
  exact p5 v hd1
 exact I2.pins_of λp hp=>by
  rcases List.mem_append.mp hp with z | z
  ·exact I2.pin p (aA _ z)
  ·have e:p=(b,o'):=by simpa using z
   subst e
   exact⟨ho,p2,p3,p4,hd⟩
theorem Inv.newpin{b:oP}{o:pD}(I:Inv X sJ σ H s)(hf:xW X sJ H b)(ho:s.heap.get? b=sF o)(hd:∀v,o.data≠.cell v):Inv X (sJ ++ [(b,o)]) σ H s :=
 I.pins_of λp hp=>by
  rcases List.mem_append.mp hp with z | z
  ·exact I.pin p (aA _ z)
  ·have e:p=(b,o):=by simpa using z
   subst e
   exact⟨ho,hf.1,hf.2.1,hf.2.2.1,hd⟩
theorem zaA(I:Inv X sJ σ H s){A:oY}{b:Bool}{Q:Bool->oR->Prop}(hu:A.units+50<cLine):∀(l m:List D) (xs ys:List V) (its its':List oQ) (i:Nat),Iss X.K H l xs->Iss X.K H m ys->Vals xs its->Vals ys its'->kL l m->uO l<40 ->
  (b=sH->i=0->(∃n r,l=.int n::r)/\∃n r,m=.int n::r)->Q (vY l m) s->PySem.W.KatLex X.prog X.w A b (decide (its.length<its'.length)) Q (its.zip its') i s
 | [],m,xs,ys,its,its',i,h1,h2,r1,r2,ok,hd,hb,q=>by
  simp only[Iss] at h1
  subst h1
  cases r1
  have e:vY [] m=decide (([]:List oQ).length<its'.length):=by
   have e1:=h2.len
   have e2:=r2.length
   have e3:m.length=its'.length:=by lia
   rw[<- e3]
   cases m with
   | nil=>simp [vY]
   | cons _ _=>simp [vY]
  rw[e] at q
  rw[List.zip_nil_left]
  exact fz q
 | d::l,[],xs,ys,its,its',i,h1,h2,r1,r2,ok,hd,hb,q=>by
  simp only[Iss] at h2
  subst h2
  cases r2
  simp only[vY] at q
  rw[List.zip_nil_right]
  exact fz (by simpa using q)
 | d::l,e::m,xs,ys,its,its',i,h1,h2,r1,r2,ok,hd,hb,q=>by
  simp only[Iss] at h1 h2
  obtain⟨x,xr,rfl,hx,hxr⟩:=h1
  obtain⟨y,yr,rfl,hy,hyr⟩:=h2
  cases r1 with | cons rx rxr =>
  cases r2 with | cons ry ryr =>
  simp only[kL] at ok
  simp only[uO] at hd
  rename_i u us v vs
  rw[dg]
  refine PySem.W.kat_cons (Zh I 45 A d e x y u v (by lia) (by lia) hx hy rx ry X.prog X.w _ _ ?_)
  cases he:eqD d e with
  | true =>
   refine PySem.W.kat_yes ?_
   have:=zaA I (b:=b) hu l m xr yr us vs (i+1) hxr hyr rxr ryr ok.2 (by lia) (λ_ z=>absurd z (by lia)) (by simpa only[vY,he,if_true] using q)
   simpa using this
  | false =>
   refine PySem.W.kat_no ?_
   have q':Q (ltD d e) s:=by simpa only[vY,he,bO,if_false] using q
   by_cases hbi:(b && i == 0)=sH
   ·rw[hbi]
    simp only[cE,beq_iff_eq] at hbi
    obtain⟨⟨n,r,e1⟩,n',r',e2⟩:=hb hbi.1 hbi.2
    cases e1;cases e2
    simp only[Is] at hx hy
    subst hx hy
    obtain⟨t,rfl⟩:=rx
    obtain⟨t',rfl⟩:=ry
    simp only[ltD] at q'
    exact oneLt_int q'
   ·rw[show (b && i == 0)=sI by simpa using hbi]
    exact PySem.W.kat_one _ _ (Q9 I 45 A d e x y u v (by lia) (by lia) ok.1 hx hy rx ry X.prog X.w _ _ q')
theorem Kn(I:Inv X sJ σ H s){A:oY}{b:Bool}{Q:Bool->oR->Prop}{E:oQ->oR->Prop}(hu:A.units+50<cLine){l m:List D}{x y:V}{u v:oQ}(hx:Is X.K H (.tup l) x)(hy:Is X.K H (.tup m) y)(rx:RelV x u)(ry:RelV y v)
  (ok:kL l m) (hd:uO l<40) (hb:b=sH->(∃n r,l=.int n::r)/\∃n r,m=.int n::r) (q:Q (vY l m) s):oS (model X.prog X.w) A (keyLt' (tuples' b) u v) Q E s:=by
 simp only[Is] at hx hy
 obtain⟨a,xs,rfl,h1,h2⟩:=hx
 obtain⟨c,ys,rfl,g1,g2⟩:=hy
 cases rx;cases ry
 obtain⟨its,r,⟨o,ho,hoc,n,hod⟩,_⟩:=I.tuple h1
 obtain⟨its',r',⟨o',ho',hoc',n',hod'⟩,_⟩:=I.tuple g1
 refine PySem.W.kat_lt ho hod ho' hod' ?_
 have:=zaA I (A:=A) (b:=b) (Q:=Q) hu l m xs ys its its' 0 h2 g2 r r' ok hd (λz _=>hb z) q
 simpa using this
theorem Ja{α:Type}{F:KeyFam α}(FO:F.Ok)(I:Inv X sJ σ H s){M:sk}:∀(rs:List α) (sL:List V) (ks:List oQ),Iss X.K H (rs.map λa=>.tup (F.dec a)) sL->Vals sL ks ->
  ∃fs,PySem.W.KatTups s.heap ks fs/\fs.length=rs.length/\∀v ∈ fs,PySem.W.Looks M s.heap (typeOf v) (.type (if F.fst=sH then "int" else "tuple"))
 | [],sL,ks,h,r=>by
  simp only[aN,Iss] at h
  subst h
  cases r
  exact⟨[],PySem.W.KatTups.nil,rfl,λv hv=>by cases hv⟩
 | a::rs,sL,ks,h,r=>by
  simp only[aC,Iss] at h
  obtain⟨x,xr,rfl,hx,hxr⟩:=h
  cases r with | cons rx rxr =>
  rename_i u us
  obtain⟨fs,t1,t2,t3⟩:=Ja FO I (M:=M) rs xr us hxr rxr
  simp only[Is] at hx
  obtain⟨c,xs,rfl,h1,h2⟩:=hx
  cases rx
  obtain⟨its,ri,⟨o,ho,hoc,n,hod⟩,_⟩:=I.tuple h1
  obtain⟨d,dr,ed,hsh⟩:=FO.sh a
  rw[ed] at h2
  simp only[Iss] at h2
  obtain⟨y,yr,rfl,hy,_⟩:=h2
  cases ri with | cons ry rir =>
  rename_i v vs
  refine⟨v::fs,PySem.W.KatTups.cons ho hoc hod (by simp) t1,by simp [t2],λz hz=>?_⟩
  rcases List.mem_cons.mp hz with e | hz
  ·subst e
   rcases hsh with ⟨hf,n',rfl⟩ | ⟨hf,l,rfl⟩
   ·rw[if_pos hf]
    simp only[Is] at hy
    subst hy
    obtain⟨t,rfl⟩:=ry
    exact PySem.W.Looks.of_pure rfl
   ·rw[if_neg (by rw[hf];decide)]
    simp only[Is] at hy
    obtain⟨c',xs',rfl,g1,_⟩:=hy
    cases ry
    obtain⟨its',ri',⟨o',ho',hoc',n',hod'⟩,_⟩:=I.tuple g1
    rw[<- hoc']
    exact (PySem.W.Looks.ld ho').andThen .now
  ·exact t3 z hz
end
def X1{α:Type}(K:oO)(F:KeyFam α)(xs:List V)(Q:VK):List V->Hp->Prop:=λsL H'=>∃rs:List α,Iss K H' (rs.map λa=>.tup (F.dec a)) sL /\
 ∀ys:List (α × V),ys.Perm (rs.zip xs)->ys.Pairwise (λp q=>F.lt q.1 p.1=sI)->∀D,H' D=sG->Q (.ref D) (upd H' D (.lst (ys.map (·.2))))
theorem V0{β:Type}{g:β->β->Bool}{d:β}{zs:List β}{p:Array Nat}(h1:Rg zs.length p)(h2:Up (λi j=>g (zs.getD i d) (zs.getD j d)) p zs.length) :
  (p.toList.map λi=>zs.getD i d).Perm zs/\(p.toList.map λi=>zs.getD i d).Pairwise λa b=>g b a=sI:=by
 have e:(aY zs.length).map (λi=>zs.getD i d)=zs:=by
  refine List.ext_getElem (by simp) λi a b=>?_
  have hb:i<zs.length:=by simpa using b
  simp [hb]
 refine⟨(h1.map (λi=>zs.getD i d)).trans (by rw[e]),?_⟩
 rw[dQ,dY]
 intro i j hi hj hij
 have hs:=h1.size
 have hi':i<p.size:=by simpa using hi
 have hj':j<p.size:=by simpa using hj
 have q:=h2 i j hij (by lia)
 have ei:pg p i=p.toList[i]:=by simp [pg,eU,hi']
 have ej:pg p j=p.toList[j]:=by simp [pg,eU,hj']
 rw[ei,ej] at q
 exact q
end L3
namespace L3
section
variable{X:Cx}{sJ:List (oP × pD)}{σ:L2.St}{H:Hp}{s:oR}
theorem Inv.fp_of_pin{b:oP}{o:pD}(I:Inv X (sJ ++ [(b,o)]) σ H s)(hs:X.s₀.heap.objs.size<=b)(hn:∀p ∈ X.pn ++ sJ,p.1≠b):xW X sJ H b:=by
 obtain⟨p1,p2,p3,p4,p5⟩:=I.pin (b,o) (aA _ (aA _ (List.mem_singleton.mpr rfl)))
 refine⟨p2,p3,p4,.inr hs,λx c e z=>?_,hn⟩
 obtain⟨v,o1,ho1,hd1⟩:=I.cell x c e
 subst z
 rw[p1] at ho1
 cases ho1
 exact p5 v hd1
theorem Inv.at_pin{b:oP}{o:pD}(I:Inv X (sJ ++ [(b,o)]) σ H s):s.heap.get? b=sF o:=(I.pin (b,o) (aA _ (aA _ (List.mem_singleton.mpr rfl)))).1
theorem wk{c:String}{xs:Array oQ}{n:Nat}:∀v,(pw c xs n).data≠.cell v:=λv z=>by cases z
theorem Q8{D kS:oP}{e e1:Nat}{st:SortSt}{ks out:List oQ}{A:oY}{E:oQ->oR->Prop}{P:PySem.Fin->oR->Prop}(I:Inv X ((sJ ++ [(D,pw "list" #[] e1)]) ++ [(kS,pw "list" (bh ks) e)]) σ H s)
  (hD:X.s₀.heap.objs.size<=D) (hK:X.s₀.heap.objs.size<=kS) (nD:∀p ∈ X.pn ++ sJ,p.1≠D) (nK:∀p ∈ X.pn ++ (sJ ++ [(D,pw "list" #[] e1)]),p.1≠kS) (hkz:ks.length<64)
  (hout:(arrOf st).map (·.2)=bh out) (hoz:out.length<64) (hf:failedOf st=sG) (h:∀s' c,Inv X (sJ ++ [(D,pw "list" (bh out) c)]) σ H s'->P (.done (.ret .none)) s') :
  oS (model X.prog X.w) A (ksk_tail D sI e1 (.ref kS) st) P E s:=by
 have pk:=Inv.at_pin I
 have s1:=Heap.SameBut.update s.heap kS (Obj.mapSeq λ_=>(#[]:Array oQ))
 obtain⟨ck,hck⟩:∃ck,(s.heap.update kS (Obj.mapSeq λ_=>(#[]:Array oQ))).get? kS=sF (pw "list" #[] ck):=⟨_,get?_update_seq pk λ_=>#[]⟩
 have I2:=(Inv.repin I hK nK s1 hck wk).unpinned
 have pd:=Inv.at_pin I2
 have s2:=Heap.SameBut.update (s.heap.update kS (Obj.mapSeq λ_=>(#[]:Array oQ))) D (Obj.mapSeq λ_=>bh out)
 obtain⟨c2,hc2⟩:∃c2,((s.heap.update kS (Obj.mapSeq λ_=>(#[]:Array oQ))).update D (Obj.mapSeq λ_=>bh out)).get? D=sF (pw "list" (bh out) c2):=⟨_,get?_update_seq pd λ_=>bh out⟩
 have I3:=Inv.repin I2 hD nD s2 hc2 wk
 unfold ksk_tail
 (try dsimp only)
 rw[hout]
 refine oH (listUpdate_at pk rfl ?_ (by rw[ao,pA];lia) (aJ _))
 refine oH (rb ?_)
 refine oH (seqEpoch_at pd rfl ?_)
 refine oH (listUpdate_at pd rfl ?_ (aJ _) (by simp only[bO,if_false];rw[ao,pA];lia))
 rw[hf]
 simp only[bne_self_eq_false,bO,if_false]
 exact oJ (h _ c2 I3)
theorem zcf{α:Type}{F:KeyFam α}(FO:F.Ok){D kS:oP}{e e1:Nat}{ks its:List oQ}{sL xs:List V}{rs:List α}{A:oY}{E:oQ->oR->Prop}{P:PySem.Fin->oR->Prop}(hu:A.units+50<cLine)
  (I:Inv X ((sJ ++ [(D,pw "list" #[] e1)]) ++ [(kS,pw "list" (bh ks) e)]) σ H s)
  (hD:X.s₀.heap.objs.size<=D) (hK:X.s₀.heap.objs.size<=kS) (nD:∀p ∈ X.pn ++ sJ,p.1≠D) (nK:∀p ∈ X.pn ++ (sJ ++ [(D,pw "list" #[] e1)]),p.1≠kS)
  (rk:Vals sL ks) (rv:Vals xs its) (hl:ks.length=its.length) (hz:its.length<64) (hR:Iss X.K H (rs.map λa=>.tup (F.dec a)) sL)
  (h:∀s' (ys:List (α × V)) (out:List oQ) c,ys.Perm (rs.zip xs)->ys.Pairwise (λp q=>F.lt q.1 p.1=sI)->Vals (ys.map (·.2)) out->out.length<64->Inv X (sJ ++ [(D,pw "list" (bh out) c)]) σ H s'->P (.done (.ret .none)) s') :
  oS (model X.prog X.w) A (ksk_end D sI its.toArray e1 (.ref kS) (bh ks)) P E s:=by
 have L1:=hR.len
 have L2:=rk.length
 have L3:=rv.length
 rw[ae] at L1
 have lz:(rs.zip xs).length=its.length:=by rw[List.length_zip];lia
 unfold ksk_end
 simp only[bO,if_false]
 by_cases h2:its.toArray.size<2
 ·rw[if_pos h2,if_pos h2]
  refine oH (oJ ?_)
  rw[StateT.run_pure]
  refine oH (oJ ?_)
  (try dsimp only)
  refine Q8 (out:=its) I hD hK nD nK (by lia) ?_ hz rfl λs' c I'=>h s' (rs.zip xs) its c (List.Perm.refl _) ?_ ?_ hz I'
  ·show ((bh ks).zip its.toArray).map (·.2)=_
   apply Array.toList_inj.mp
   rw[Array.toList_map,ksk_zip]
   exact List.map_snd_zip (by simp;lia)
  ·rw[ao] at h2
   match rs.zip xs,lz with
   | [],_=>exact List.Pairwise.nil
   | [a],_=>exact eh _ _
   | _::_::_,lz=>exact absurd lz (by simp only[aM];lia)
  ·rw[List.map_snd_zip (by lia)]
   exact rv
 ·rw[if_neg h2,if_neg h2]
  rw[ao] at h2
  obtain⟨fs,t1,t2,t3⟩:=Ja FO I (M:=model X.prog X.w) rs sL ks hR rk
  refine oH (PySem.W.kat_kind t1 (by lia) t3 (by simp) ?_)
  have hfst:((Value.type (if F.fst=sH then "int" else "tuple"):oQ) != Value.type "tuple")=F.fst:=by
   cases hF:F.fst with
   | true=>rfl
   | false=>rfl
  rw[hfst]
  have W:Wk (λi j=>F.lt (rs.getD i F.d0) (rs.getD j F.d0)):=⟨λa b=>FO.w.asym _ _,λa b c=>FO.w.ntr _ _ _⟩
  have ok:=KZ (n:=its.length) W (by lia)
  have lt_eq:(λi j=>F.lt (rs.getD i F.d0) (rs.getD j F.d0))=(λi j=>(λ(p q:α × V)=>F.lt p.1 q.1) ((rs.zip xs).getD i (F.d0,.non)) ((rs.zip xs).getD j (F.d0,.non))):=by
   have one:∀i,((rs.zip xs).getD i (F.d0,V.non)).1=rs.getD i F.d0:=λi=>by
    by_cases hi:i<its.length
    ·have a1:i<rs.length:=by lia
     have a2:i<xs.length:=by lia
     rw[ac,ac,al (by lia),al a1]
     simp
    ·rw[ac,ac,bz (by lia),bz (by lia)]
     rfl
   funext i j
   simp only[one]
  have wp:=Kok.wp (n:=its.length) (cmp:=fA X.prog X.w A (tuples' F.fst) ks) (I:=λs'=>Inv X ((sJ ++ [(D,pw "list" #[] e1)]) ++ [(kS,pw "list" (bh ks) e)]) σ H s')
   (R:=λp s'=>(Rg its.length p/\Up (λi j=>F.lt (rs.getD i F.d0) (rs.getD j F.d0)) p its.length)/\Inv X ((sJ ++ [(D,pw "list" #[] e1)]) ++ [(kS,pw "list" (bh ks) e)]) σ H s')
   (λi j C s' hi hj I' hC=>?_) (λp s' hp I'=>⟨hp,I'⟩) _ s I ok
  ·have run:=PySem.W.kat_run (E:=E) (vs:=its) (ks:=ks) (Q:=λst' s'=>∃p:Array Nat,p.size=its.length/\arrOf st'=p.map (PySem.W.kas_item (ks.toArray.zip its.toArray))/\failedOf st'=sG/\_) hl (by lia) hz (λp' st' s' a1 a2 a3 a4=>⟨p',a1,a2,a3,a4⟩) wp
   refine oH (pT run ?_ λ_ _ e=>e)
   rintro⟨⟨⟩,st'⟩ s' ⟨p,hp,har,hf,⟨hR1,hU⟩,I'⟩
   (try dsimp only)
   have hout:=PySem.W.kat_snds (ks:=ks) (vs:=its) hl har
   have hR2:Rg (rs.zip xs).length p:=by rw[lz];exact hR1
   rw[lt_eq,<- lz] at hU
   obtain⟨g1,g2⟩:=V0 (g:=λ(p q:α × V)=>F.lt p.1 q.1) hR2 hU
   have olen:(p.toList.map λi=>its.getD i Value.none).length=its.length:=by rw[ae,dC,hp]
   refine Q8 (out:=p.toList.map λi=>its.getD i Value.none) I' hD hK nD nK (by lia) hout (by lia) hf λs2 c I2=>h s2 _ _ c g1 g2 ?_ (by lia) I2
   rw[dw]
   have all:∀(js:List Nat),(∀j ∈ js,j<its.length)->Vals (js.map ((λx:α × V=>x.2) ∘ λi=>(rs.zip xs).getD i (F.d0,.non))) (js.map λi=>its.getD i Value.none):=by
    intro js
    induction js with
    | nil=>intro _;exact .nil
    | cons j js ih =>
     intro hj
     refine .cons ?_ (ih λi hi=>hj i (aw _ hi))
     have hjl:=hj j az
     have a1:j<xs.length:=by lia
     obtain⟨u,hu1,ru⟩:=xX rv (j:=j) (x:=xs[j]) (al a1)
     have e1:((rs.zip xs).getD j (F.d0,V.non)).2=xs[j]:=by
      rw[ac,al (by lia)]
      simp
     have e2:its.getD j Value.none=u:=by rw[ac,hu1];rfl
     show RelV ((rs.zip xs).getD j (F.d0,V.non)).2 (its.getD j Value.none)
     rw[e1,e2]
     exact ru
   exact all p.toList λj hj=>List.mem_range.mp (hR1.mem_iff.mp hj)
  ·have a1:i<rs.length:=by lia
   have a2:j<rs.length:=by lia
   have gi:(rs.map λa=>_root_.L3.D.tup (F.dec a))[i]? = sF (.tup (F.dec rs[i])):=by rw[aG,al a1];rfl
   have gj:(rs.map λa=>_root_.L3.D.tup (F.dec a))[j]? = sF (.tup (F.dec rs[j])):=by rw[aG,al a2];rfl
   obtain⟨x,hx,ix⟩:=hR.at gi
   obtain⟨y,hy,iy⟩:=hR.at gj
   obtain⟨u,hu1,ru⟩:=xX rk hx
   obtain⟨v,hv1,rv1⟩:=xX rk hy
   have e1:ks.getD i Value.none=u:=by rw[ac,hu1];rfl
   have e2:ks.getD j Value.none=v:=by rw[ac,hv1];rfl
   have e3:rs.getD i F.d0=rs[i]:=by rw[ac,al a1];rfl
   have e4:rs.getD j F.d0=rs[j]:=by rw[ac,al a2];rfl
   unfold fA
   rw[e1,e2]
   refine Kn I' hu ix iy ru rv1 (FO.ok _ _) (FO.dp _) (λhb=>?_) ?_
   ·obtain⟨d,r,ed,hd⟩:=FO.sh rs[i]
    obtain⟨d',r',ed',hd'⟩:=FO.sh rs[j]
    rcases hd with ⟨_,n,rfl⟩ | ⟨z,_⟩
    ·rcases hd' with ⟨_,n',rfl⟩ | ⟨z,_⟩
     ·exact⟨⟨n,r,ed⟩,n',r',ed'⟩
     ·rw[hb] at z;cases z
    ·rw[hb] at z;cases z
   ·rw[FO.eq,<- e3,<- e4]
    exact hC s' I'
end
end L3
namespace L3
def uC(kc:V->Hp->VK->Prop):List V->List V->Hp->(List V->Hp->Prop)->Prop
 | [],sL,H,Q=>Q sL H
 | x::xs,sL,H,Q=>kc x H (λk H'=>uC kc xs (sL ++ [k]) H' Q)
section
variable{X:Cx}{sJ:List (oP × pD)}{σ:L2.St}{H:Hp}{s:oR}
theorem KN{α:Type}{F:KeyFam α}(FO:F.Ok){k:Nat}{q:oP}{kc:V->Hp->VK->Prop}(hr:Room (k+2) X.A)
  (hkc:∀(pins':List (oP × pD)) (s:oR) (H:Hp) (x:V) (u:oQ) (Q:VK),Inv X pins' σ H s->RelV x u->kc x H Q->oS (model X.prog X.w) X.A.in1.in1 (call (.ref q) [u]) (EP X pins' σ Q) (λ_ _=>False) s)
  {D kS:oP} {e1:Nat} {its:List oQ} {xs:List V} {E:oQ->oR->Prop} {P:PySem.Fin->oR->Prop} {Q:VK}
  (I:Inv X ((sJ ++ [(D,pw "list" #[] e1)]) ++ [(kS,pw "list" #[] 0)]) σ H s)
  (hD:X.s₀.heap.objs.size<=D) (hK:X.s₀.heap.objs.size<=kS) (nD:∀p ∈ X.pn ++ sJ,p.1≠D) (nK:∀p ∈ X.pn ++ (sJ ++ [(D,pw "list" #[] e1)]),p.1≠kS)
  (rv:Vals xs its) (hz:its.length<64)
  (ht:uC kc xs [] H (X1 X.K F xs Q))
  (hP:∀s',EP X sJ σ Q (.ref D) s'->P (.done (.ret .none)) s') :
  oS (model X.prog X.w) X.A.in1.in1 (ksk_rest D (.ref q) sI its.toArray e1 (.ref kS)) P E s:=by
 unfold ksk_rest
 refine oH (rG ?_)
 rw[List.forIn_toArray]
 refine oH (ksk_fold (λj s'=>∃sL ks e H',Inv X ((sJ ++ [(D,pw "list" #[] e1)]) ++ [(kS,pw "list" (bh ks) e)]) σ H' s'/\Vals sL ks/\ks.length=j/\uC kc (xs.drop j) sL H' (X1 X.K F xs Q))
  its 0 s ⟨[],[],0,H,I,.nil,rfl,ht⟩ (λj x s1 hx hJ=>?_) λs1 hJ=>?_)
 ·obtain⟨sL,ks,e,H1,I1,rk,hkl,tk⟩:=hJ
  rw[d9] at hkl tk
  have hjl:j<its.length:=(List.getElem?_eq_some_iff.mp hx).1
  have L3:=rv.length
  obtain⟨u,hu,ru⟩:=xX rv (j:=j) (x:=xs[j]) (al (by lia))
  rw[hx] at hu
  cases hu
  rw[aV (by lia)] at tk
  refine oH (rg (pT (hkc _ _ _ _ _ _ I1 ru tk) (λkv s2 hk=>?_) λ_ _ z=>z.elim))
  obtain⟨v,H2,I2,rv2,tk2⟩:=hk
  have pk:=Inv.at_pin I2
  have sb:=Heap.SameBut.update s2.heap kS (Obj.mapSeq (·.push kv))
  have ea:(bh ks).push kv=bh (ks ++ [kv]):=by simp
  obtain⟨c2,hc2⟩:∃c2,(s2.heap.update kS (Obj.mapSeq (·.push kv))).get? kS=sF (pw "list" (bh (ks ++ [kv])) c2):=⟨_,by rw[<- ea];exact get?_update_seq pk (·.push kv)⟩
  have I3:=Inv.repin I2 hK nK sb hc2 wk
  (try dsimp only)
  refine oH (listUpdate_at pk rfl ?_ (by rw[ao,pA];lia) (by rw[Array.size_push,ao,pA];lia))
  refine oJ ⟨rfl,sL ++ [v],ks ++ [kv],c2,H2,I3,rk.append (.cons rv2 .nil),by rw[am,cu,hkl];lia,?_⟩
  rw[d9]
  exact tk2
 ·obtain⟨sL,ks,e,H1,I1,rk,hkl,tk⟩:=hJ
  rw[d9] at hkl tk
  have L3:=rv.length
  rw[<- L3,d6] at tk
  obtain⟨rs,hR,hq⟩:=tk
  (try dsimp only)
  refine oH (listItems_at (Inv.at_pin I1) rfl ?_)
  refine zcf FO (by have:=hr.in1.in1.un;lia) I1 hD hK nD nK rk rv hkl hz hR λs' ys out c p1 p2 p3 p4 I'=>hP s' ?_
  have fp:=Inv.fp_of_pin I' hD nD
  refine⟨.ref D,_,Inv.track I'.unpinned (a:=D) (o:=.lst (ys.map (·.2))) fp ⟨?_,out,c,p3,Inv.at_pin I'⟩,rfl,hq ys p1 p2 D fp.1⟩
  rw[p3.length,pA]
  lia
theorem VA{α:Type}{F:KeyFam α}(FO:F.Ok){k:Nat}{q l:oP}{xs:List V}{kc:V->Hp->VK->Prop}{Q:VK}(hr:Room (k+2) X.A)
  (hkc:∀(pins':List (oP × pD)) (s:oR) (H:Hp) (x:V) (u:oQ) (Q:VK),Inv X pins' σ H s->RelV x u->kc x H Q->oS (model X.prog X.w) X.A.in1.in1 (call (.ref q) [u]) (EP X pins' σ Q) (λ_ _=>False) s)
  (I:Inv X sJ σ H s) (hS:SqL X.K H l xs) (hz:xs.length<64) (ht:uC kc xs [] H (X1 X.K F xs Q)) :
  oS (model X.prog X.w) X.A (call (.builtin "sorted") [.ref l] [(bG "key",.ref q)]) (EP X sJ σ Q) X.xe s:=by
 obtain⟨its,rv,pl,_⟩:=I.list hS
 have hlen:=rv.length
 refine call_function_entry_kw kind_sorted plain_sorted entry_sorted (ksk_s1 _ _) ?_
 unfold Builtin.«sorted»
 refine oH (m:=checkCount "sorted" 1 1 _) (oJ ?_)
 refine oH (collect_list pl.isList ?_ (by rw[pA];lia))
 refine oH (rV ?_ (by rw[pA];lia))
 generalize hh1:((s.heap.push (pw "list" #[] 0)).update s.heap.objs.size (Obj.mapSeq (· ++ its.toArray)))=h1
 have sz1:h1.objs.size=s.heap.objs.size+1:=by rw[<- hh1,dn,size_push']
 have kp1:∀b o,s.heap.get? b=sF o->h1.get? b=sF o:=λb o e=>by
  have hlt:b<s.heap.objs.size:=ay e
  rw[<- hh1,Heap.get?_update_ne _ _ _ _ (aE hlt),Heap.get?_push_ne _ _ _ (aE hlt)]
  exact e
 have hoL:(h1.push (pw "list" its.toArray 0)).get? h1.objs.size=sF (pw "list" its.toArray 0):=aI _ rfl
 show oS _ _ _ _ _ { s with heap:=h1.push (pw "list" its.toArray 0) }
 refine oH (pE (wpAny_call_entry_kw slot_list_sort ⟨_,hoL,rfl⟩ entry_list_sort ?body (ksk_l1 _ _)))
 show oS _ _ (Builtin.«list.sort» ⟨[.ref h1.objs.size],[(bG "key",.ref q)]⟩) _ _ _
 rw[ksk_t1]
 generalize hh2:h1.push (pw "list" its.toArray 0)=h2 at hoL
 have sz2:h2.objs.size=h1.objs.size+1:=by rw[<- hh2,size_push']
 have kp2:∀b o,s.heap.get? b=sF o->h2.get? b=sF o:=λb o e=>by rw[<- hh2];exact aa _ (kp1 b o e)
 generalize hDD:h1.objs.size=D at hoL
 obtain⟨e1,ho1⟩:∃e1,(h2.update D (Obj.mapSeq λ_=>(#[]:Array oQ))).get? D=sF (pw "list" #[] e1):=⟨_,get?_update_seq hoL λ_=>#[]⟩
 have hDs:s.heap.objs.size<=D:=by rw[<- hDD,sz1];exact cC _
 have sb:=Heap.SameBut.update h2 D (Obj.mapSeq λ_=>(#[]:Array oQ))
 unfold ksk_tree
 refine oH (listItems_at hoL rfl ?_)
 refine oH (listUpdate_at hoL rfl ?_ (by rw[ao,pA];lia) (aJ _))
 refine oH (seqEpoch_at ho1 rfl ?_)
 refine oH (wpAny_newTuple ?_ (by show its.length<=_;rw[pA];lia))
 refine oH (rV ?_ (aJ _))
 refine pE ?_
 generalize hh3:(h2.update D (Obj.mapSeq λ_=>(#[]:Array oQ))).push (pw "tuple" its.toArray 0)=h3
 have sz3:h3.objs.size=s.heap.objs.size+3:=by rw[<- hh3,size_push',dn,sz2,sz1]
 have hoK:(h3.push (pw "list" #[] 0)).get? h3.objs.size=sF (pw "list" #[] 0):=aI _ rfl
 have hoD:(h3.push (pw "list" #[] 0)).get? D=sF (pw "list" #[] e1):=aa _ (by rw[<- hh3];exact aa _ ho1)
 have kp3:∀b o,s.heap.get? b=sF o->(h3.push (pw "list" #[] 0)).get? b=sF o:=λb o e=>by
  have hlt:b<s.heap.objs.size:=ay e
  refine aa _ ?_
  rw[<- hh3]
  exact aa _ ((sb.2 b (aE (aD hlt hDs))).trans (kp2 b o e))
 have I1:Inv X sJ σ H { s with heap:=h3.push (pw "list" #[] 0) }:=I.kept (t':=s.toks) kp3
 have fD:xW X sJ H D:=I.fpOk (by lia) (I.hok.fresh (by lia))
 have fK:xW X sJ H h3.objs.size:=I.fpOk (by lia) (I.hok.fresh (by lia))
 have I2:=Inv.newpin I1 fD hoD wk
 have nK:∀p ∈ X.pn ++ (sJ ++ [(D,pw "list" #[] e1)]),p.1≠h3.objs.size:=λp hp=>by
  rcases List.mem_append.mp hp with z | z
  ·exact fK.2.2.2.2.2 p (aR _ z)
  ·rcases List.mem_append.mp z with z | z
   ·exact fK.2.2.2.2.2 p (aA _ z)
   ·have e:p=(D,pw "list" #[] e1):=by simpa using z
    subst e
    show D≠_
    lia
 have I3:=Inv.newpin I2 (b:=h3.objs.size) ⟨fK.1,fK.2.1,fK.2.2.1,fK.2.2.2.1,fK.2.2.2.2.1,nK⟩ hoK wk
 have hsz:=I.sz
 have hK0:X.s₀.heap.objs.size<=h3.objs.size:=by lia
 exact KN FO hr hkc I3 (by lia) hK0 fD.2.2.2.2.2 nK rv (by lia) ht λs' hE=>⟨_,rfl,oJ ⟨_,rfl,hE⟩⟩
end
end L3
namespace L3
noncomputable def VQ(X:Cx)(N:List oW)(s:oR)(H:Hp)(qual:oW)(scope:pK)(f:oP)(cd:oQ)(cl:List (oW × oP)):Cx where
 prog:=X.prog
 w:=X.w
 K:=X.K
 mg:=X.mg
 base:=X.base
 A:=X.A.in1.in1.deeper (ee qual scope s.heap.objs.size f cd cl)
 N:=N
 s₀:=s
 H₀:=H
 env:=ee qual scope s.heap.objs.size f cd cl
 outer:=X.stack
 stack:=ee qual scope s.heap.objs.size f cd cl::X.stack
 ex:=[]
 calm:=sH
 fn:=λ_=>sI
 pn:=[]
 xe:=λ_ _=>False
structure Kz(p y:oW)(scope:pK):Prop where
 kind:scope.kind=.function
 co:scope.isCoroutine=sI
 gen:scope.isGenerator=sI
 nocell:∀z ∈ scope.names,z.2≠.cell
 par:scope.names.lookup p=sF .local
 fre:scope.names.lookup y=sF .free
 one:∀q ∈ scope.names,q.2=.free->q.1=y
 ne:p≠y
section
variable{X:Cx}{sJ:List (oP × pD)}{σ:L2.St}{H:Hp}{s:oR}{p y name qual:oW}{scope:pK}{params:rq}{body:oZ}{f c' c:oP}{pm ctv cv:oQ}{k iy:Nat}{vy x:V}{u:oQ}{Q:VK}{t:TE}
theorem JP(S:Kz p y scope)(hd:X.A.in1.in1.handled=sG)(I:Inv X sJ σ H s)(hy:X.N[iy]? = sF y)(hσ:σ[iy]? = sF (sF vy))(hvis:X.env.scope.names.lookup y=sF .cell)(hc:X.env.cells.lookup y=sF c)(rx:RelV x u){h₁:pb}{tk:Nat}
  (hns:h₁.Ns s.heap.objs.size (λz=>[(p,u)].reverse.lookup z)) (hk₁:∀b o,s.heap.get? b=sF o->h₁.get? b=sF o) :
  Inv (VQ X [p,y] s H qual scope f cv [(y,c)]) [] [sF x,sF vy] H { s with heap:=h₁,toks:=tk }:=by
 obtain⟨m,hn,hl⟩:=I.loc
 obtain⟨uy,ry,lk⟩:=hl iy y vy hy hσ (.inr (.inl hvis))
 have hcell:s.heap.IsCell c (sF uy):=by
  rcases lk with ⟨z,_⟩ | ⟨_,c2,e2,z⟩
  ·have z':X.env.scope.names.lookup y=sF .local:=z
   rw[hvis] at z'
   cases z'
  ·rw[hc] at e2
   cases e2
   exact z
 have hcell':h₁.IsCell c (sF uy):=by
  obtain⟨o,e,d⟩:=hcell
  exact⟨o,hk₁ _ _ e,d⟩
 have e0:=I.env0
 have noA:∀b:oP,b ∉ (VQ X [p,y] s H qual scope f cv [(y,c)]).ex:=λb z=>absurd (show b ∈ ([]:List oP) from z) (by simp)
 have lkc:∀z d,bq z [(y,c)]=sF d->z=y/\d=c:=λz d h=>by
  rw[aW] at h
  by_cases hz:(z == y)=sH
  ·rw[hz] at h
   cases h
   exact⟨by simpa using hz,rfl⟩
  ·rw[show (z == y)=sI by simpa using hz] at h
   cases h
 have lky:bq y [(y,c)]=sF c:=by rw[aW];simp
 refine⟨⟨e0.mod,S.kind,rfl,rfl,au _,λz z' d h1 h2=>?_,λz hz=>?_,λz d h _=>?_,λ_=>hd,Around.frames_deeper e0.frames,.inr ⟨rfl,rfl⟩,λb z=>absurd z (noA b),e0.bs,e0.bsz,λb _ _=>noA b,λb z=>absurd z (noA b),e0.funs,e0.frf⟩,
  rfl,e0.bare,Un.kept hk₁,⟨_,hns,λi z v h1 h2 h3=>?_⟩,λz d h=>?_,e0.hok.fresh (au _),λz d h=>?_,λq hq=>absurd (show q ∈ ([]:List (oP × pD)) from hq) (by simp),e0.hok.kept hk₁,rfl⟩
 ·rw[(lkc _ _ h1).1,(lkc _ _ h2).1]
 ·have hz':scope.names.lookup z=sF .cell\/scope.names.lookup z=sF .free:=hz
  rcases hz' with hz' | hz'
  ·exact absurd rfl (S.nocell _ (bR hz'))
  ·rw[show z=y from S.one _ (bR hz') rfl]
   exact⟨c,lky⟩
 ·exact absurd (show (sI:Bool)=sH from h) (by decide)
 ·match i,h1,h2 with
  | 0,h1,h2 =>
   cases h1
   cases h2
   refine⟨u,rx,.inl ⟨S.par,?_⟩⟩
   show bq p [(p,u)].reverse=sF u
   simp [bq]
  | 1,h1,h2 =>
   cases h1
   cases h2
   exact⟨uy,ry,.inr ⟨.inr S.fre,c,lky,hcell'⟩⟩
  | i+2,h1,h2=>simp at h2
 ·obtain⟨_,rfl⟩:=lkc z d h
  exact⟨_,hcell'⟩
 ·obtain⟨_,rfl⟩:=lkc z d h
  exact I.freeC y _ hc
theorem QH(S:Kz p y scope)(hr:Room (k+3) X.A)(hbind:bindArgs (bX name qual params body scope [(y,c)] pm cv ctv) ⟨[u],[]⟩=pure [(p,u)])(I:Inv X sJ σ H s)
  (ho:s.heap.get? f=sF { cls:=.type "function",data:=.func (bX name qual params body scope [(y,c)] pm cv ctv) }) (hcd:s.heap.CodeRec cv qual) (hy:X.N[iy]? = sF y) (hσ:σ[iy]? = sF (sF vy)) (hvis:X.env.scope.names.lookup y=sF .cell) (hc:X.env.cells.lookup y=sF c)
  (rx:RelV x u) (hb:PE (VQ X [p,y] s H qual scope f cv [(y,c)]) body t) (h:t [sF x,sF vy] H Q) :
  oS (model X.prog X.w) X.A.in1.in1 (call (.ref f) [u]) (EP X sJ σ Q) (λ_ _=>False) s:=by
 have hr2:Room (k+1) X.A.in1.in1:=hr.in1.in1
 refine pV (PySem.W.kla_callFunE hr2.depth ho rfl S.co S.gen rfl hcd ?_)
 rw[hbind]
 refine oJ (rh S.nocell (λz hz=>?_) (λh₁ hns hsb=>?_) S.kind)
 ·have e:z=(p,u):=by simpa using hz
  subst e
  exact S.par
 have hk₁:∀b o,s.heap.get? b=sF o->h₁.get? b=sF o:=λb o e=>hsb.extBut b o (aE (ay e)) (aa _ e)
 refine⟨I.nolimit.keeps hk₁,?_⟩
 have I1:=JP (qual:=qual) (f:=f) (cv:=cv) (tk:=s.toks+1) S hr2.hd I hy hσ hvis hc rx hns hk₁
 show pO _ _ (.expr body (ee qual scope s.heap.objs.size f cv [(y,c)])) _ _
 refine PySem.W.kla_codeExpr (pT (hb [] _ _ H Q I1 h) (λv s' hv=>?_) λ_ _ z=>False.elim z)
 obtain⟨w',H',J,rw',q⟩:=hv
 exact I.after ⟨w',H',J.os,J.bare,J.base,J.hok,rw',q⟩
end
end L3
namespace L3
noncomputable def cdE(c':oP)(q:oW):HO:=.ext λh=>h.CodeRec (.ref c') q
noncomputable def fnE(f:oP)(o:pD):HO:=.ext λh=>h.get? f=sF o
def TabOk(H:Hp)(P:oP)(pos:pS)(q:oW):Prop :=
 ∃ps:Array oQ,H P=sF (.tbl ps)/\sC ps.toList/\(codeAmong pos ps.toList=sG\/∃c',codeAmong pos ps.toList=sF (.ref c')/\H c'=sF (cdE c' q))
def SamT(P:oP)(H H':Hp):Prop:=∀b o,b≠P->H b=sF o->H' b=sF o
def LamAt(H:Hp)(f:oP)(name qual:oW)(params:rq)(body:oZ)(scope:pK)(cl:List (oW × oP)):Prop :=
 ∃(c':oP) (pm ctv:oQ),H c'=sF (cdE c' qual)/\H f=sF (fnE f { cls:=.type "function",data:=.func (bX name qual params body scope cl pm (.ref c') ctv) })
theorem zaM{P:oV}{w:oX}{H:Hp}{h:pb}{c':oP}{q:oW}(x:h.CodeRec (.ref c') q):ObjOk P w H h c' (cdE c' q):=by
 refine⟨x,?_,λh1 h2 a k=>?_⟩
 ·obtain⟨c,o,vs,t,e,g,_⟩:=x
  cases e
  exact⟨o,g⟩
 ·obtain⟨c,o,vs,t,e,g,r⟩:=a
  cases e
  exact⟨_,o,vs,t,rfl,k o g,r⟩
theorem Jr{P:oV}{w:oX}{H:Hp}{h:pb}{f:oP}{o:pD}(x:h.get? f=sF o):ObjOk P w H h f (fnE f o) :=
 ⟨x,⟨o,x⟩,λh1 h2 a k=>k o a⟩
section
variable{X:Cx}{sJ:List (oP × pD)}{σ:L2.St}{H:Hp}{s:oR}
theorem Inv.grow{P c' f:oP}{ps more:Array oQ}{o:pD}{q:oW}{h':pb}{tk:Nat}(I:Inv X sJ σ H s)(hP:H P=sF (.tbl ps))(hk:∀b u,b≠P->s.heap.get? b=sF u->h'.get? b=sF u)(hP':h'.get? P=sF { cls:=.none,data:=.fields (ps ++ more) })
  (hc:s.heap.objs.size<=c') (hf:s.heap.objs.size<=f) (hcf:c'≠f) (hcr:h'.CodeRec (.ref c') q) (hfo:h'.get? f=sF o) :
  Inv X sJ σ (upd (upd (upd H P (.tbl (ps ++ more))) c' (cdE c' q)) f (fnE f o)) { s with heap:=h',toks:=tk }:=by
 have Pl:P<s.heap.objs.size:=I.hok.lt hP
 have hPc:P≠c':=aE (aD Pl hc)
 have hPf:P≠f:=aE (aD Pl hf)
 have old:∀b,b<s.heap.objs.size->b≠P->(upd (upd (upd H P (.tbl (ps ++ more))) c' (cdE c' q)) f (fnE f o)) b=H b:=λb hb hbP=>by
  rw[zo (aE (aD hb hf)),zo (aE (aD hb hc)),zo hbP]
 have atP:(upd (upd (upd H P (.tbl (ps ++ more))) c' (cdE c' q)) f (fnE f o)) P=sF (.tbl (ps ++ more)):=by
  rw[zo hPf,zo hPc,zf]
 have neP:∀b,H b=sG->b≠P:=λb e z=>by rw[z,hP] at e;cases e
 refine I.un ⟨λb u e n _ _=>hk b u (neP b n) e,λb u e n _ _=>⟨u.slots,hk b u (neP b n) e⟩,λb u e n _=>?_,λb u e _=>?_,λb xs e=>?_,λb ob u e=>?_,λb qs e=>?_⟩ λb u e=>?_
 ·rw[old b (ay e) (neP b n)]
  exact n
 ·by_cases hb:b=P
  ·subst hb;exact⟨_,hP'⟩
  ·exact⟨u,hk b u hb e⟩
 ·rw[old b (I.hok.lt e) (λz=>by rw[z,hP] at e;cases e)]
  exact e
 ·rw[old b (I.hok.lt e) (λz=>by rw[z,hP] at e;cases e)]
  exact e
 ·by_cases hb:b=P
  ·subst hb
   rw[hP] at e
   cases e
   exact⟨more,atP⟩
  ·rw[old b (I.hok.lt e) hb]
   exact⟨#[],by rw[e];simp⟩
 ·by_cases hbf:b=f
  ·subst hbf
   rw[zf] at e
   cases e
   exact Jr hfo
  ·rw[zo hbf] at e
   by_cases hbc:b=c'
   ·subst hbc
    rw[zf] at e
    cases e
    exact zaM hcr
   ·rw[zo hbc] at e
    by_cases hbP:b=P
    ·subst hbP
     rw[zf] at e
     cases e
     exact hP'
    ·rw[zo hbP] at e
     refine (I.hok b u e).stay (λd v hd g=>hk d v ?_ g) (λd g=>?_) λd xs g=>?_
     ·rcases hd with z | z
      ·rw[z];exact hbP
      ·intro z';rw[z',hP] at z;cases z
     ·rw[old d (I.hok.lt g) (λz=>by rw[z,hP] at g;cases g)]
      exact g
     ·rw[old d (I.hok.lt g) (λz=>by rw[z,hP] at g;cases g)]
      exact g
end
end L3
namespace L3
theorem uB{a b:Int}{v:oQ}:∀(l:List oQ),sC l->sC (l ++ [rawInt a,rawInt b,v])
 | [],_=>trivial
 | .int _ _::.int _ _::_::rest,h=>uB rest h
theorem Zq{h h':pb}{mg:oW->Option oQ}{T:oP}(x:h.BuiltinsAt mg T)(k:∀b o,h.get? b=sF o->h'.get? b=sF o):h'.BuiltinsAt mg T:=by
 obtain⟨bm,o,b1,b2,b3,b4,b5,b6⟩:=x
 exact⟨bm,o,b1,b2,b3,b4,k _ _ b5,b6⟩
section
variable{X:Cx}{sJ:List (oP × pD)}{σ:L2.St}{H:Hp}{s:oR}{cc P c:oP}{y:oW}{params:rq}{body:oZ}{scope:pK}{pos:pS}{Q:VK}
theorem Qq(hcode:X.env.code=.ref cc)(hC:PySem.W.CodeHd X.base cc P)(hB:X.base.BuiltinsAt X.mg P)(hgP:oK≠P)(hcl:closureFor scope X.env=pure [(y,c)])(hdef:defaultsOf params X.env=([],[]))(I:Inv X sJ σ H s)
  (hT:TabOk H P pos (X.env.qual ++ "<lambda>"))
  (h:∀f H',H f=sG->LamAt H' f "<lambda>" (X.env.qual ++ "<lambda>") params body scope [(y,c)]->TabOk H' P pos (X.env.qual ++ "<lambda>")->SamT P H H'->Q (.ref f) H') :
  oS (model X.prog X.w) X.A (eval (.Lambda params body scope pos) X.env) (EP X sJ σ Q) X.xe s:=by
 refine PySem.W.kla_eval hdef ?_
 obtain⟨ps,hP,ht,hh⟩:=hT
 have hPo:s.heap.get? P=sF (PySem.W.tabObj ps):=I.hok _ _ hP
 have hg:=I.mod.glob.keeps I.bk
 have Pl:P<s.heap.objs.size:=I.hok.lt hP
 rcases hh with hn | ⟨c',hit,hc'⟩
 ·refine PySem.W.kla_makeFunction (mg:=X.mg) hcl I.ok.glob hg hcode (hC.keeps I.bk) hPo ht hn hgP (Zq hB I.bk) λc' ctv h' tk hx hge hlt hrec htb=>?_
  have hsz:s.heap.objs.size<=h'.objs.size:=de (cp hge hlt)
  have I1:=Inv.grow (P:=P) (c':=c') (f:=h'.objs.size) (more:=#[rawInt pos.line,rawInt pos.col,.ref c']) (tk:=tk) (o:={ cls:=.type "function",data:=.func (bX "<lambda>" (X.env.qual ++ "<lambda>") params body scope [(y,c)] ((X.mg "__name__").getD .none) (.ref c') ctv) }) I hP
   (λb u hb e=>aa _ (hx b u hb e)) (aa _ htb) hge hsz (aE hlt) (hrec.push _) (aI _ rfl)
  have hPc:P≠c':=aE (aD Pl hge)
  have hPf:P≠h'.objs.size:=aE (aD Pl hsz)
  have atc:(upd (upd (upd H P (.tbl (ps ++ #[rawInt pos.line,rawInt pos.col,.ref c']))) c' (cdE c' (X.env.qual ++ "<lambda>"))) h'.objs.size (fnE h'.objs.size { cls:=.type "function",data:=.func (bX "<lambda>" (X.env.qual ++ "<lambda>") params body scope [(y,c)] ((X.mg "__name__").getD .none) (.ref c') ctv) })) c'=sF (cdE c' (X.env.qual ++ "<lambda>")):=by
   rw[zo (aE hlt),zf]
  refine⟨.ref h'.objs.size,_,I1,rfl,h _ _ (I.hok.fresh hsz) ⟨c',_,ctv,atc,zf⟩ ⟨ps ++ #[rawInt pos.line,rawInt pos.col,.ref c'],?_,?_,.inr ⟨c',?_,atc⟩⟩ λb o hb e=>?_⟩
  ·rw[zo hPf,zo hPc,zf]
  ·rw[eY]
   exact uB _ ht
  ·rw[eY]
   exact codeAmong_snoc _ ht hn
  ·have hl:=I.hok.lt e
   rw[zo (aE (aD hl hsz)),zo (aE (aD hl hge)),zo hb]
   exact e
 ·refine PySem.W.kla_makeFunctionHit (mg:=X.mg) hcl I.ok.glob hg hcode (hC.keeps I.bk) hPo ht hit (Zq hB I.bk) λctv h' tk hk hsz=>?_
  have hfr:H h'.objs.size=sG:=I.hok.fresh hsz
  have I1:=I.laid (a:=h'.objs.size) (t':=tk) (h':=h'.push { cls:=.type "function",data:=.func (bX "<lambda>" (X.env.qual ++ "<lambda>") params body scope [(y,c)] ((X.mg "__name__").getD .none) (.ref c') ctv) })
   (o:=fnE h'.objs.size { cls:=.type "function",data:=.func (bX "<lambda>" (X.env.qual ++ "<lambda>") params body scope [(y,c)] ((X.mg "__name__").getD .none) (.ref c') ctv) })
   (λb u e=>aa _ (hk b u e)) hsz (Jr (aI _ rfl))
  have sm:=zd (o:=fnE h'.objs.size { cls:=.type "function",data:=.func (bX "<lambda>" (X.env.qual ++ "<lambda>") params body scope [(y,c)] ((X.mg "__name__").getD .none) (.ref c') ctv) }) hfr
  exact⟨.ref h'.objs.size,_,I1,rfl,h _ _ hfr ⟨c',_,ctv,sm _ _ hc',zf⟩ ⟨ps,sm _ _ hP,ht,.inr ⟨c',hit,sm _ _ hc'⟩⟩ λb o _ e=>sm _ _ e⟩
end
end L3
namespace L3
def zbR(R:V->Hp->Prop):List V->Hp->Prop
 | [v],H=>R v H
 | _,_=>False
theorem Vu{R:V->Hp->Prop}:∀{vs:List V} {H:Hp},zbR R vs H->∃v,vs=[v]/\R v H
 | [v],_,h=>⟨v,rfl,h⟩
def zcS(P:oP)(pos:pS)(q:oW)(LA:Hp->oP->Prop):TE:=λσ H Q=>TabOk H P pos q/\∀f H',H f=sG->LA H' f->TabOk H' P pos q->SamT P H H'->Q (.ref f) H'
def Q2{α:Type}(K:oO)(F:KeyFam α)(P:oP)(pos:pS)(q:oW)(LA:Hp->oP->Prop)(iy:Nat)(te tb:TE):TE:=λσ H Q=>te σ H λv H1=>TabOk H1 P pos q /\
 ∀f H2,H1 f=sG->LA H2 f->TabOk H2 P pos q->SamT P H1 H2->∃l xs vy,v=.ref l/\SqL K H2 l xs/\xs.length<64/\σ[iy]? = sF (sF vy)/\uC (λx H Q=>LA H f/\tb [sF x,sF vy] H Q) xs [] H2 (X1 K F xs Q)
section
variable{X:Cx}{cc P c:oP}{x p y:oW}{params:rq}{body e:oZ}{scope:pK}{lpos kpos pos pp:pS}{k iy:Nat}{te tb:TE}
theorem zbk(hcode:X.env.code=.ref cc)(hC:PySem.W.CodeHd X.base cc P)(hB:X.base.BuiltinsAt X.mg P)(hgP:oK≠P)(hcl:closureFor scope X.env=pure [(y,c)])(hdef:defaultsOf params X.env=([],[])) :
  PE X (.Lambda params body scope lpos) (zcS P lpos (X.env.qual ++ "<lambda>") λH f=>LamAt H f "<lambda>" (X.env.qual ++ "<lambda>") params body scope [(y,c)]):=by
 intro sJ s σ H Q I h
 exact Qq hcode hC hB hgP hcl hdef I h.1 h.2
theorem QJ{α:Type}{F:KeyFam α}(FO:F.Ok)(S:Kz p y scope)(hr:Room (k+3) X.A)(hg:Gl X x)(hm:X.mg x=sG)(hv:pF x=sF (.builtin "sorted"))(ha:PA X [e] (zP te vd))
  (hcode:X.env.code=.ref cc) (hC:PySem.W.CodeHd X.base cc P) (hB:X.base.BuiltinsAt X.mg P) (hgP:oK≠P) (hcl:closureFor scope X.env=pure [(y,c)]) (hdef:defaultsOf params X.env=([],[]))
  (hbind:∀(cv pm ctv u:oQ),bindArgs (bX "<lambda>" (X.env.qual ++ "<lambda>") params body scope [(y,c)] pm cv ctv) ⟨[u],[]⟩=pure [(p,u)]) (hy:X.N[iy]? = sF y) (hvis:X.env.scope.names.lookup y=sF .cell) (hc:X.env.cells.lookup y=sF c)
  (hb:∀(s:oR) (H:Hp) (f:oP) (cv:oQ),Room k (VQ X [p,y] s H (X.env.qual ++ "<lambda>") scope f cv [(y,c)]).A->PE (VQ X [p,y] s H (X.env.qual ++ "<lambda>") scope f cv [(y,c)]) body tb)
  (hn:x≠"__name__":=by decide) (hdb:(x == ("__debug__" : oW))=sI:=by decide)
  (hks:(pG pos (pf [⟨sF "key",.Lambda params body scope lpos,kpos⟩] X.env)).filterMap (·.1)=[bG "key"]:=by rfl)
  (hst:pj pos (oM [e] X.env)=(sI,eval e X.env)::pj pos (oM [] X.env):=by rfl) (hpl:(pj pos (oM [e] X.env)).any (·.1)=sI:=by rfl)
  (hall:(pG pos (pf [⟨sF "key",.Lambda params body scope lpos,kpos⟩] X.env)).all (·.1.isSome)=sH:=by rfl) (hkw:(pG pos (pf [⟨sF "key",.Lambda params body scope lpos,kpos⟩] X.env)).any (·.1.isNone)=sI:=by rfl) :
  PE X (.Call (.Name x pp) [e] [⟨sF "key",.Lambda params body scope lpos,kpos⟩] pos) (Q2 X.K F P lpos (X.env.qual ++ "<lambda>") (λH f=>LamAt H f "<lambda>" (X.env.qual ++ "<lambda>") params body scope [(y,c)]) iy te tb):=by
 intro sJ s σ H Q I h
 have hlam:PE X (.Lambda params body scope lpos) (zcS P lpos (X.env.qual ++ "<lambda>") λH f=>LamAt H f "<lambda>" (X.env.qual ++ "<lambda>") params body scope [(y,c)]):=zbk hcode hC hB hgP hcl hdef
 refine pz (vj I hg hm hv ?_ hn hdb)
 have h':(zP te vd) σ H (zbR λv H1=>TabOk H1 P lpos (X.env.qual ++ "<lambda>")/\∀f H2,H1 f=sG->LamAt H2 f "<lambda>" (X.env.qual ++ "<lambda>") params body scope [(y,c)]->TabOk H2 P lpos (X.env.qual ++ "<lambda>")->SamT P H1 H2 ->
   ∃l xs vy,v=.ref l/\SqL X.K H2 l xs/\xs.length<64/\σ[iy]? = sF (sF vy)/\uC (λx H Q=>LamAt H f "<lambda>" (X.env.qual ++ "<lambda>") params body scope [(y,c)]/\tb [sF x,sF vy] H Q) xs [] H2 (X1 X.K F xs Q)):=h
 refine callWith_kw (thn (ha pos sJ s σ H _ I h') λus s1 ⟨vs,H1,I1,r1,q1⟩=>?_) hst hpl hall hkw
 obtain⟨v,rfl,hT,q1⟩:=Vu q1
 obtain⟨u,rfl,ru⟩:=wP r1
 refine thn ((Ve hlam Je:PK X [⟨sF "key",.Lambda params body scope lpos,kpos⟩] _) pos sJ s1 σ H1 (zbR λkv H2=>∃f,kv=.ref f/\LamAt H2 f "<lambda>" (X.env.qual ++ "<lambda>") params body scope [(y,c)] /\
   ∃l xs vy,v=.ref l/\SqL X.K H2 l xs/\xs.length<64/\σ[iy]? = sF (sF vy)/\uC (λx H Q=>LamAt H f "<lambda>" (X.env.qual ++ "<lambda>") params body scope [(y,c)]/\tb [sF x,sF vy] H Q) xs [] H2 (X1 X.K F xs Q)) I1 ⟨hT,λf H2 a1 a2 a3 a4=>⟨f,rfl,a2,q1 f H2 a1 a2 a3 a4⟩⟩) λws s2 ⟨zs,H2,I2,r2,q2⟩=>?_
 obtain⟨kv,rfl,f,rfl,hLA,l,xs,vy,rfl,hS,hz,hσ,hk⟩:=Vu q2
 obtain⟨w',rfl,rw'⟩:=wP r2
 cases rw'
 cases ru
 rw[hks]
 show oS _ _ (call (.builtin "sorted") [.ref l] [(bG "key",.ref f)]) _ _ _
 refine VA FO (k:=k+1) hr (λpins' s3 H3 x3 u3 Q3 I3 r3 h3=>?_) I2 hS hz hk
 obtain⟨⟨c',pm,ctv,e1,e2⟩,h4⟩:=h3
 have hcd:s3.heap.CodeRec (.ref c') (X.env.qual ++ "<lambda>"):=(I3.hok _ _ e1).1
 have ho:=(I3.hok _ _ e2).1
 exact QH (k:=k) S hr (hbind _ _ _ _) I3 ho hcd hy hσ hvis hc r3 (hb s3 H3 f (.ref c') (hr.in1.in1.deeper _)) h4
end
end L3
namespace L3
section
variable{K:oO}
theorem SamT.of{T:oP}{H H':Hp}(s:Same H H'):SamT T H H':=λb o _ e=>s b o e
theorem SamT.trans{T:oP}{H H' H'':Hp}(s:SamT T H H')(s':SamT T H' H''):SamT T H H'':=λb o n e=>s' b o n (s b o n e)
theorem SamT.at{T b:oP}{H H':Hp}{ps:Array oQ}{o:HO}(s:SamT T H H')(hT:H T=sF (.tbl ps))(e:H b=sF o)(ho:∀qs,o≠.tbl qs):H' b=sF o:=s b o (λz=>by rw[z,hT] at e;cases e;exact ho _ rfl) e
theorem SamT.free{T b:oP}{H H':Hp}{o:HO}(s:SamT T H H')(hT:H' T=sF o)(h:H' b=sG):H b=sG:=by
 cases e:H b with
 | none=>rfl
 | some u =>
  by_cases hb:b=T
  ·rw[hb,hT] at h;cases h
  ·rw[s b u hb e] at h;cases h
theorem SamT.seqL{T a:oP}{H H':Hp}{ps:Array oQ}{xs:List V}(s:SamT T H H')(hT:H T=sF (.tbl ps))(h:SqL K H a xs):SqL K H' a xs:=by
 rcases h with (h | ⟨o,h⟩) | h
 ·exact .inl (.inl (s.at hT h λ_ z=>by cases z))
 ·exact .inl (.inr ⟨o,s.at hT h λ_ z=>by cases z⟩)
 ·exact .inr h
theorem SamT.seqT{T a:oP}{H H':Hp}{ps:Array oQ}{xs:List V}(s:SamT T H H')(hT:H T=sF (.tbl ps))(h:SqT K H a xs):SqT K H' a xs:=by
 rcases h with (h | ⟨o,h⟩) | h
 ·exact .inl (.inl (s.at hT h λ_ z=>by cases z))
 ·exact .inl (.inr ⟨o,s.at hT h λ_ z=>by cases z⟩)
 ·exact .inr h
mutual
theorem Is.samT{T:oP}{H H':Hp}{ps:Array oQ}(s:SamT T H H')(hT:H T=sF (.tbl ps)):∀(d:D) (v:V),Is K H d v->Is K H' d v
 | .non,v,h=>by simp only[Is] at h ⊢;exact h
 | .bl b,v,h=>by simp only[Is] at h ⊢;exact h
 | .int b,v,h=>by simp only[Is] at h ⊢;exact h
 | .str b,v,h=>by simp only[Is] at h ⊢;exact h
 | .lst l,v,h=>by
  simp only[Is] at h ⊢
  obtain⟨a,xs,e1,e2,e3⟩:=h
  exact⟨a,xs,e1,s.seqL hT e2,Iss.samT s hT l xs e3⟩
 | .tup l,v,h=>by
  simp only[Is] at h ⊢
  obtain⟨a,xs,e1,e2,e3⟩:=h
  exact⟨a,xs,e1,s.seqT hT e2,Iss.samT s hT l xs e3⟩
theorem Iss.samT{T:oP}{H H':Hp}{ps:Array oQ}(s:SamT T H H')(hT:H T=sF (.tbl ps)):∀(l:List D) (vs:List V),Iss K H l vs->Iss K H' l vs
 | [],vs,h=>by simp only[Iss] at h ⊢;exact h
 | d::l,vs,h=>by
  simp only[Iss] at h ⊢
  obtain⟨v,r,e1,e2,e3⟩:=h
  exact⟨v,r,e1,Is.samT s hT d v e2,Iss.samT s hT l r e3⟩
end
theorem LsA.samT{T a:oP}{H H':Hp}{ps:Array oQ}{ds:List D}(h:LsA K H a ds)(s:SamT T H H')(hT:H T=sF (.tbl ps)):LsA K H' a ds:=by
 obtain⟨xs,h1,h2⟩:=h
 exact⟨xs,s.at hT h1 (λ_ z=>by cases z),Iss.samT s hT _ _ h2⟩
theorem TabOk.same{H H':Hp}{T:oP}{pos:pS}{q:oW}(h:TabOk H T pos q)(s:Same H H'):TabOk H' T pos q:=by
 obtain⟨ps,h1,h2,h3⟩:=h
 refine⟨ps,s _ _ h1,h2,?_⟩
 rcases h3 with h3 | ⟨c',h4,h5⟩
 ·exact .inl h3
 ·exact .inr ⟨c',h4,s _ _ h5⟩
theorem LamAt.same{H H':Hp}{f:oP}{name qual:oW}{params:rq}{body:oZ}{scope:pK}{cl:List (oW × oP)}(h:LamAt H f name qual params body scope cl)(s:Same H H'):LamAt H' f name qual params body scope cl:=by
 obtain⟨c',pm,ctv,h1,h2⟩:=h
 exact⟨c',pm,ctv,s _ _ h1,s _ _ h2⟩
end
end L3
namespace L3
section
variable{P:oV}{w:oX}{K:oO}{mg mb:oW->Option oQ}{CX:CXT}{k:Nat}{fa a T cc:oP}{fd:oU}{x:oW}{sp:Sp}{s₁:oR}{vs:List oQ}{ns:List Int}{ps:Array oQ}
theorem Zx(KX:K.In s₁.heap)(hKT:K.lookup T=sG)(hT:s₁.heap.get? T=sF { cls:=.none,data:=.fields ps })(hTc:sw s₁.heap T)(hns:s₁.heap.Ns oK mg)(hb:s₁.heap.Ns builtinsNs mb)(hbb:∀x:oW,x≠"__name__"->mb x=pF x)(hlim:s₁.heap.NoLimit)(hg:s₁.gens=#[])
  (ha:s₁.heap.get? a=sF { cls:=.type "list",data:=.seq vs.toArray }) (hr:Room k callerA)
  (hbm:s₁.heap.BuiltinsAt mg T) (hcd:PySem.W.CodeHd s₁.heap cc T) (F:∀base:pb,K.In base->base.Ns oK mg->base.BuiltinsAt mg T->PySem.W.CodeHd base cc T->FnOk P w K mg base CX k fa fd [x] sp) (hbind:∀(s:oR) (u:oQ),rS s fd ⟨[u],[]⟩ [(x,u)])
  (hCX:∀H e s',CX [] H s₁ (λ_ _ _=>False) e s'->False) (H:Hp) (h1:H T=sF (.tbl ps)) (h2:∀b u,H b=sF u->b=T\/(b=a/\K.lookup a=sG/\u=.frz { cls:=.type "list",data:=.seq vs.toArray } (.lst (ns.map V.int))))
  (hok:HOk P w H s₁.heap) (hsp:sp [.ref a] H (λv _=>v=.bl sH) λ_ _ _=>False) :
  pO (model P w) callerA (.call (.ref fa) ⟨[.ref a],[]⟩) (λr s'=>r=.ok (.ret (.bool sH))/\OldK s₁.heap s'.heap/\s'.os=s₁.os/\rp s'.gens) s₁:=by
 have stay:∀b o,s₁.heap.get? b=sF o->(b≠T)->(b≠a)->(WS s₁.heap H).get? b=sF o:=λb o e n1 n2=>Y3 e (by
  cases q:H b with
  | none=>rfl
  | some u =>
   rcases h2 b u q with z | z
   ·exact absurd z n1
   ·exact absurd z.1 n2)
 have nsStay:∀(b:oP) (m:oW->Option oQ),s₁.heap.Ns b m->(WS s₁.heap H).Ns b m:=λb m hN=>by
  obtain⟨o,es,ep,e,d,rest⟩:=hN
  refine⟨o,es,ep,stay b o e (λz=>?_) (λz=>?_),d,rest⟩
  ·rw[z,hT] at e
   cases e
   cases d
  ·rw[z,ha] at e
   cases e
   cases d
 have kStay:K.In (WS s₁.heap H):=λb o e=>by
  have g:=KX b o e
  refine Y3 g ?_
  cases q:H b with
  | none=>rfl
  | some u =>
   rcases h2 b u q with z | z
   ·rw[z,hKT] at e
    cases e
   ·rw[z.1,z.2.1] at e
    cases e
 have bStay:(WS s₁.heap H).BuiltinsAt mg T:=by
  obtain⟨bm,o,b1,b2,b3,b4,b5,b6,b7,b8⟩:=hbm
  refine⟨bm,o,b1,b2,b3,b4,stay bm o b5 b4 (λz=>?_),b6,b7,b8⟩
  rw[z,ha] at b5
  cases b5
  simp at b6
 have cStay:PySem.W.CodeHd (WS s₁.heap H) cc T:=by
  obtain⟨o,vs',file,tf,flags,tg,inF,text,tt,c1,c2,c3,c4,c5,c6,c7,c8,c9,c10⟩:=hcd
  refine⟨o,vs',file,tf,flags,tg,inF,text,tt,stay cc o c1 c10 (λz=>?_),c2,c3,c4,c5,c6,c7,c8,c9,c10⟩
  rw[z,ha] at c1
  cases c1
  simp at c2
 obtain⟨mc,l1,l2⟩:=hlim
 have M0:Mod K mg (WS s₁.heap H):={ kin:=kStay,glob:=nsStay _ _ hns,blt:=⟨mb,nsStay _ _ hb,hbb⟩,nolimit:=⟨mc,nsStay _ _ l1,l2⟩ }
 have E0:Env0 P w K mg (WS s₁.heap H) callerA [] s₁ H:={ frames:=rfl,mod:=M0,bs:=λb o e=>KF e,bsz:=Nat.le_of_eq (WY _ _),funs:=trivial,frf:=λb z=>(nomatch (show b ∈ ([]:List oP) from z)),hok:=hok,bare:=.of_eq hg }
 refine pX ((F _ kStay (nsStay _ _ hns) bStay cStay).run callerA [] s₁ H ⟨[.ref a],[]⟩ [.ref a] [.ref a] (λv _=>v=.bl sH) (λ_ _ _=>False) hr E0 (hbind s₁ (.ref a)) (.cons rfl .nil) hsp) λr s' hq=>?_
 rcases r with e | fl
 ·exact (hCX H e s' hq).elim
 rcases fl with _ | _ | _ | u
 all_goals first | exact False.elim hq | skip
 obtain⟨v,H',e1,e2,un,hok',rv,ev⟩:=hq
 have ev':v=V.bl sH:=ev
 subst ev'
 have eu:u=Value.bool sH:=rv
 subst eu
 obtain⟨more,hT2⟩:=un.tbls T ps h1
 have hT3:s'.heap.get? T=sF { cls:=.none,data:=.fields (ps ++ more) }:=hok' T _ hT2
 have each:∀b o,s₁.heap.get? b=sF o->b≠T->s'.heap.get? b=sF o:=λb o e n=>by
  cases q:H b with
  | none=>exact un.keep b o e q (λz=>(nomatch (show b ∈ ([]:List oP) from z))) (λz=>(nomatch z))
  | some ob =>
   rcases h2 b ob q with z | ⟨z,_,zz⟩
   ·exact absurd z n
   ·subst zz
    have g:=(hok' b _ (un.frzs b _ _ q)).1
    rw[z,ha] at e
    cases e
    exact g
 refine⟨rfl,⟨λb o e=>?_,λb o e=>?_⟩,e1,e2⟩
 ·by_cases hbT:b=T
  ·subst hbT
   rw[hT] at e
   cases e
   exact .inr (.inl ⟨hTc,rfl,ps,more,rfl,hT3⟩)
  ·exact .inl (each b o e hbT)
 ·by_cases hbT:b=T
  ·subst hbT
   exact⟨_,hT3⟩
  ·exact⟨o,each b o e hbT⟩
theorem Uu(KX:K.In s₁.heap)(hKT:K.lookup T=sG)(hT:s₁.heap.get? T=sF { cls:=.none,data:=.fields ps })(hTc:sw s₁.heap T)(hns:s₁.heap.Ns oK mg)(hb:s₁.heap.Ns builtinsNs mb)(hbb:∀x:oW,x≠"__name__"->mb x=pF x)(hlim:s₁.heap.NoLimit)(hg:s₁.gens=#[])
  (ha:s₁.heap.get? a=sF { cls:=.type "list",data:=.seq vs.toArray }) (hi:so vs ns) (hl:ns.length<=oN) (hr:Room k callerA)
  (hbm:s₁.heap.BuiltinsAt mg T) (hcd:PySem.W.CodeHd s₁.heap cc T) (F:∀base:pb,K.In base->base.Ns oK mg->base.BuiltinsAt mg T->PySem.W.CodeHd base cc T->FnOk P w K mg base CX k fa fd [x] sp) (hbind:∀(s:oR) (u:oQ),rS s fd ⟨[u],[]⟩ [(x,u)])
  (hCX:∀H e s',CX [] H s₁ (λ_ _ _=>False) e s'->False) (hsp:∀H:Hp,H T=sF (.tbl ps)->SqL K H a (ns.map V.int)->sp [.ref a] H (λv _=>v=.bl sH) λ_ _ _=>False) :
  pO (model P w) callerA (.call (.ref fa) ⟨[.ref a],[]⟩) (λr s'=>r=.ok (.ret (.bool sH))/\OldK s₁.heap s'.heap/\s'.os=s₁.os/\rp s'.gens) s₁:=by
 have rv:=Zn hi
 have hlv:=hi.length
 have hTa:a≠T:=λz=>by
  rw[z,hT] at ha
  cases ha
 rcases hk:K.lookup a with _ | o
 ·refine Zx (ns:=ns) KX hKT hT hTc hns hb hbb hlim hg ha hr hbm hcd F hbind hCX (upd (upd (λ_=>sG) T (.tbl ps)) a (.frz { cls:=.type "list",data:=.seq vs.toArray } (.lst (ns.map V.int)))) ?_ (λb u e=>?_) (λb u e=>?_) ?_
  ·rw[zo (Ne.symm hTa),zf]
  ·by_cases hba:b=a
   ·subst hba
    rw[zf] at e
    cases e
    exact .inr ⟨rfl,hk,rfl⟩
   ·rw[zo hba] at e
    by_cases hbT:b=T
    ·exact .inl hbT
    ·rw[zo hbT] at e
     cases e
  ·by_cases hba:b=a
   ·subst hba
    rw[zf] at e
    cases e
    exact⟨ha,by rw[ae];exact hl,vs,_,rv,ha⟩
   ·rw[zo hba] at e
    by_cases hbT:b=T
    ·subst hbT
     rw[zf] at e
     cases e
     exact hT
    ·rw[zo hbT] at e
     cases e
  ·exact hsp _ (by rw[zo (Ne.symm hTa),zf]) (.inl (.inr ⟨_,zf⟩))
 ·have e:=KX a o hk
  rw[ha] at e
  cases e
  refine Zx (ns:=ns) KX hKT hT hTc hns hb hbb hlim hg ha hr hbm hcd F hbind hCX (upd (λ_=>sG) T (.tbl ps)) zf (λb u e=>?_) (λb u e=>?_) (hsp _ zf (.inr ⟨_,vs.toArray,_,hk,rfl,rfl,rfl,by rw[ao,hlv];exact hl,by simpa using rv⟩))
  ·by_cases hbT:b=T
   ·exact .inl hbT
   ·rw[zo hbT] at e
    cases e
  ·by_cases hbT:b=T
   ·subst hbT
    rw[zf] at e
    cases e
    exact hT
   ·rw[zo hbT] at e
    cases e
end
noncomputable def J7(K:oO):Bool:=K.all λp=>match p.2 with
 | ⟨.none,_,.fields _,_⟩=>sI
 | _=>sH
theorem Xh{T:oP}{o:pD}:∀{K:oO},K.lookup T=sF o->(T,o) ∈ K
 | [],h=>by cases h
 | p::K,h=>by
  rw[aW] at h
  by_cases hp:T=p.1
  ·rw[show (T == p.1)=sH by simpa using hp] at h
   cases h
   rw[hp]
   exact az
  ·rw[show (T == p.1)=sI by simpa using hp] at h
   exact aw _ (Xh h)
theorem QQ{K:oO}{T:oP}{ps:Array oQ}{h:pb}(e:J7 K=sH)(X:K.In h)(hT:h.get? T=sF { cls:=.none,data:=.fields ps }):K.lookup T=sG:=by
 cases q:K.lookup T with
 | none=>rfl
 | some o =>
  have g:=X _ _ q
  rw[hT] at g
  cases g
  have:=List.all_eq_true.mp e _ (Xh q)
  simp at this
theorem walk_ofT{l:PySem.W.OpenLaw}{n k:Nat}{q:oV}{loose:List oW}{XP:(oW->Option oQ)->pb->Prop}{YP:oX->pb->Prop}{d din:DefRec}{K:Params->oO}{CX:oX->CXT}{sp:oX->oP->Sp}{x:oW}
  (hn:l.most=sF n) (hn2:n<=oN) (hdf:d.params.defaults=[]) (hr:Room k callerA) (hdin:din ∈ recsOf q)
  (hY:∀(w:oX) (h:pb),YP w h->(K w.params).In h) (hno:∀w:oX,J7 (K w.params)=sH)
  (F:∀(w:oX) (mg:oW->Option oQ) (fa:oP) (h:pb) (cc T:oP),(K w.params).In h->h.Ns oK mg->mg d.name=sF (.ref fa)->(∃a o fd,mg din.name=sF (.ref a)/\h.get? a=sF o/\o.data=.func fd/\fd.code=.ref cc)->oK≠T ->
   ∃fd:oU,(∀(s:oR) (u:oQ),rS s fd ⟨[u],[]⟩ [(x,u)]) /\
    ∀base:pb,(K w.params).In base->base.Ns oK mg->base.BuiltinsAt mg T->PySem.W.CodeHd base cc T->FnOk l.prog w (K w.params) mg base (CX w) k fa fd [x] (sp w T))
  (hsp:∀(w:oX) (H:Hp) (a:oP) (ns:List Int) (T:oP),ns.length<=n->(∀z ∈ ns,uq z)->H T=sF (.tbl #[])->SqL (K w.params) H a (ns.map V.int)->sp w T [.ref a] H (λv _=>v=.bl sH) λ_ _ _=>False)
  (hCX:∀(w:oX) (H:Hp) (s:oR) (e:oQ) (s':oR),CX w [] H s (λ_ _ _=>False) e s'->False) :
  PySem.W.WalkO q loose XP YP l.row.toRowW d [] (λf vs=>fw f vs):=by
 refine ZK hn hdf λw s₀ s₁ mg mb fa o pm cd doc a vs ns G Y ho hd hcd hmg hobj hints hlen hb' hg=>?_
 have X0:=hY w _ Y
 obtain⟨ai,oi,fdi,cc,T,m1,m2,m3,m4,m5,m6⟩:=G.T.tab din hdin
 have hcd':PySem.W.CodeHd s₁.heap cc T:=PySem.W.CodeHd.of m5 m6
 have hTo:s₁.heap.get? T=sF { cls:=.none,data:=.fields #[] }:=m6.2
 have hTc:sw s₁.heap T:=m6.isCodeTable
 have hgT:oK≠T:=λz=>by
  obtain⟨o,es,ep,e,hd',_⟩:=G.T.g
  rw[z,hTo] at e
  cases e
  cases hd'
 have hbm:s₁.heap.BuiltinsAt mg T:=by
  obtain⟨bm,ob,b1,b2,b3,b4,b5,b6⟩:=G.T.bmain
  refine⟨bm,ob,b1,b2,λz=>?_,λz=>?_,b3,b4,b5,b6⟩
  ·obtain⟨o,es,ep,e,hd',_⟩:=G.T.g
   rw[z,e] at b3
   cases b3
   rw[hd'] at b6
   cases b6
  ·rw[z,hTo] at b3
   cases b3
   cases b4
 obtain⟨fd,hbd,hF⟩:=F w mg fa _ cc T X0 G.T.g hmg ⟨ai,oi,fdi,m1,m2,m3,m4⟩ hgT
 exact Uu (T:=T) (ps:=#[]) X0 (QQ (hno w) X0 hTo) hTo hTc G.T.g G.T.b G.T.builtins G.T.nolimit hg hobj hints (aO hlen hn2) hr hbm hcd' hF hbd (λH e s'=>hCX w H s₁ e s') λH h1 h2=>hsp w H a ns T hlen hb' h1 h2
theorem KB{P:oV}{w:oX}{K:oO}{mg:oW->Option oQ}{base:pb}{x qual:oW}{st:pc}{f cc:oP}{fd:oU}{N ps:List oW}{k:Nat}{sp:Sp}(F:Fun K x qual st f fd)(hcc:fd.code=.ref cc)(S:zq N ps (zb st))(len:∀vs H Q E,sp vs H Q E->vs.length=ps.length)
  (hbody:∀(A:oY) (outer:List rL) (s:oR) (H:Hp) (vs:List V) (Q:VK) (E:XK),Room k (A.deeper (rn qual (zb st) s.heap.objs.size f (.ref cc)))->sp vs H Q E ->
   ∃t,PSs (qc CX0 P w K mg base N qual (zb st) f (.ref cc) A outer s H E).nox (zk st) t/\t { nx:=λ_ H'=>Q .non H',rt:=Q } (start N vs) H):FnOk P w K mg base CX0 (k+1) f fd ps sp:=by
 obtain⟨oc,od,kV,doc,pm,an,cdv,ct,osl,rfl,lk,hcd⟩:=F.ex
 have e:cdv=.ref cc:=hcc
 subst e
 refine Qm lk hcd S len λA outer s H vs Q E hr hsp=>?_
 obtain⟨t,h,q⟩:=hbody A outer s H vs Q E hr hsp
 exact⟨t,h.nox,q⟩
end L3
namespace PySem
namespace F
end F
section
variable{prog:oV}{w:oX}{A:oY}{E:oQ->oR->Prop}{s:oR}
def Heap.IsRevS(h:pb)(a:oP)(x:oW)(t:rD)(i:Int):Prop:=∃o,h.get? a=sF o/\o.cls=.type "reversed"/\o.data=.fields #[.str x t,rawInt i]
theorem Heap.IsRevS.typeIs{a:oP}{x:oW}{t:rD}{i:Int}(z:s.heap.IsRevS a x t i):s.TypeIs (.ref a) "reversed":=let ⟨o,ho,hc,_⟩:=z; ⟨o,ho,hc⟩
theorem Heap.IsRevS.at{h h':pb}{a:oP}{x:oW}{t:rD}{i:Int}(z:h.IsRevS a x t i)(e:∀o,h.get? a=sF o->h'.get? a=sF o):h'.IsRevS a x t i:=let ⟨o,ho,r⟩:=z; ⟨o,e _ ho,r⟩
end
section
variable{prog:oV}{w:oX}{A:oY}{E:oQ->oR->Prop}{s:oR}
end
end PySem
namespace L3
section
variable{X:Cx}{o a:oZ}{to:TE}{ta:TA}{apos cpos p pos2:pS}
end
end L3
namespace L2
section
variable{X:Cx}{tg:oZ}
end
end L2
namespace L3
open PySem L2
section
variable{g:TG}{tt:TT}{te:TE}{own:Nat}{ix:List Nat}{σ:L2.St}{H1:Hp}{Q:VK}{D:oP}
end
end L3
namespace L3
open PySem.AutoSeq1 (wpAny_loadPart')
open MeetsSeq MeetsSeq2 MeetsSeq3 SeqRoads2 SeqAt
section
variable{X:Cx}{sJ:List (oP × pD)}{σ:St}{H:Hp}{s:oR}
end
end L3
namespace L3
section
variable{prog:oV}{w:oX}{A:oY}{R:rR->oR->Prop}{I:oP}{fp wr:List oP}{G:Array sq->Array sq->Prop}{n:Nat}{P:Nat->oQ->Prop}{St:Nat->oR->Prop}
end
section
variable{prog:oV}{w:oX}{A:oY}{E:oQ->oR->Prop}{s:oR}
end
end L3
namespace L3
section
variable{X:Cx}
end
end L3
namespace L3
section
variable{g:TG}{tt:TT}{te:TE}{own:Nat}{ix:List Nat}{σ:L2.St}{H1:Hp}{Q:VK}{D:oP}
end
end L3
namespace L3
theorem Xg{α:Type}[DecidableEq α](k:α)(v:oQ)(x:α):∀kvs:List (α × oQ),(kvs.map λkv=>if kv.1=k then (kv.1,v) else kv).find? (λkv=>kv.1=x)=(kvs.find? λkv=>kv.1=x).map λkv=>if kv.1=k then (kv.1,v) else kv
 | []=>rfl
 | p::kvs=>by
  have e:(if p.1=k then (p.1,v) else p).1=p.1:=by split <;> rfl
  rw[aC,List.find?_cons,List.find?_cons,Xg k v x kvs]
  simp only[e]
  by_cases h:p.1=x
  ·simp [h]
  ·simp [h]
theorem XQ{α:Type}[DecidableEq α](kvs:List (α × oQ))(k:α)(v:oQ)(x:α):valueAt (stored kvs k v) x=if x=k then sF v else valueAt kvs x:=by
 unfold stored valueAt
 split
 ·rename_i h
  rw[Xg]
  by_cases e:x=k
  ·subst e
   rw[if_pos rfl]
   obtain⟨p,hp,hk⟩:=List.any_eq_true.mp h
   cases hf:kvs.find? λkv=>kv.1=x with
   | none =>
    have:=List.find?_eq_none.mp hf p hp
    exact absurd hk this
   | some q =>
    have hq:=dz hf
    have hq':q.1=x:=by simpa using hq
    simp [hq']
  ·rw[if_neg e]
   cases hf:kvs.find? λkv=>kv.1=x with
   | none=>rfl
   | some q =>
    have hq:=dz hf
    have hq':q.1=x:=by simpa using hq
    have:¬ q.1=k:=λz=>e (hq'.symm.trans z)
    simp [this]
 ·rename_i h
  rw[List.find?_append]
  by_cases e:x=k
  ·subst e
   rw[if_pos rfl]
   have:kvs.find? (λkv=>kv.1=x)=sG:=by
    rw[List.find?_eq_none]
    intro p hp hk
    exact h (List.any_eq_true.mpr ⟨p,hp,hk⟩)
   rw[this]
   simp
  ·have e':¬ k=x:=λz=>e z.symm
   rw[if_neg e]
   simp [e']
section
variable{X:Cx}{pos:pS}
end
end L3
namespace L3
noncomputable def jn(P:oV)(w:oX)(a:oP)(m:oW->Option V)(n:Nat):HO:=.ext λh=>(a == sysModules)=sI/\∃kvs:List (oW × oQ),h.DictOf (cU P w) a kvs/\kvs.length<=n/\∀k,RelO (m k) (valueAt kvs k)
theorem Vw{P:oV}{w:oX}{H:Hp}{h:pb}{a:oP}{m:oW->Option V}{n:Nat}{kvs:List (oW × oQ)}(hs:(a == sysModules)=sI)(d:h.DictOf (cU P w) a kvs)(hl:kvs.length<=n)(r:∀k,RelO (m k) (valueAt kvs k)):ObjOk P w H h a (jn P w a m n) :=
 ⟨⟨hs,kvs,d,hl,r⟩,(let ⟨o,es,ep,ho,_⟩:=d; ⟨o,ho⟩),λh1 h2 ⟨hs,kvs,⟨o,es,ep,ho,rest⟩,z⟩ k=>⟨hs,kvs,⟨o,es,ep,k _ ho,rest⟩,z⟩⟩
section
variable{X:Cx}{pos:pS}
theorem Inv.beyond{sJ:List (oP × pD)}{σ:L2.St}{H:Hp}{s:oR}(I:Inv X sJ σ H s):(s.heap.objs.size == sysModules)=sI:=by
 obtain⟨o,es,ep,e,_⟩:=I.ok.mod.glob
 have h1:=ay e
 have h2:=I.ok.bsz
 have h3:=I.sz
 have h4:1<=oK:=by decide
 have h5:1<s.heap.objs.size:=aD (cp h4 h1) (aO h2 h3)
 rw[beq_eq_false_iff_ne]
 intro z
 exact cb h5 z
def zan(P:oV)(w:oX):TE:=λ_ H Q=>∀p,H p=sG->Q (.ref p) (upd H p (jn P w p (λ_=>sG) 0))
theorem Kb:PE X (.Dict [] [] pos) (zan X.prog X.w):=λsJ s σ H Q I h =>
 wpAny_Dict_empty ⟨.ref s.heap.objs.size,_,I.laid (a:=s.heap.objs.size) (t':=s.toks) (λ_ _ q=>aa _ q) (au _) (Vw (m:=λ_=>sG) (Inv.beyond I) (Heap.DictOf.new s.heap) (au _) λ_=>trivial),rfl,h _ (I.hok.fresh (au _))⟩
theorem Inv.tdic{sJ:List (oP × pD)}{σ:L2.St}{H:Hp}{s:oR}{a:oP}{m:oW->Option V}{n:Nat}(I:Inv X sJ σ H s)(h:H a=sF (jn X.prog X.w a m n)):(a == sysModules)=sI/\∃kvs:List (oW × oQ),s.heap.DictOf (cU X.prog X.w) a kvs/\kvs.length<=n/\∀k,RelO (m k) (valueAt kvs k):=(I.hok _ _ h).1
def zbC(P:oV)(w:oX):R2:=λx y H Q=>∃a m n k v,x=.ref a/\y=.str k/\H a=sF (jn P w a m n)/\m k=sF v/\Q v H
theorem JR:IxR X (zbC X.prog X.w):=by
 intro value slice sJ s σ H x y v u Q I rx ry h hs
 obtain⟨a,m,n,k,z,rfl,rfl,ha,hk,q⟩:=h
 cases rx
 obtain⟨t,rfl⟩:=ry
 obtain⟨_,kvs,dd,hl,r⟩:=Inv.tdic I ha
 obtain⟨w',hw,rw'⟩:=RelO.some_of (v:=z) (o:=valueAt kvs k) (by rw[<- hk];exact r k)
 exact tail_any dd.typeIs slot_dict_getitem.lookup (wpAny_getItem_of (knd:=cU X.prog X.w) (strKind_is _ _ _ _) dd.mapOf hw ⟨z,H,I.tok _,rw',q⟩) hs
def za8(P:oV)(w:oX):V->V->V->Hp->(Hp->Prop)->Prop:=λo i v H Q=>∃a m n k,o=.ref a/\i=.str k/\H a=sF (jn P w a m n)/\n<=100000/\Q (upd H a (jn P w a (λx=>if x=k then sF v else m x) (n+1)))
theorem QS:zcT X (za8 X.prog X.w):=by
 intro sJ s σ H o i v ov iv u Q I ro ri rv h
 obtain⟨a,m,n,k,rfl,rfl,ha,hn,q⟩:=h
 cases ro
 obtain⟨t,rfl⟩:=ri
 obtain⟨hsm,kvs,dd,hl,r⟩:=Inv.tdic I ha
 have s16:=ym
 refine wpAny_setItem_pairs (knd:=cU X.prog X.w) (hsz:=by lia) (strKind_is _ _ _ _) dd λh' dd' hs=>⟨_,?_,q⟩
 have he:∃q,h'.get? a=sF q:=let ⟨q,_,_,hq,_⟩:=dd'; ⟨q,hq⟩
 refine I.write (x:=a) (e:=a) (by rw[ha];exact True.intro) (.inl rfl) (λb q hb z=>(hs.2 b hb).trans z) he (Vw hsm dd' (aO (stored_length_le _ _ _) (by lia)) λx=>?_)
 rw[XQ]
 by_cases e:x=k
 ·rw[if_pos e,if_pos e]
  exact rv
 ·rw[if_neg e,if_neg e]
  exact r x
def zbg(P:oV)(w:oX):R2:=λx y H Q=>∃a m n k,x=.str k/\y=.ref a/\H a=sF (jn P w a m n)/\Q (.bl (m k).isNone) H
theorem Qx:OpR X (ph .NotIn) (zbg X.prog X.w):=by
 intro sJ s σ H x y v u Q I rx ry h
 obtain⟨a,m,n,k,rfl,rfl,ha,q⟩:=h
 obtain⟨t,rfl⟩:=rx
 cases ry
 obtain⟨hsm,kvs,dd,hl,r⟩:=Inv.tdic I ha
 refine wpAny_notIn_of (knd:=cU X.prog X.w) (strKind_is _ _ _ _) hsm dd.mapOf ?_
 have e:(!(valueAt kvs k).isSome)=(m k).isNone:=by
  have:=r k
  cases hm:m k with
  | none =>
   cases hv:valueAt kvs k with
   | none=>rfl
   | some z=>rw[hm,hv] at this;exact this.elim
  | some z0 =>
   cases hv:valueAt kvs k with
   | none=>rw[hm,hv] at this;exact this.elim
   | some z=>rfl
 rw[e]
 exact⟨.bl _,H,I.tok _,rfl,q⟩
end
end L3
namespace L3
section
variable{X:Cx}{scope:pK}{own caps:List oW}{ix:List Nat}{elt tg iter:oZ}{ifs:List oZ}{pos:pS}{wi:TI}{g:TG}{tt:TT}{te:TE}
theorem Zl{EX:XK}(hc:X.calm=sH)(S:qQ X scope own caps ix)
  (hg:∀cl C sJ s3 H3 fp,PG (yh X scope cl C (own ++ caps) sJ s3 H3 fp λ_ _=>False) tg g)
  (ht:∀cl C sJ s3 H3 fp xe,XE (yh X scope cl C (own ++ caps) sJ s3 H3 fp xe) EX->PTs (yh X scope cl C (own ++ caps) sJ s3 H3 fp xe) ifs tt)
  (hst:X.stack=X.env::X.outer/\X.env.frame=sF X.env.locals) (hxe:XE X EX) (he:∀cl C sJ s3 H3 fp xe,XE (yh X scope cl C (own ++ caps) sJ s3 H3 fp xe) EX->PE (yh X scope cl C (own ++ caps) sJ s3 H3 fp xe) elt te)
  {cl:List (oW × oP)} (hc1:∀y c,cl.lookup y=sF c->X.env.cells.lookup y=sF c) (hc2:∀y,(y,NameKind.free) ∈ scope.names->∃c,cl.lookup y=sF c)
  {sJ:List (oP × pD)} {σ:St} {H2:Hp} {s2:oR} {Q:VK} {it:oP} {fp:List oP} {tn:Nat->pb->Prop} {J:It} (I2:Inv X sJ σ H2 s2) (T:Uz X.prog X.w X.K tg J fp it tn) (st2:tn 0 s2.heap) (f2:∀b ∈ fp,xW X sJ H2 b)
  (q:∀D,H2 D=sG->∃W:Nat->Nat->List V->Hp->Prop,(∃m,W 0 m [] (upd H2 D (.lst []))) /\
   ∀i m sL H',W i m sL H'->(J.stop i H'/\Q (.ref D) H')\/(J.go i H'/\∀x H2,J.yld i H' x H2->g x (vo σ own.length ix) H2 λσ3 H3=>xt (vo σ own.length ix) σ3/\tt σ3 H3 λb H4=>if b=sH then
    te σ3 H4 λv H5=>H5 D=sF (.lst sL)/\sL.length<oN/\∃m',m'<m/\W (i+1) m' (sL ++ [v]) (upd H5 D (.lst (sL ++ [v])))
    else ∃m',m'<m/\W (i+1) m' sL H4))
  {RR:oQ->oP->rR->oR->Prop} {E:oQ->oR->Prop}
  (hRR:∀D C m s' H',H2 D=sG->s'.heap.Ns C m->xW X sJ H' C->Inv X sJ σ H' s'->Q (.ref D) H'->RR (.ref D) C (.ok .next) s')
  (hRE:∀D C m s' x,s'.heap.Ns C m->(∀h',Heap.SameBut C s'.heap h'->∀cenv:rL,cenv.locals=C->oS (model X.prog X.w) X.A (e8 "comprehension.variables-let-go" x cenv:sx oQ) (λ_ _=>False) X.xe { s' with heap:=h' })->RR (.ref D) C (.error x) s') :
  oS (model X.prog X.w) X.A (newList []) (λsL s3=>oS (model X.prog X.w) X.A (newFunctionEnv scope X.env.globals cl [] X.env.qual sG .none (sF X.env)) (λcenv s4 =>
   pO (model X.prog X.w) X.A (.compStart (.ListComp elt [⟨tg,iter,ifs,0⟩] scope pos) 0 (.ref it) sL { cenv with scope:=relabel scope X.env }) (RR sL cenv.locals) s4) E s3) E s2:=by
 have hD:H2 s2.heap.objs.size=sG:=I2.hok.fresh (au _)
 obtain⟨W,⟨m0,w0⟩,turn⟩:=q _ hD
 refine rB (rh S.nocell (by intro y hy;simp at hy) (λh1 hns1 hsb1=>?_) S.kind)
 dsimp only at hns1 hsb1 ⊢
 have I3:Inv X sJ σ (upd H2 s2.heap.objs.size (.lst [])) { s2 with heap:=s2.heap.push { cls:=.type "list",dict:=sG,data:=.seq ([]:List oQ).toArray } } :=
  I2.lnew (its:=[]) (t':=s2.toks) .nil (aJ _)
 generalize hs3:({ s2 with heap:=s2.heap.push { cls:=.type "list",dict:=sG,data:=.seq ([]:List oQ).toArray } }:oR)=s3 at I3
 have e3:s2.heap.push { cls:=.type "list",dict:=sG,data:=.seq ([]:List oQ).toArray }=s3.heap:=by rw[<- hs3]
 rw[e3] at hns1 hsb1 ⊢
 have k1:∀b o,s3.heap.get? b=sF o->h1.get? b=sF o:=λb o e=>(hsb1.2 b (aE (ay e))).trans (aa _ e)
 have k23:∀b o,s2.heap.get? b=sF o->s3.heap.get? b=sF o:=λb o e=>by rw[<- e3];exact aa _ e
 have hz:s3.heap.objs.size=s2.heap.objs.size+1:=by rw[<- e3,bH]
 have fpObj:∀b ∈ fp,∃o,s2.heap.get? b=sF o:=λb hb=>let ⟨o,e,_⟩:=T.obj 0 _ st2 b hb; ⟨o,e⟩
 have fplt:∀b ∈ fp,b<s2.heap.objs.size:=λb hb=>let ⟨o,e⟩:=fpObj b hb;ay e
 have f3:∀b ∈ fp,xW X sJ (upd H2 s2.heap.objs.size (.lst [])) b:=λb hb=>⟨by rw[zo (aE (fplt b hb))];exact (f2 b hb).1,(f2 b hb).2⟩
 have I4:Inv (yh X scope cl s3.heap.objs.size (own ++ caps) sJ s3 (upd H2 s2.heap.objs.size (.lst [])) fp λ_ _=>False) [] (vo σ own.length ix) (upd H2 s2.heap.objs.size (.lst [])) { s3 with heap:=h1,toks:=s3.toks+([]:List (oW × oQ)).length } :=
  jH S hc1 hc2 I3 f3 (λb hb=>by rw[hz];exact ci (fplt b hb)) hns1 k1
 have st4:tn 0 h1:=T.keep 0 _ _ st2 λb hb o e=>k1 b o (k23 b o e)
 generalize hs4:({ s3 with heap:=h1,toks:=s3.toks+([]:List (oW × oQ)).length }:oR)=s4 at I4
 have es4:({ s2 with heap:=h1,toks:=s2.toks+([]:List (oW × oQ)).length }:oR)=s4:=by rw[<- hs4,<- hs3]
 have e4:h1=s4.heap:=by rw[<- hs4]
 have loop:pO (model X.prog X.w) X.A (.compLoop (.ListComp elt [⟨tg,iter,ifs,0⟩] scope pos) 0 (.ref it) (.ref s2.heap.objs.size) (compEnvC scope cl s3.heap.objs.size X.env)) (RR (.ref s2.heap.objs.size) s3.heap.objs.size) s4:=by
  let X':=yh X scope cl s3.heap.objs.size (own ++ caps) sJ s3 (upd H2 s2.heap.objs.size (.lst [])) fp λ_ _=>False
  have fp':∀{H':Hp},(∀b ∈ fp,H' b=sG)->∀b ∈ fp,xW X' [] H' b:=λ{H'} hn b hb=>by
   obtain⟨_,a1,a2,a3,a4,a5⟩:=f3 b hb
   refine⟨hn b hb,aE (show b<s3.heap.objs.size from by rw[hz];exact ci (fplt b hb)),λz=>?_,.inl hb,λx c e=>a4 x c (hc1 x c e),λp hp=>?_⟩
   ·rcases List.mem_cons.mp (I3.stkSub b z) with e | e
    ·exact a1 e
    ·exact a2 e
   ·have:p ∈ (X.pn ++ sJ) ++ []:=hp
    rw[aS] at this
    exact a5 p this
  refine ZN (λn s'=>∃i sL H',Inv X' [] (vo σ own.length ix) H' s'/\tn i s'.heap/\(∀b ∈ fp,H' b=sG)/\W i n sL H') rfl ?_ m0 ⟨0,[],_,I4,by rw[<- e4];exact st4,λb hb=>(f3 b hb).1,w0⟩
  rintro n s5 ⟨i,sL,H5,I5,st5,fr5,w5⟩
  refine pC ?_
  rcases turn i n sL H5 w5 with ⟨stop,qn⟩ | ⟨go,step⟩
  ·refine thn (T.done X' rfl rfl rfl hc i [] s5 _ H5 _ I5 (fp' fr5) st5 stop) λr s6 ⟨hr,I6⟩=>?_
   subst hr
   obtain⟨m,hm,_⟩:=I6.loc
   refine hRR _ _ m s6 H5 hD hm (I3.fpOk (au _) I6.free) (I3.call' (s':=s6) I6.os I6.base I6.hok I6.bare λb hb=>?_) qn
   obtain⟨_,a1,a2,a3,a4,a5⟩:=f3 b hb
   exact⟨a3,a1,a4,a5⟩
  ·refine thn (T.item X' rfl rfl rfl hc i [] s5 _ H5 (λ_ _=>False) I5 (fp' fr5) st5 go) λr s6 ⟨u,hr,h6⟩=>?_
   subst hr
   refine pC (thn h6 λ_ s7 ⟨x,H7,I7,r7,y7,st7,fr7⟩=>?_)
   have I7':=I7.pinned (fp' fr7) (T.obj _ _ st7)
   refine pC (thn (hg _ _ _ _ _ _ _ s7 _ H7 x u _ I7' r7 (step x H7 y7)) λ_ s8 ⟨σ8,H8,I8,ks,q8⟩=>?_)
   refine thn (ht cl _ sJ s3 (upd H2 s2.heap.objs.size (.lst [])) fp _ (λe s hfl=>Wy (RE:=λe s'=>RR (.ref s2.heap.objs.size) s3.heap.objs.size (.error e) s') hst hxe hc1 I3 f3 hfl λm s' x a b=>hRE _ _ m s' x a b) _ s8 σ8 H8 _ (I8.wish _) q8) λb s9 ⟨H9,I9',q9⟩=>?_
   have I9:=Inv.unwish (X:=X') I9'
   have back:∀{s':oR} {H':Hp} {acc':List V} {m':Nat},Inv X' ([] ++ jx fp s7.heap) σ8 H' s'->m'<n->W (i+1) m' acc' H'->∃m,m<n/\∃i sL H',Inv X' [] (vo σ own.length ix) H' s'/\tn i s'.heap/\(∀b ∈ fp,H' b=sG)/\W i m sL H':=λ{s' H' acc' m'} J' hm w'=>by
    refine⟨m',hm,i+1,acc',H',(J'.unpinned).weak ks.1 ks.2,T.keep _ _ _ st7 λb hb o e=>(J'.pin (b,o) (aA _ (aA _ (xD hb e)))).1,λb hb=>?_,w'⟩
    obtain⟨o,e,d⟩:=T.obj _ _ st7 b hb
    exact (J'.pin (b,o) (aA _ (aA _ (xD hb e)))).2.1
   cases b with
   | false =>
    rw[if_neg aF] at q9 ⊢
    obtain⟨m',hm,w'⟩:=q9
    exact back I9 hm w'
   | true =>
    rw[if_pos rfl] at q9 ⊢
    refine thn (he cl _ sJ s3 (upd H2 s2.heap.objs.size (.lst [])) fp _ (λe s hfl=>Wy (RE:=λe s'=>RR (.ref s2.heap.objs.size) s3.heap.objs.size (.error e) s') hst hxe hc1 I3 f3 hfl λm s' x a b=>hRE _ _ m s' x a b) _ s9 σ8 H9 _ (I9.wish _) q9) λv s10 ⟨y,H10,I10',r10,hD10,hsz,m',hm,w'⟩=>?_
    have I10:=Inv.unwish (X:=X') I10'
    refine pC ?_
    have:=yU (X:=X') _ s10 σ8 H10 (.ref s2.heap.objs.size) [y] (.ref s2.heap.objs.size) [v] (λ_ H'=>H'=upd H10 s2.heap.objs.size (.lst (sL ++ [y]))) I10 rfl (.cons r10 .nil) ⟨_,sL,y,rfl,rfl,hD10,hsz,rfl⟩
    refine thn this λ_ s11 ⟨_,H11,I11,_,eH⟩=>?_
    subst eH
    exact back I11 hm w'
 have goal:pO (model X.prog X.w) X.A (.compStart (.ListComp elt [⟨tg,iter,ifs,0⟩] scope pos) 0 (.ref it) (.ref s2.heap.objs.size) (compEnvC scope cl s3.heap.objs.size X.env)) (RR (.ref s2.heap.objs.size) s3.heap.objs.size) s4 :=
  rJ loop (T.self _ 0 s4 _ _ (by rw[<- e4];exact st4) loop)
 rw[<- es4] at goal
 exact goal
theorem VJ{EX:XK}(hc:X.calm=sH)(S:qQ X scope own caps ix)(hst:X.stack=X.env::X.outer/\X.env.frame=sF X.env.locals)(hxe:XE X EX)(hi:PI X tg iter wi)
  (hg:∀cl C sJ s3 H3 fp,PG (yh X scope cl C (own ++ caps) sJ s3 H3 fp λ_ _=>False) tg g)
  (ht:∀cl C sJ s3 H3 fp xe,XE (yh X scope cl C (own ++ caps) sJ s3 H3 fp xe) EX->PTs (yh X scope cl C (own ++ caps) sJ s3 H3 fp xe) ifs tt)
  (he:∀cl C sJ s3 H3 fp xe,XE (yh X scope cl C (own ++ caps) sJ s3 H3 fp xe) EX->PE (yh X scope cl C (own ++ caps) sJ s3 H3 fp xe) elt te)
  (hs:∀x,foldedSetIterable iter X.env x=pure x:=by intro _;rfl) :
  PE X (.ListComp elt [⟨tg,iter,ifs,0⟩] scope pos) (kB wi g tt te own.length ix):=by
 intro sJ s σ H Q I h
 obtain⟨cl,hclos,hc1,hc2⟩:=ww (scope:=scope) (env:=X.env) λy hy=>I.ok.has y (.inl (S.free y hy))
 rw[eval_ListComp]
 refine pZ (use:=sG) rfl hs hclos S.kind S.names (thn (hi sJ s σ H _ I h) λv s1 h1=>thn h1 λitv s2 h2=>?_)
 obtain⟨it,fp,tn,J,H2,e,I2,T,st2,f2,q⟩:=h2
 subst e
 refine Zl (RR:=λsL C=>compPost (model X.prog X.w) X.A X.xe sG (EP X sJ σ Q) sL C) hc S hg ht hst hxe he hc1 hc2 I2 T st2 f2 q ?_ ?_
 ·intro D C m s' H' _ hn fc I' qn
  obtain⟨a0,a1,a2,a3,a4,a5⟩:=fc
  exact⟨m,hn,λh' sb=>⟨.ref D,H',I'.turned (t':=s'.toks) (λb o hb e=>(sb.2 b hb).trans e) a0 a1 a3 a4 a5,rfl,qn⟩⟩
 ·intro D C m s' x hn hp
  exact⟨m,hn,hp⟩
end
end L3
namespace L3
section
variable{X:Cx}{scope:pK}{own caps:List oW}{ix:List Nat}{cl:List (oW × oP)}{sJ:List (oP × pD)}{σ:St}{H:Hp}{s:oR}{fp:List oP}{E:oQ->oR->Prop}
end
section
variable{X:Cx}{scope:pK}{own caps:List oW}{ix:List Nat}{elt tg iter:oZ}{ifs:List oZ}{pos:pS}{wi:TI}{g:TG}{tt:TT}{te:TE}
end
end L3
namespace L3
section
variable{X:Cx}
end
end L3
namespace LL
open PySem L2 L3
noncomputable def top(i:Nat):pc:=PySem.Challenge.pw_letterlaw_k57_whole_only_one_list.main.body.getD i (.Pass ⟨0,0,0,0⟩)
noncomputable abbrev yP:pc:=xv (top 5) 0
noncomputable abbrev z6:pc:=xv (top 6) 0
noncomputable abbrev zU:pc:=top 10
noncomputable abbrev yO:pc:=top 11
noncomputable abbrev xj:pc:=top 12
noncomputable abbrev XO:pc:=top 13
noncomputable abbrev yw:pc:=top 16
noncomputable abbrev yM:pc:=top 17
noncomputable abbrev vn:pc:=top 18
noncomputable abbrev yD:pc:=xv (top 19) 0
noncomputable abbrev zO:pc:=xv (top 19) 1
noncomputable abbrev uf:pc:=top 21
noncomputable abbrev xA:pc:=top 22
noncomputable abbrev jA:pc:=top 23
noncomputable abbrev wb:pc:=top 24
noncomputable abbrev wY:pc:=top 25
noncomputable abbrev x0:pc:=top 26
noncomputable abbrev qO:pc:=top 28
noncomputable abbrev vA:pc:=top 29
noncomputable abbrev xE:pc:=top 35
noncomputable abbrev yZ:pc:=top 36
noncomputable abbrev xf:pc:=top 37
noncomputable abbrev wc:pc:=top 38
noncomputable abbrev yN:pc:=top 39
noncomputable abbrev yq:pc:=top 40
noncomputable abbrev yg:pc:=top 41
noncomputable abbrev yL:pc:=top 42
noncomputable abbrev wf:pc:=top 43
noncomputable abbrev zV:pc:=top 49
noncomputable abbrev yH:pc:=top 50
noncomputable abbrev z7:pc:=top 51
noncomputable abbrev yt:pc:=top 52
noncomputable abbrev xB:pc:=top 53
noncomputable abbrev yG:pc:=top 54
noncomputable abbrev yK:pc:=xv (top 57) 0
noncomputable abbrev yv:pc:=xv (top 57) 1
noncomputable abbrev yQ:pc:=xv (top 57) 2
noncomputable abbrev yB:pc:=xv (top 57) 3
noncomputable abbrev yu:pc:=xv (top 57) 4
noncomputable abbrev zZ:pc:=xv (top 58) 0
noncomputable abbrev zY:pc:=xv (top 59) 0
noncomputable abbrev zM:pc:=xv (top 59) 1
noncomputable abbrev jC:pc:=top 61
noncomputable abbrev uw:pc:=top 62
noncomputable abbrev we:pc:=top 63
noncomputable abbrev jw:pc:=top 64
noncomputable abbrev jz:pc:=top 65
noncomputable abbrev jy:pc:=top 66
noncomputable abbrev um:pc:=top 67
noncomputable abbrev ur:pc:=top 68
noncomputable abbrev jR:pc:=top 69
noncomputable abbrev jP:pc:=top 70
noncomputable abbrev vX:pc:=top 71
noncomputable abbrev XL:pc:=top 72
noncomputable abbrev ui:pc:=top 73
noncomputable abbrev wg:pc:=top 74
noncomputable abbrev jJ:pc:=top 75
noncomputable abbrev ve:pc:=top 76
noncomputable abbrev uN:pc:=top 77
section
variable{P:oV}{w:oX}{K:oO}{mg:oW->Option oQ}{base:pb}
seal L2.PE L2.PS L2.PA L2.PT L2.PSs L2.PI L2.PG L2.PW L2.PGs
local macro_rules | `(tactic| rfl')=>do `(tactic| simp only[$(← ("zc1 WE zdn vo Option.join_some Option.join_none rU XD zay zbL zcc zaV zbA zcO KH tOp tUn xw tC jr zP vd tCB zcv xy zaq zby zcC tOr zbq zdu JV VO tIf rI rI0 Qv K2 zdj zcE zb5 rEq rNe rIx zbI uM zbQ zcZ zce zco zcs tSl WB zaY zdb zdc zcK zat J4 rGe zcu decide_false decide_true Prod.mk.injEq zaa zcr zcl W5 zb1 VX tyV tBM zc5 if_true if_false bO decide_eq_true_eq decide_eq_false_iff_not Bool.not_eq_true' Bool.not_true Bool.not_false lt1 UA zb3 zac j4 K3 zaR zbY zcB W8 VR zc3 tHs K4 zbO zcx zbB zb4 zbF Value.ref.injEq L2.start zbU zch zc2 zc4 zc7 zcz zdg zck zbW zdh zdv JQ zcy zad zcJ ZY UF Zz Ze Wh ye zds zau zbM cxK cxP cxW aC aN aM cw cX List.replicate_zero Nat.reduceAdd Nat.reduceSub and_assoc zca exists_eq exists_eq' exists_eq_left' exists_eq_left exists_eq_right exists_eq_right' exists_and_left exists_and_right V.int.injEq V.ref.injEq V.str.injEq V.bl.injEq V.ty.injEq reduceCtorEq false_and and_false true_and and_true or_false false_or exists_false exists_const em List.getElem?_cons_succ Option.some.injEq bi bj List.cons.injEq aS bv bF".splitOn " ").toArray.mapM fun s=>`(Lean.Parser.Tactic.simpLemma| $(Lean.mkIdent s.toName):ident)),*])
local macro_rules | `(tactic| ac_rfl)=>do `(tactic| repeat (first | rfl' | simp only[$(← ("yx zy zJ yA yz zA".splitOn " ").toArray.mapM fun s=>`(Lean.Parser.Tactic.simpLemma| $(Lean.mkIdent s.toName):ident)),*]))
theorem xe0{X:Cx}:XE X E0:=λe s h=>by
 obtain⟨_,_,_,_,_,_,_,_,_,_,_,_,_,_,h⟩:=h
 exact h.elim
def YB(l:List Nat):Prop:=∀c ∈ l,97<=c/\c<=122
instance (l:List Nat):Decidable (YB l):=by unfold YB;infer_instance
noncomputable def kO(l:List Nat):Bool:=decide (1<=l.length/\l.length<=6/\YB l/\l.Nodup)
def uU:Sp:=λvs H Q _=>∃c:Nat,vs=[.str (tx [c])]/\Q (.bl (decide (97<=c/\c<=122))) H
theorem UI:zq ["sign"] ["sign"] (zb zU):=⟨rfl,rfl,rfl,by decide +kernel,rfl,by decide +kernel,by decide +kernel⟩
theorem Qk{f:oP}{fd:oU}(F:Fun K "is_small_letter" "is_small_letter" zU f fd):FnOk P w K mg base CX0 1 f fd ["sign"] uU:=by
 refine F.ok UI (λvs H Q E h=>?_) (λcdv A outer s H vs Q E hr h=>?_)
 ·obtain⟨a,rfl,_⟩:=h
  rfl
 ·obtain⟨c,rfl,q⟩:=h
  refine⟨_,(zh (zx (QR uE uE xS (pv 0) xS))),?_⟩
  have ea:cs (("a" : oW))=[97]:=rfl
  have ez:cs (("z" : oW))=[122]:=rfl
  rfl'
  simp only[ea,ez,Wh,lt1]
  refine xh (λh=>?_) λh=>?_
  ·have e:decide (97<=c/\c<=122)=!decide (122<c):=by
    by_cases h2:122<c
    ·rw[decide_eq_true h2,decide_eq_false (by lia)];rfl
    ·rw[decide_eq_false h2,decide_eq_true (by lia)];rfl
   rw[e] at q
   exact q
  ·rw[decide_eq_false (by lia)] at q
   exact q
structure zcW(K:oO)(mg:oW->Option oQ)(C:oP):Prop where
 xi:XI K C
 ini:ah K (.ref C) "__init__" = sF (sF (.builtin "ValueError.__init__"))
 g:mg "NoLetters" = sF (.ref C)
 most:∃t,mg "MOST_LETTERS" = sF (.int 6 t)
def wv(C:oP):Sp:=λvs H Q E=>∃l:List Nat,vs=[.str (tx l)]/\l.length<=1000/\(kO l=sH->Q (.str (tx l)) H)/\(kO l=sI->E (.ref C) sG H)
theorem md:zq ["text","sign"] ["text"] (zb yO):=⟨rfl,rfl,rfl,by decide +kernel,rfl,by decide +kernel,by decide +kernel⟩
theorem kC{f C:oP}{fd:oU}(B:Bt mg)(T:zcW K mg C)(F:Fun K "letters_of" "letters_of" yO f fd)(Ds:Df P w K mg base CX0 1 "is_small_letter" ["sign"] [] uU):FnOk P w K mg base (CXx P w) 2 f fd ["text"] (wv C):=by
 refine Fun.okX F md (λvs H Q E h=>?_) (λcdv A outer s H vs Q E hr hx h=>?_)
 ·obtain⟨a,rfl,_⟩:=h
  rfl
 ·obtain⟨l,rfl,hl,q1,q2⟩:=h
  obtain⟨t6,g6⟩:=T.most
  refine⟨_,(zN (z9 (yo (kY uE uE zg (zp zX rfl B.len aB (za (pv 0) ze)) (xg (v:=.int 6) rfl g6 ⟨t6,rfl⟩)))
    (zh (yS hx rfl T.xi.toXC T.ini rfl T.g (za xS ze)))
    zD)
   (zN (yE PassesOwn.leaving rfl (Jn (pv 0)) (zC (i:=1) md.nd rfl (Or.inl rfl))
    (zN (z9 (yo (Xn (cl0 Ds hr .nil rfl (za (pv 1) ze)) (λ_=>rfl)))
     (zh (yS hx rfl T.xi.toXC T.ini rfl T.g (za xS ze)))
     zD)
    (zh (z9 (zI Xx (vM cP eL eM W7 (pv 0) (za (pv 1) ze)) zg (zK _))
     (zh (yS hx rfl T.xi.toXC T.ini rfl T.g (za xS ze)))
     zD))))
   (zh (zx (pv 0))))),?_⟩
  have s16:=ym
  rfl'
  have bad:(¬ (1<=l.length/\l.length<=6/\YB l/\l.Nodup))->∀H':Hp,H'=H->E (.ref C) sG H':=λh H' e=>by
   rw[e]
   exact q2 (decide_eq_false h)
  refine⟨by lia,xh (λc=>xh (λc2=>⟨by lia,bad (λh=>by have:=h.2.1;lia) H rfl⟩) (λc2=>?_)) (λc=>⟨by lia,bad (λh=>by have:=h.1;lia) H rfl⟩)⟩
  refine ForS.by (λi σ H'=>H'=H/\∃v,σ=[sF (.str (tx l)),v]/\YB (l.take i)/\∀c ∈ l.take i,l.count c<=1) ⟨rfl,sG,rfl,λc h=>absurd h (by simp),λc h=>absurd h (by simp)⟩ ?_ ?_
  ·rintro i c σ H' hg ⟨eH,v,rfl,hs,hn⟩
   have hc:=af hg
   rfl'
   simp only[uU]
   rfl'
   refine xh (λh=>⟨by lia,bad (λz=>by have:=z.2.2.1 c hc;lia) _ eH⟩) (λh=>xh (λh2=>⟨by lia,bad (λz=>?_) _ eH⟩) (λh2=>⟨eH,?_,?_⟩))
   ·have:=List.nodup_iff_count.mp z.2.2.2 c
    lia
   ·rw[zW hg]
    intro x hx
    rcases List.mem_append.mp hx with q | q
    ·exact hs x q
    ·have:x=c:=by simpa using q
     subst this
     lia
   ·rw[zW hg]
    intro x hx
    rcases List.mem_append.mp hx with q | q
    ·exact hn x q
    ·have:x=c:=by simpa using q
     subst this
     lia
  ·rintro σ H' ⟨eH,v,rfl,hs,hn⟩
   rw[aQ] at hs hn
   rfl'
   rw[eH]
   refine q1 (decide_eq_true ⟨by lia,by lia,hs,List.nodup_iff_count.mpr λc=>?_⟩)
   by_cases hc:c ∈ l
   ·exact hn c hc
   ·rw[List.count_eq_zero.mpr hc];lia
noncomputable def zu(l:List Nat)(k:Int)(p:List Nat):Bool:=decide (0<=k/\k+p.length<=l.length/\(l.drop k.toNat).take p.length=p)
def xV:Sp:=λvs H Q _=>∃(l p:List Nat) (k:Int),vs=[.str (tx l),.int k,.str (tx p)]/\l.length<=10000/\p.length<=10000/\Q (.bl (zu l k p)) H
theorem ka{l p:List Nat}{k:Int}{H:Hp}{Q:VK}{E:XK}(h1:l.length<=10000)(h2:p.length<=10000)(h:Q (.bl (zu l k p)) H):xV [.str (tx l),.int k,.str (tx p)] H Q E:=⟨l,p,k,rfl,h1,h2,h⟩
theorem Zd:zq ["word","place","part"] ["word","place","part"] (zb xj):=⟨rfl,rfl,rfl,by decide +kernel,rfl,by decide +kernel,by decide +kernel⟩
theorem ZI{f:oP}{fd:oU}(B:Bt mg)(F:Fun K "stands_at" "stands_at" xj f fd):FnOk P w K mg base CX0 1 f fd ["word","place","part"] xV:=by
 refine F.ok Zd (λvs H Q E h=>?_) (λcdv A outer s H vs Q E hr h=>?_)
 ·obtain⟨l,p,k,rfl,_⟩:=h
  rfl
 ·obtain⟨l,p,k,rfl,hl,hp,q⟩:=h
  refine⟨_,(zN (z9 (yo (kY uE uE zg (pv 1) (zB qx (zp zX rfl B.len aB (za (pv 0) ze)) (zp zX rfl B.len aB (za (pv 2) ze)))))
    (zh (zx xO))
    zD)
   (zh (zx (ug qG (yk wC (pv 0) (yf (pv 1)) (yf (zB op_add (pv 1) (zp zX rfl B.len aB (za (pv 2) ze))))) (pv 2) (zK _))))),?_⟩
  have s16:=ym
  rfl'
  have no:¬ (0<=k/\k+p.length<=l.length/\(l.drop k.toNat).take p.length=p)->Q (.bl sI) H:=λh=>by
   have e:zu l k p=sI:=decide_eq_false h
   rw[e] at q
   exact q
  refine xh (λh0=>⟨by lia,by lia,xh (λh1=>no λh=>absurd h.2.1 (by lia)) λh1=>⟨by lia,by lia,?_⟩⟩) λh0=>no λh=>h0 h.1
  rw[ko _ h0 (by lia) (by lia)]
  have e:(k+(p.length:Int) - k).toNat=p.length:=by lia
  rw[e]
  have e2:zu l k p=decide ((l.drop k.toNat).take p.length=p):=by
   unfold zu
   exact decide_eq_decide.mpr ⟨λh=>h.2.2,λh=>⟨h0,by lia,h⟩⟩
  rw[<- e2]
  exact q
noncomputable def yR(l:List Nat)(k:Int)(o n:List Nat):List Nat:=l.take k.toNat ++ n ++ l.drop (k.toNat+o.length)
theorem xl{l o:List Nat}{k:Int}(h:zu l k o=sH):l.take k.toNat ++ o ++ l.drop (k.toNat+o.length)=l/\(l.take k.toNat).length=k.toNat/\0<=k/\k+o.length<=l.length:=by
 unfold zu at h
 rw[decide_eq_true_eq] at h
 obtain⟨h0,h1,h2⟩:=h
 refine⟨?_,by rw[aK];lia,h0,h1⟩
 have e:l.drop k.toNat=o ++ l.drop (k.toNat+o.length):=by
  have:=bK o.length (l.drop k.toNat)
  rw[h2,dJ] at this
  exact this.symm
 rw[ax,<- e,bK]
theorem Xt{l o:List Nat}{k:Int}(n:List Nat)(h:zu l k o=sH):zu (yR l k o n) k n=sH/\yR (yR l k o n) k n o=l:=by
 obtain⟨e,hl,h0,h1⟩:=xl h
 have e1:(yR l k o n).take k.toNat=l.take k.toNat:=by
  unfold yR
  rw[ax,aU (by lia),bf (by lia)]
 have e2:(yR l k o n).drop k.toNat=n ++ l.drop (k.toNat+o.length):=by
  unfold yR
  rw[ax,bM (by lia),aZ (by lia),bv]
 have e3:(yR l k o n).length=l.length - o.length+n.length:=by
  unfold yR
  simp only[am,br,hl]
  lia
 refine⟨?_,?_⟩
 ·unfold zu
  refine decide_eq_true ⟨h0,by lia,?_⟩
  rw[e2,aU (by lia),bf (by lia)]
 ·show (yR l k o n).take k.toNat ++ o ++ (yR l k o n).drop (k.toNat+n.length)=l
  rw[e1,<- dJ,e2,bM (by lia),aZ (by lia),bv]
  exact e
theorem KS{l o n:List Nat}{k:Int}(h0:0<=k):cut l sG (sF k) ++ n ++ cut l (sF (k + ↑o.length)) sG=yR l k o n:=by
 rw[ZB _ h0,uS _ (by lia)]
 have:(k+(o.length:Int)).toNat=k.toNat+o.length:=by lia
 rw[this]
 rfl
structure TNU(K:oO)(mg:oW->Option oQ)(C:oP):Prop where
 xi:XI K C
 g:mg "NoUse" = sF (.ref C)
 na:NoAttr K C "at"
theorem ku:zq ["self","at"] ["self","at"] (zb yP):=⟨rfl,rfl,rfl,by decide +kernel,rfl,by decide +kernel,by decide +kernel⟩
theorem kE{f C:oP}{fd:oU}(T:TNU K mg C)(F:Fun K "__init__" "NoUse.__init__" yP f fd):FnOk P w K mg base CX0 1 f fd ["self","at"] (vJ C "at"):=by
 refine F.ok ku (λvs H Q E h=>?_) (λcdv A outer s H vs Q E hr h=>?_)
 ·obtain⟨x,v,rfl,_⟩:=h
  rfl
 ·obtain⟨x,v,rfl,hx,q⟩:=h
  refine⟨_,(zh (Vh (pv 0) (pv 1) rfl)),?_⟩
  simp only[Kd]
  rfl'
  exact⟨C,hx,T.xi.toXC,T.na,q⟩
structure DNU(P:oV)(w:oX)(K:oO)(mg:oW->Option oQ)(base:pb)(C:oP):Prop extends TNU K mg C where
 ini:∃f fd,ah K (.ref C) "__init__" = sF (sF (.ref f))/\bg K (.ref f)=sH/\FnOk P w K mg base CX0 1 f fd ["self","at"] (vJ C "at")/\Binds K fd ["self","at"] []
def ZD(C:oP):Sp:=λvs H Q E=>∃(l o n:List Nat) (k:Int),vs=[.str (tx l),.int k,.str (tx o),.str (tx n)]/\l.length<=10000/\o.length<=10000/\n.length<=10000/\(zu l k o=sH->Q (.str (tx (yR l k o n))) H)/\(zu l k o=sI->∀d H',zbK H d "at" (.int 0) H'->E (.ref C) (sF d) H')
theorem za2:zq ["word","place","old","new"] ["word","place","old","new"] (zb XO):=⟨rfl,rfl,rfl,by decide +kernel,rfl,by decide +kernel,by decide +kernel⟩
theorem zam{f C:oP}{fd:oU}(B:Bt mg)(T:DNU P w K mg base C)(F:Fun K "put" "put" XO f fd)(nS:Df P w K mg base CX0 1 "stands_at" ["word","place","part"] [] xV):FnOk P w K mg base (CXx P w) 3 f fd ["word","place","old","new"] (ZD C):=by
 obtain⟨fi,fdi,hi,hfn,Fi,Bi⟩:=T.ini
 refine Fun.okX F za2 (λvs H Q E h=>?_) (λcdv A outer s H vs Q E hr hx h=>?_)
 ·obtain⟨l,o,n,k,rfl,_⟩:=h
  rfl
 ·obtain⟨l,o,n,k,rfl,hl,ho,hn,q1,q2⟩:=h
  refine⟨_,(zN (z9 (yo (Xn (cl0 nS hr .nil rfl (za (pv 0) (za (pv 1) (za (pv 2) ze)))) (λ_=>rfl)))
    (zh (Zo hx rfl T.xi.toXC hi hfn Fi hr Bi rfl T.g (za zg ze)))
    zD)
   (zh (zx (zB op_add_str (zB op_add_str (yk wC (pv 0) xZ (yf (pv 1))) (pv 3)) (yk wC (pv 0) (yf (zB op_add (pv 1) (zp zX rfl B.len aB (za (pv 2) ze)))) xZ))))),?_⟩
  have s16:=ym
  rfl'
  refine ka hl ho ?_
  rfl'
  refine xh (λhb=>⟨by lia,Vx (q2 hb)⟩) λhb=>?_
  have hb':zu l k o=sH:=by simpa using hb
  obtain⟨_,_,h0,h1⟩:=xl hb'
  have c1:=wX l sG (sF k)
  have c2:=wX l (sF (k + ↑o.length)) sG
  refine⟨by lia,by lia,by lia,by lia,?_,?_⟩
  ·simp only[am]
   lia
  ·have e:cut l sG (sF k) ++ n ++ cut l (sF (k + ↑o.length)) sG=yR l k o n:=by
    rw[ZB _ h0,uS _ (by lia)]
    have:(k+(o.length:Int)).toNat=k.toNat+o.length:=by lia
    rw[this]
    rfl
   rw[e]
   exact q1 hb'
structure TOrd(K:oO)(mg:oW->Option oQ)(CO CR CW:oP):Prop where
 cO:Cls K CO
 cR:Cls K CR
 cW:Cls K CW
 gO:mg "Order" = sF (.ref CO)
 gR:mg "FromRight" = sF (.ref CR)
 gW:mg "ByWeights" = sF (.ref CW)
 lO:NoAttr K CO "letters"
 lR:NoAttr K CR "letters"
 lW:NoAttr K CW "letters"
 wW:NoAttr K CW "weights"
def OrdAt(CO CR CW:oP)(H:Hp)(o:oP)(k:Nat)(l:List Nat)(ns:List Int):Prop:=∃dx,(k=0/\H o=sF (.ins CO dx [("letters",.str (tx l))]))\/(k=1/\H o=sF (.ins CR dx [("letters",.str (tx l))])) \/
 (k=2/\ns.length=l.length/\∃w,H o=sF (.ins CW dx [("letters",.str (tx l)),("weights",.ref w)])/\H w=sF (.tup (ns.map V.int)))
theorem OrdAt.same{CO CR CW:oP}{H H':Hp}{o:oP}{k:Nat}{l:List Nat}{ns:List Int}(h:OrdAt CO CR CW H o k l ns)(e:Same H H'):OrdAt CO CR CW H' o k l ns:=by
 obtain⟨dx,⟨h1,h2⟩ | ⟨h1,h2⟩ | ⟨h1,h2,w,h3,h4⟩⟩:=h
 ·exact⟨dx,.inl ⟨h1,e _ _ h2⟩⟩
 ·exact⟨dx,.inr (.inl ⟨h1,e _ _ h2⟩)⟩
 ·exact⟨dx,.inr (.inr ⟨h1,h2,w,e _ _ h3,e _ _ h4⟩)⟩
noncomputable def Wv(l:List Nat)(ns:List Int)(w:List Nat):Int:=((l.zip ns).map λp=>(w.count p.1:Int) * p.2).sum
noncomputable def zv(k:Nat)(l:List Nat)(ns:List Int)(w:List Nat):Int:=if k=2 then Wv l ns w else (w.length:Int)
noncomputable def xI(k:Nat)(w:List Nat):List Nat:=if k=1 then w.reverse else w
def uW(K:oO):Sp:=λvs H Q _=>∃(x C dx:oP) (l:List Nat),vs=[.ref x,.str (tx l)]/\kO l=sH/\Cls K C/\NoAttr K C "letters"/\H x=sF (.ins C dx [])/\Q .non (upd H x (.ins C dx [("letters",.str (tx l))]))
theorem kP:zq ["self","letters"] ["self","letters"] (zb yK):=⟨rfl,rfl,rfl,by decide +kernel,rfl,by decide +kernel,by decide +kernel⟩
theorem wy{f:oP}{fd:oU}(B:Bt mg)(F:Fun K "__init__" "Order.__init__" yK f fd)(nL:Df P w K mg base (CXx P w) 2 "letters_of" ["text"] [] (wv C)):FnOk P w K mg base CX0 3 f fd ["self","letters"] (uW K):=by
 refine F.ok kP (λvs H Q E h=>?_) (λcdv A outer s H vs Q E hr h=>?_)
 ·obtain⟨x,C,dx,l,rfl,_⟩:=h
  rfl
 ·obtain⟨x,C,dx,l,rfl,hg,hC,hN,hx,q⟩:=h
  refine⟨_,(zh (Xf (pv 0) (clP xe0 nL hr .nil rfl (za (pv 1) ze)) rfl)),?_⟩
  have s16:=ym
  rfl'
  exact⟨l,rfl,by have:=of_decide_eq_true hg;lia,λ_=>⟨_,_,_,hx,hC,hN,by decide,q⟩,λe=>by rw[hg] at e;cases e⟩
def kN:Sp:=λvs H Q _=>∃(o:oP) (w:List Nat),vs=[.ref o,.str (tx w)]/\w.length<=1000/\Q (.int (w.length:Nat)) H
theorem qv:zq ["self","word"] ["self","word"] (zb yv):=⟨rfl,rfl,rfl,by decide +kernel,rfl,by decide +kernel,by decide +kernel⟩
theorem wI{f:oP}{fd:oU}(B:Bt mg)(F:Fun K "weight" "Order.weight" yv f fd) : FnOk P w K mg base CX0 1 f fd ["self","word"] kN:=by
 refine F.ok qv (λvs H Q E h=>?_) (λcdv A outer s H vs Q E hr h=>?_)
 ·obtain⟨o,w,rfl,_⟩:=h
  rfl
 ·obtain⟨o,w,rfl,hw,q⟩:=h
  refine⟨_,(zh (zx (zp zX rfl B.len aB (za (pv 1) ze)))),?_⟩
  have s16:=ym
  rfl'
  exact⟨by lia,q⟩
def YY:Sp:=λvs H Q _=>∃(o:oP) (w:List Nat),vs=[.ref o,.str (tx w)]/\Q (.str (tx w)) H
theorem Za:zq ["self","word"] ["self","word"] (zb yQ):=⟨rfl,rfl,rfl,by decide +kernel,rfl,by decide +kernel,by decide +kernel⟩
theorem vB{f:oP}{fd:oU}(B:Bt mg)(F:Fun K "seen" "Order.seen" yQ f fd) : FnOk P w K mg base CX0 1 f fd ["self","word"] YY:=by
 refine F.ok Za (λvs H Q E h=>?_) (λcdv A outer s H vs Q E hr h=>?_)
 ·obtain⟨o,w,rfl,_⟩:=h
  rfl
 ·obtain⟨o,w,rfl,q⟩:=h
  refine⟨_,(zh (zx (pv 1))),?_⟩
  have s16:=ym
  rfl'
  exact q
def Yi:Sp:=λvs H Q _=>∃(o:oP) (w:List Nat),vs=[.ref o,.str (tx w)]/\w.length<=1000/\Q (.str (tx w.reverse)) H
theorem vT:zq ["self","word"] ["self","word"] (zb zZ):=⟨rfl,rfl,rfl,by decide +kernel,rfl,by decide +kernel,by decide +kernel⟩
theorem uo{f:oP}{fd:oU}(B:Bt mg)(F:Fun K "seen" "FromRight.seen" zZ f fd) : FnOk P w K mg base CX0 1 f fd ["self","word"] Yi:=by
 refine F.ok vT (λvs H Q E h=>?_) (λcdv A outer s H vs Q E hr h=>?_)
 ·obtain⟨o,w,rfl,_⟩:=h
  rfl
 ·obtain⟨o,w,rfl,hw,q⟩:=h
  refine⟨_,(zh (zx (Kt (pv 1) (zcp zbj zg)))),?_⟩
  have s16:=ym
  ac_rfl
  exact⟨by lia,q⟩
structure zcD(K:oO)(mg:oW->Option oQ)(C:oP):Prop where
 xi:XI K C
 ini:ah K (.ref C) "__init__" = sF (sF (.builtin "ValueError.__init__"))
 g:mg "NoOrder" = sF (.ref C)
 most:∃t,mg "MOST_WEIGHT" = sF (.int 1000000 t)
abbrev DOI(P:oV)(w:oX)(K:oO)(mg:oW->Option oQ)(base:pb)(CO:oP):Prop:=DC P w K mg base CX0 3 CO "__init__" ["self","letters"] (uW K)
def kT(K:oO)(CW:oP):Sp:=λvs H Q _=>∃(x dx a:oP) (l:List Nat) (ns:List Int),vs=[.ref x,.str (tx l),.ref a]/\kO l=sH/\SqL K H a (ns.map V.int)/\ns.length=l.length/\(∀n ∈ ns,1<=n/\n<=1000000)/\H x=sF (.ins CW dx []) /\
 ∀w H',H w=sG->w≠x->(∀b o,b≠x->H b=sF o->H' b=sF o)->H' w=sF (.tup (ns.map V.int))->H' x=sF (.ins CW dx [("letters",.str (tx l)),("weights",.ref w)])->Q .non H'
theorem iZ:zq ["self","letters","weights","weight"] ["self","letters","weights"] (zb zY):=⟨rfl,rfl,rfl,by decide +kernel,rfl,by decide +kernel,by decide +kernel⟩
theorem ue{f CO CR CW CN:oP}{fd:oU}(B:Bt mg)(T:TOrd K mg CO CR CW)(TN:zcD K mg CN)(DI:DOI P w K mg base CO)(F:Fun K "__init__" "ByWeights.__init__" zY f fd) : FnOk P w K mg base (CXx P w) 4 f fd ["self","letters","weights"] (kT K CW):=by
 obtain⟨t6,g6⟩:=TN.most
 refine Fun.okX F iZ (λvs H Q E h=>?_) (λcdv A outer s H vs Q E hr hx h=>?_)
 ·obtain⟨x,dx,a,l,ns,rfl,_⟩:=h
  rfl
 ·obtain⟨x,dx,a,l,ns,rfl,hg,hS,hl,hb,hX,q⟩:=h
  refine⟨_,(zi (xM (Kr DI hr rfl T.gO (za (pv 0) (za (pv 1) ze))))
   (zi (z9 (zI X9 (zp zX rfl B.len aB (za (pv 2) ze)) (zp zX rfl B.len aB (za (pv 1) ze)) (zK _))
    (zh (yS hx rfl TN.xi.toXC TN.ini rfl TN.g (za xS ze)))
    zD)
   (zi (yE PassesOwn.leaving rfl (yC (pv 2)) (zC (i:=3) iZ.nd rfl (Or.inl rfl))
    (zh (z9 (yo (kY uE uE zg (pv 3) (xg (v:=.int 1000000) rfl g6 ⟨t6,rfl⟩)))
     (zh (yS hx rfl TN.xi.toXC TN.ini rfl TN.g (za xS ze)))
     zD)))
   (zh (Xf (pv 0) (xH jV rfl B.tuple PySem.Pv.boot_tuple (za (pv 2) ze)) rfl))))),?_⟩
  have s16:=ym
  have hbx:∀b o,b≠x->H b=sF o->upd H x (.ins CW dx [("letters",.str (tx l))]) b=sF o:=λb o hb e=>by rw[zo hb];exact e
  have hS1:SqL K (upd H x (.ins CW dx [("letters",.str (tx l))])) a (ns.map V.int):=by
   rcases hS with (h | ⟨o,h⟩) | h
   ·exact .inl (.inl (hbx _ _ (λe=>by rw[e,hX] at h;cases h) h))
   ·exact .inl (.inr ⟨o,hbx _ _ (λe=>by rw[e,hX] at h;cases h) h⟩)
   ·exact .inr h
  refine zj (λσ H'=>H'=upd H x (.ins CW dx [("letters",.str (tx l))])/\σ=[sF (.ref x),sF (.str (tx l)),sF (.ref a),sG]) ?_ ?_
  ·ac_rfl
   exact⟨x,CW,dx,l,rfl,hg,T.cW,T.lW,hX,rfl⟩
  rintro σ H1 ⟨rfl,rfl⟩
  refine zj (λσ H'=>H'=upd H x (.ins CW dx [("letters",.str (tx l))])/\σ=[sF (.ref x),sF (.str (tx l)),sF (.ref a),sG]) ?_ ?_
  ·have hl6:l.length<=6:=by have:=of_decide_eq_true hg;lia
   ac_rfl
   refine⟨ns.length,.inl ⟨_,hS1,by rw[ae]⟩,by lia,xh (λh=>absurd (by lia) h) λ_=>trivial⟩
  rintro σ H1 ⟨rfl,rfl⟩
  refine zj (λσ H'=>H'=upd H x (.ins CW dx [("letters",.str (tx l))])/\∃v3,σ=[sF (.ref x),sF (.str (tx l)),sF (.ref a),v3]) ?_ ?_
  ·ac_rfl
   refine⟨⟨_,hS1⟩,ForL.by (xs:=ns.map V.int) (λi σ H'=>H'=upd H x (.ins CW dx [("letters",.str (tx l))])/\∃v3,σ=[sF (.ref x),sF (.str (tx l)),sF (.ref a),v3]) ⟨rfl,sG,rfl⟩ (λi σ H' _ h=>by rw[h.1];exact hS1) ?_ λσ H' h=>h⟩
   rintro i y σ H' hy ⟨rfl,v3,rfl⟩
   rw[aG] at hy
   obtain⟨n,hn,rfl⟩:=Option.map_eq_some_iff.mp hy
   obtain⟨n1,n2⟩:=hb n (af hn)
   ac_rfl
   exact xh (λ_=>xh (λh=>absurd n2 h) λ_=>trivial) λh=>absurd n1 h
  rintro σ H1 ⟨rfl,v3,rfl⟩
  ac_rfl
  refine⟨_,.inl ⟨hS1,λw hw=>?_⟩⟩
  have hwx:w≠x:=λe=>by rw[e,zf] at hw;cases hw
  have hwH:H w=sG:=by rw[zo hwx] at hw;exact hw
  have hX2:=zd (o:=.tup (ns.map V.int)) hw _ _ (zf (H:=H) (a:=x) (o:=.ins CW dx [("letters",.str (tx l))]))
  refine⟨_,_,_,hX2,T.cW,T.wW,by show 1<1000;decide,q w _ hwH hwx (λb o hb' e=>?_) ?_ zf⟩
  ·rw[zo hb']
   exact zd hw _ _ (hbx b o hb' e)
  ·rw[zo hwx]
   exact zf
theorem Q7{x y:V}{r:L2.St}:xt (sG::sG::r) (sF x::sF y::r):=⟨rfl,λi v h=>by
 cases i with
 | zero=>cases h
 | succ i =>
  cases i with
  | zero=>cases h
  | succ i=>exact h⟩
def Yc(CW:oP):Sp:=λvs H Q _=>∃(o dx t:oP) (w l:List Nat) (ns:List Int),vs=[.ref o,.str (tx w)]/\w.length<=1000/\l.length<=6/\ns.length=l.length/\(∀n ∈ ns,1<=n/\n<=1000000)/\H o=sF (.ins CW dx [("letters",.str (tx l)),("weights",.ref t)])/\H t=sF (.tup (ns.map V.int))/\∀H',Same H H'->Q (.int (Wv l ns w)) H'
theorem vv:zq ["self","word"] ["self","word"] (zb zM):=⟨rfl,rfl,rfl,by decide +kernel,rfl,by decide +kernel,by decide +kernel⟩
theorem vq{f CO CR CW:oP}{fd:oU}(B:Bt mg)(T:TOrd K mg CO CR CW)(F:Fun K "weight" "ByWeights.weight" zM f fd) : FnOk P w K mg base CX0 1 f fd ["self","word"] (Yc CW):=by
 refine F.ok vv (λvs H Q E h=>?_) (λcdv A outer s H vs Q E hr h=>?_)
 ·obtain⟨o,dx,t,w,l,ns,rfl,_⟩:=h
  rfl
 ·obtain⟨o,dx,t,w,l,ns,rfl,hw,hl,hn,hb,ho,ht,q⟩:=h
  refine⟨_,(zh (zx (zp (zcb rfl) rfl B.sum PyProof.Rows.boot_sum (za (xY (g:=zac K 2 (j4 (xy 0) (j4 (xy 1) K3))) (own:=["letter","weight"]) (caps:=["word"]) (ix:=[1]) (tt:=vS) (te:=(tOp K2 (tBM K "str" W5 (xw 2) (zP (xw 0) vd)) (xw 1))) rfl (yb (sc:=zb zM) rfl (by decide +kernel) (by decide +kernel) (by decide +kernel) rfl (by decide +kernel) (by decide +kernel) rfl) (zaQ rfl B.zip (za (Y2 (pv 0) rfl) (za (Y2 (pv 0) rfl) ze))) (λ_ _ _ _ _ _=>uA (n:=2) rfl (z8 (zC (i:=0) (show List.Nodup [_,_,_] by decide) rfl (Or.inl rfl)) (z8 (zC (i:=1) (show List.Nodup [_,_,_] by decide) rfl (Or.inl rfl)) wM))) (λ_ _ _ _ _ _=>xu) (λ_ _ _ _ _ _=>(zB JL (vM cP eL eM W7 (pv 2) (za (pv 0) ze)) (pv 1)))) ze)))),?_⟩
  have s16:=ym
  ac_rfl
  refine⟨_,_,_,ho,T.cW,T.lW,_,rfl,_,_,_,ho,T.cW,T.wW,_,rfl,l,rfl,t,rfl,⟨_,SqT.of ht⟩,λD hD=>CompZ.by (ys:=ns.map V.int) (λi sL H'=>Same H H'/\H' D=sF (.lst sL)/\sL=((((l.zip ns).map λp=>(w.count p.1:Int) * p.2).take i).map V.int)) (by rw[ae];lia) ⟨zd hD,zf,rfl⟩ (λi sL H' _ h=>SqT.of (h.1 _ _ ht)) ?_ ?_⟩
  ·rintro i c y sL H' p hc hy ⟨hs,hH,rfl⟩ hp
   have hi:=(List.getElem?_eq_some_iff.mp hc).1
   rw[aG] at hy
   obtain⟨n,hn',rfl⟩:=Option.map_eq_some_iff.mp hy
   have hz:((l.zip ns).map λp=>(w.count p.1:Int) * p.2)[i]? = sF ((w.count c:Int) * n):=by
    rw[aG,(List.getElem?_zip_eq_some (z:=(c,n))).mpr ⟨hc,hn'⟩]
    rfl
   obtain⟨n1,n2⟩:=hb n (af hn')
   have hcl:w.count c<=w.length:=List.count_le_length
   have hcn:(w.count c:Int) * n=(w.count c:Int) * n:=rfl
   simp only[vS]
   ac_rfl
   refine⟨_,SqT.of zf,rfl,_,_,rfl,_,_,rfl,rfl,Q7,_,rfl,_,rfl,?_,zd hp _ _ hH,by rw[ae,aK];lia,?_⟩
   ·exact .inr ⟨by lia,by lia⟩
   ·rw[VX]
    refine CNx.mk hi ⟨zG (hs.trans (zd hp)) hD,zf,?_⟩
    rw[zW hz,aH]
    rfl
  ·rintro sL H' ⟨hs,hH,rfl⟩
   have e:l.length=((l.zip ns).map λp=>(w.count p.1:Int) * p.2).length:=by rw[ae,List.length_zip];lia
   refine⟨D,rfl,_,SqL.of hH,?_⟩
   rw[e,aQ]
   exact q _ hs
theorem zbS(l:List Nat)(c e:Nat):StrLaws.At (tx l) (tx [c]) (tx l).length e ↔ l[e]? = sF c:=by
 unfold StrLaws.At Builtin.Str.subAt
 rw[ye,ye]
 have h1:[c].length=1:=rfl
 rw[h1,beq_iff_eq]
 have e1:((tx l).cps.extract e (e+1)).toList=(l.drop e).take 1:=by
  show (l.toArray.extract e (e+1)).toList=_
  simp [dX]
 have e2:((tx l).cps.extract e (e+1)=(tx [c]).cps) ↔ (l.drop e).take 1=[c]:=by
  constructor
  ·intro h
   rw[<- e1,h]
  ·intro h
   apply Array.toList_inj.mp
   rw[e1,h]
 constructor
 ·rintro⟨h2,h3⟩
  have:=e2.mp h3
  rw[aV (by lia),dF,bA] at this
  rw[al (by lia)]
  injection this with h _
  rw[h]
 ·intro h
  obtain⟨he,hx⟩:=List.getElem?_eq_some_iff.mp h
  refine⟨by lia,e2.mpr ?_⟩
  rw[aV he,dF,bA,hx]
theorem zaz{l:List Nat}{c:Nat}(h:c ∈ l):Txt.find (tx l) (tx [c])=((l.idxOf c:Nat):Int):=by
 have hlt:=cq h
 have hg:l[l.idxOf c]? = sF c:=by rw[al hlt,dL]
 rcases PyProof.Rows.find_whole (tx l) (tx [c]) with ⟨h1,h2⟩ | ⟨e,h1,h2,h3⟩
 ·exact absurd ((zbS l c _).mpr hg) (h2 _)
 ·have he:=(zbS l c e).mp h2
  have:e=l.idxOf c:=by
   rcases dU e (l.idxOf c) with q | q | q
   ·have:=List.not_of_lt_findIdx (p:=(· == c)) q
    obtain⟨h4,h5⟩:=List.getElem?_eq_some_iff.mp he
    simp [h5] at this
   ·exact q
   ·exact absurd ((zbS l c _).mpr hg) (h3 _ q)
  rw[h1,this]
abbrev MkO(P:oV)(w:oX)(K:oO)(mg:oW->Option oQ)(base:pb)(C:oP):Prop:=DMk P w K mg base CX0 3 C ["self","letters"] (uW K)
abbrev MkW(P:oV)(w:oX)(K:oO)(mg:oW->Option oQ)(base:pb)(C:oP):Prop:=DMk P w K mg base (CXx P w) 4 C ["self","letters","weights"] (kT K C)
abbrev MW(P:oV)(w:oX)(K:oO)(mg:oW->Option oQ)(base:pb)(C:oP)(m:oW)(sp:Sp):Prop:=DM P w K mg base CX0 1 C m ["self","word"] sp
structure TWS(P:oV)(w:oX)(K:oO)(mg:oW->Option oQ)(base:pb)(CO CR CW:oP):Prop extends TOrd K mg CO CR CW where
 mO:MkO P w K mg base CO
 mR:MkO P w K mg base CR
 mW:MkW P w K mg base CW
 wO:MW P w K mg base CO "weight" kN
 wR:MW P w K mg base CR "weight" kN
 wW':MW P w K mg base CW "weight" (Yc CW)
 sO:MW P w K mg base CO "seen" YY
 sR:MW P w K mg base CR "seen" Yi
 sW:MW P w K mg base CW "seen" YY
structure OG(l:List Nat)(ns:List Int)(k:Nat):Prop where
 g:kO l=sH
 k3:k<3
 nl:ns.length=l.length
 nb:∀n ∈ ns,1<=n/\n<=1000000
noncomputable def jk(l:List Nat)(w:List Nat):List Int:=w.map λc=>((l.idxOf c:Nat):Int)
noncomputable def qV(k:Nat)(l:List Nat)(w:List Nat):List Int:=jk l (xI k w)
def zbf(CO CR CW:oP):oP->Prop:=λC=>C=CO\/C=CR\/C=CW
theorem OrdAt.fam{CO CR CW:oP}{H:Hp}{o:oP}{k:Nat}{l:List Nat}{ns:List Int}(h:OrdAt CO CR CW H o k l ns):∃C dx fs,zbf CO CR CW C/\H o=sF (.ins C dx fs)/\(∀m:oW,m≠"letters"->m≠"weights"->fs.lookup m=sG)/\fs.lookup ("letters" : oW)=sF (V.str (tx l)):=by
 have e1:∀m:oW,m≠"letters"->(m == ("letters" : oW))=sI:=λm hm=>by simpa using hm
 have e2:∀m:oW,m≠"weights"->(m == ("weights" : oW))=sI:=λm hm=>by simpa using hm
 obtain⟨dx,⟨h1,h2⟩ | ⟨h1,h2⟩ | ⟨h1,h2,w,h3,h4⟩⟩:=h
 ·exact⟨_,_,_,.inl rfl,h2,λm hm _=>by simp [bq,e1 m hm],rfl⟩
 ·exact⟨_,_,_,.inr (.inl rfl),h2,λm hm _=>by simp [bq,e1 m hm],rfl⟩
 ·exact⟨_,_,_,.inr (.inr rfl),h3,λm hm hm2=>by simp [bq,e1 m hm,e2 m hm2],rfl⟩
def qY(CO CR CW:oP):Sp:=λvs H Q _=>∃(o:oP) (k:Nat) (l:List Nat) (ns:List Int) (w:List Nat),vs=[.ref o,.str (tx w)]/\OrdAt CO CR CW H o k l ns/\OG l ns k/\w.length<=1000/\(∀c ∈ w,c ∈ l)/\∀(p q:oP) (H':Hp),Same H H'->H' p=sF (.tup [.int (zv k l ns w),.ref q])->H' q=sF (.lst ((qV k l w).map V.int))->Q (.ref p) H'
theorem Qy{H:Hp}{CO CR CW o D:oP}{k:Nat}{l:List Nat}{ns:List Int}{v:List Nat}{a1:Option V}{Q:VK}(T:TOrd K mg CO CR CW)(ho:OrdAt CO CR CW H o k l ns)(hl:v.length<=1000)(hm:∀c ∈ v,c ∈ l)(hD:H D=sG)(q:∀H',Same H H'->H' D=sF (.lst ((jk l v).map V.int))->Q (.ref D) H') :
  CompS (tx v) (xy 0) vS (tBM K "str" zA (zad K (xw 1) "letters") (zP (xw 0) vd)) 1 [0] [sF (.ref o),a1] H Q D:=by
 have s16:=ym
 refine CompS.by (λi sL H'=>Same H H'/\H' D=sF (.lst sL)/\sL=(jk l (v.take i)).map V.int) ⟨zd hD,zf,rfl⟩ ?_ ?_
 ·rintro i c sL H' hc ⟨hs,hH,rfl⟩
  have hci:=(List.getElem?_eq_some_iff.mp hc).1
  have hcl:=hm c (af hc)
  obtain⟨C,dx,fs,hf,ho',_,hlk⟩:=(ho.same hs).fam
  have hC:Cls K C/\NoAttr K C "letters":=by
   rcases hf with rfl | rfl | rfl
   ·exact⟨T.cO,T.lO⟩
   ·exact⟨T.cR,T.lR⟩
   ·exact⟨T.cW,T.lW⟩
  simp only[vS]
  ac_rfl
  refine⟨wD,_,_,_,ho',hC.1,hC.2,_,hlk,trivial,_,rfl,_,zaz hcl,hH,by rw[ae];unfold jk;rw[ae,aK];lia,CNx.mk hci ⟨zG hs hD,zf,?_⟩⟩
  unfold jk
  rw[zW hc,aH,aH]
  rfl
 ·rintro sL H' ⟨hs,hH,rfl⟩
  rw[aQ] at hH
  exact q H' hs hH
theorem j8:zq ["self","word"] ["self","word"] (zb yB):=⟨rfl,rfl,rfl,by decide +kernel,rfl,by decide +kernel,by decide +kernel⟩
theorem wz{f CO CR CW:oP}{fd:oU}(B:Bt mg)(T:TWS P w K mg base CO CR CW)(F:Fun K "rank" "Order.rank" yB f fd) : FnOk P w K mg base CX0 2 f fd ["self","word"] (qY CO CR CW):=by
 refine F.ok j8 (λvs H Q E h=>?_) (λcdv A outer s H vs Q E hr h=>?_)
 ·obtain⟨o,k,l,ns,w,rfl,_⟩:=h
  rfl
 ·obtain⟨o,k,l,ns,w,rfl,ho,hG,hw,hm,q⟩:=h
  refine⟨_,(zh (zx (ya (za (zbi T.wO T.wR T.wW' T.cO T.cR T.cW hr (pv 0) (za (pv 1) ze)) (za (xY (own:=["letter"]) (caps:=["self"]) (ix:=[0]) (tt:=vS) (te:=(tBM K "str" zA (zad K (xw 1) "letters") (zP (xw 0) vd))) rfl (yb (sc:=zb yB) rfl (by decide +kernel) (by decide +kernel) (by decide +kernel) rfl (by decide +kernel) (by decide +kernel) rfl) (Jn (zbi T.sO T.sR T.sW T.cO T.cR T.cW hr (pv 0) (za (pv 1) ze))) (λ_ _ _ _ _ _=>zC (i:=0) (show List.Nodup [_,_] by decide) rfl (Or.inl rfl)) (λ_ _ _ _ _ _=>xu) (λ_ _ _ _ _ _=>(vM cP PySem.F.slot_str_index PySem.F.type_str_index J3 (Y2 (pv 1) rfl) (za (pv 0) ze)))) ze))))),?_⟩
  have s16:=ym
  have hsl:(xI k w).length<=1000:=by
   unfold xI
   split
   ·rw[eX]
    exact hw
   ·exact hw
  have hsm:∀c ∈ xI k w,c ∈ l:=λc hc=>by
   unfold xI at hc
   split at hc
   ·exact hm c (List.mem_reverse.mp hc)
   ·exact hm c hc
  have l6:l.length<=6:=(of_decide_eq_true hG.g).2.1
  have fin:∀H1,Same H H1->∀D,H1 D=sG->CompS (tx (xI k w)) (xy 0) vS (tBM K "str" zA (zad K (xw 1) "letters") (zP (xw 0) vd)) 1 [0] [sF (.ref o),sF (.str (tx w))] H1 (λx5 H1=>2<=oN/\∀p,H1 p=sG->Q (.ref p) (upd H1 p (.tup [.int (zv k l ns w),x5]))) D:=λH1 s1 D hD=>Qy T.toTOrd (ho.same s1) hsl hsm hD λH' s' hH=>⟨by lia,λp hp=>q p D _ (s1.trans (s'.trans (zd hp))) zf (zd hp _ _ hH)⟩
  ac_rfl
  obtain⟨dx',⟨h1,h2⟩ | ⟨h1,h2⟩ | ⟨h1,h2,t',h3,h4⟩⟩:=id ho
  ·have e1:zv k l ns w=(w.length:Int):=by unfold zv;rw[if_neg (by lia)]
   have e2:xI k w=w:=by unfold xI;rw[if_neg (by lia)]
   rw[e1,e2] at fin
   exact .inl ⟨_,_,h2,rfl,o,w,rfl,hw,.inl ⟨_,_,h2,rfl,o,w,rfl,_,rfl,fin H (Same.refl _)⟩⟩
  ·have e1:zv k l ns w=(w.length:Int):=by unfold zv;rw[if_neg (by lia)]
   have e2:xI k w=w.reverse:=by unfold xI;rw[if_pos h1]
   rw[e1,e2] at fin
   exact .inr (.inl ⟨_,_,h2,rfl,o,w,rfl,hw,.inr (.inl ⟨_,_,h2,rfl,o,w,rfl,hw,_,rfl,fin H (Same.refl _)⟩)⟩)
  ·have e1:zv k l ns w=Wv l ns w:=by unfold zv;rw[if_pos h1]
   have e2:xI k w=w:=by unfold xI;rw[if_neg (by lia)]
   rw[e1,e2] at fin
   exact .inr (.inr ⟨_,_,h3,rfl,o,dx',t',w,l,ns,rfl,hw,l6,hG.nl,hG.nb,h3,h4,λH' s'=>.inr (.inr ⟨_,_,s' _ _ h3,rfl,o,w,rfl,_,rfl,fin H' s'⟩)⟩)
noncomputable def zL(k:Nat)(l:List Nat)(ns:List Int)(u v:List Nat):Bool:=if zv k l ns u=zv k l ns v then ltI (qV k l u) (qV k l v) else decide (zv k l ns u<zv k l ns v)
abbrev DR(P:oV)(w:oX)(K:oO)(mg:oW->Option oQ)(base:pb)(CO CR CW:oP):Prop:=DMF P w K mg base CX0 2 (zbf CO CR CW) "rank" ["self","word"] (λ_=>qY CO CR CW)
theorem kW{H:Hp}{p q:oP}{z:Int}{ns:List Int}(hp:H p=sF (.tup [.int z,.ref q]))(hq:H q=sF (.lst (ns.map V.int))):Is K H (.tup [.int z,.lst (ns.map L3.D.int)]) (.ref p):=by
 simp only[Is,Iss]
 exact⟨p,_,rfl,SqT.of hp,_,_,rfl,rfl,_,_,rfl,⟨q,_,rfl,SqL.of hq,Iss.ints ns⟩,rfl⟩
theorem xF:∀x:List Int,ltI x x=sI
 | []=>rfl
 | a::x=>by
  rw[ltI,if_pos rfl]
  exact xF x
theorem Vs(a b:Int)(x y:List Int):ltD (.tup [.int a,.lst (x.map L3.D.int)]) (.tup [.int b,.lst (y.map L3.D.int)])=if a=b then ltI x y else decide (a<b):=by
 simp only[ltD,vY,eqD,Z1,Zu]
 by_cases h:a=b
 ·subst h
  by_cases h2:x=y
  ·subst h2
   simp [xF]
  ·simp [h2]
 ·simp [h]
def Uf(CO CR CW:oP):Sp:=λvs H Q _=>∃(o:oP) (k:Nat) (l:List Nat) (ns:List Int) (u v:List Nat),vs=[.ref o,.str (tx u),.str (tx v)]/\OrdAt CO CR CW H o k l ns/\OG l ns k/\u.length<=1000/\v.length<=1000/\(∀c ∈ u,c ∈ l)/\(∀c ∈ v,c ∈ l)/\∀H':Hp,Same H H'->Q (.bl (zL k l ns u v)) H'
theorem jh:zq ["self","one","other"] ["self","one","other"] (zb yu):=⟨rfl,rfl,rfl,by decide +kernel,rfl,by decide +kernel,by decide +kernel⟩
theorem xK{f CO CR CW:oP}{fd:oU}(B:Bt mg)(DRk:DR P w K mg base CO CR CW)(F:Fun K "before" "Order.before" yu f fd) : FnOk P w K mg base CX0 3 f fd ["self","one","other"] (Uf CO CR CW):=by
 refine F.ok jh (λvs H Q E h=>?_) (λcdv A outer s H vs Q E hr h=>?_)
 ·obtain⟨o,k,l,ns,u,v,rfl,_⟩:=h
  rfl
 ·obtain⟨o,k,l,ns,u,v,rfl,ho,hG,hu,hv,hmu,hmv,q⟩:=h
  refine⟨_,(zh (zx (ug (zbn (Yh hr)) (K8 DRk hr (pv 0) (za (pv 1) ze)) (K8 DRk hr (pv 0) (za (pv 2) ze)) (zK _)))),?_⟩
  have s16:=ym
  ac_rfl
  obtain⟨C,dx,fs,hf,ho1,hn,_⟩:=ho.fam
  have h1:fs.lookup ("rank" : oW)=sG:=hn _ (by decide) (by decide)
  refine⟨C,hf,dx,fs,ho1,h1,o,k,l,ns,u,rfl,ho,hG,hu,hmu,λp x H1 s1 hp hx=>⟨C,hf,dx,fs,s1 _ _ ho1,h1,o,k,l,ns,v,rfl,ho.same s1,hG,hv,hmv,λp' x' H2 s2 hp' hx'=>?_⟩⟩
  refine JH (kW (s2 _ _ hp) (s2 _ _ hx)) (kW hp' hx') (by simp only[dpD,uO,Ys];decide) (by simp only[okD,kL];exact⟨trivial,qD _ _,trivial⟩) ?_
  rw[Vs]
  exact q H2 (s1.trans s2)
abbrev DB(P:oV)(w:oX)(K:oO)(mg:oW->Option oQ)(base:pb)(CO CR CW:oP):Prop:=DMF P w K mg base CX0 3 (zbf CO CR CW) "before" ["self","one","other"] (λ_=>Uf CO CR CW)
noncomputable def QY(k:Int)(ls:List Nat)(ns:List Int)(w:List Nat):Int:=(w.map λc=>if k=2 then ns.getD (ls.idxOf c) 0 else 1).sum
theorem UZ{k:Int}{ls:List Nat}{ns:List Int}{w:List Nat}(h:k≠2):QY k ls ns w=(w.length:Int):=by
 unfold QY
 induction w with
 | nil=>rfl
 | cons c w ih =>
  rw[aC,bt,ih,if_neg h,aM]
  lia
theorem qX{ls:List Nat}{ns:List Int}(f g:Nat->Int):((ls.zip ns).map λp=>(f p.1+g p.1) * p.2).sum=((ls.zip ns).map λp=>f p.1 * p.2).sum+((ls.zip ns).map λp=>g p.1 * p.2).sum:=by
 induction ls.zip ns with
 | nil=>rfl
 | cons p r ih =>
  rw[aC,aC,aC,bt,bt,bt,ih,Int.add_mul]
  lia
theorem VZ:∀{ls:List Nat} {ns:List Int} {c:Nat},ls.Nodup->ns.length=ls.length->c ∈ ls->((ls.zip ns).map λp=>(if p.1=c then (1:Int) else 0) * p.2).sum=ns.getD (ls.idxOf c) 0
 | [],ns,c,_,_,hc=>(nomatch hc)
 | d::ls,[],c,_,hl,_=>by cases hl
 | d::ls,n::ns,c,hn,hl,hc=>by
  rw[dg,aC,bt]
  have hnd:=List.nodup_cons.mp hn
  by_cases h:d=c
  ·subst h
   have h0:∀(l:List Nat) (m:List Int),d ∉ l->((l.zip m).map λp=>(if p.1=d then (1:Int) else 0) * p.2).sum=0:=by
    intro l
    induction l with
    | nil=>intro m _;rfl
    | cons x l ih =>
     intro m hx
     cases m with
     | nil=>rfl
     | cons y m =>
      rw[dg,aC,bt,ih m (λq=>hx (aw _ q)),if_neg (show ¬ x=d from λe=>hx (by rw[e];exact az))]
      lia
   rw[h0 ls ns hnd.1,if_pos rfl,List.idxOf_cons_self]
   simp
  ·have hc':c ∈ ls:=by
    rcases List.mem_cons.mp hc with e | e
    ·exact absurd e.symm h
    ·exact e
   rw[VZ hnd.2 (by simpa using hl) hc',if_neg h,List.idxOf_cons,show (d == c)=sI by simpa using h]
   simp
theorem Xq{ls:List Nat}{ns:List Int}(hn:ls.Nodup)(hl:ns.length=ls.length):∀{w:List Nat},(∀x ∈ w,x ∈ ls)->QY 2 ls ns w=Wv ls ns w
 | [],_=>by
  have h0:∀r:List (Nat × Int),(r.map λp=>((([]:List Nat).count p.1:Nat):Int) * p.2).sum=0:=by
   intro r
   induction r with
   | nil=>rfl
   | cons p r ih=>rw[aC,bt,ih];simp
  exact (h0 _).symm
 | c::w,h=>by
  have ih:=Xq hn hl (w:=w) λx hx=>h x (aw _ hx)
  have e1:QY 2 ls ns (c::w)=ns.getD (ls.idxOf c) 0+QY 2 ls ns w:=by
   unfold QY
   rw[aC,bt,if_pos rfl]
  rw[e1,ih,<- VZ hn hl (h c az)]
  unfold Wv
  rw[<- qX (λx=>if x=c then 1 else 0) (λx=>(w.count x:Int))]
  refine congrArg List.sum (cF λp _=>?_)
  rw[List.count_cons]
  by_cases e:c=p.1
  ·rw[if_pos e.symm,if_pos (by simpa using e)]
   simp [Int.add_comm]
  ·rw[if_neg (λz=>e z.symm),if_neg (by simpa using e)]
   simp
noncomputable def wt(k:Nat)(ns:List Int)(i:Int):Int:=if k=2 then ns.getD i.toNat 0 else 1
theorem wa{g:Int->Int}:∀{x:List Int},(∀i ∈ x,0<g i)->0<=(x.map g).sum
 | [],_=>by simp
 | a::x,h=>by
  have h1:=h a az
  have h2:=wa (x:=x) λi hi=>h i (aw _ hi)
  rw[aC,bt]
  lia
theorem wH:∀{x y:List Int},x≠y->ltI x y=!ltI y x
 | [],[],h=>absurd rfl h
 | [],_::_,_=>rfl
 | _::_,[],_=>rfl
 | a::x,b::y,h=>by
  rw[ltI,ltI]
  by_cases e:a=b
  ·rw[if_pos e,if_pos e.symm]
   exact wH λq=>h (by rw[e,q])
  ·rw[if_neg e,if_neg λq=>e q.symm]
   by_cases c:a<b
   ·rw[decide_eq_true c,decide_eq_false (by lia)]
    rfl
   ·rw[decide_eq_false c,decide_eq_true (by lia)]
    rfl
theorem qo:∀{x y z:List Int},ltI x y=sH->ltI y z=sH->ltI x z=sH
 | [],[],_,h,_=>by cases h
 | [],_::_,[],_,h=>by cases h
 | [],_::_,_::_,_,_=>rfl
 | _::_,[],_,h,_=>by cases h
 | _::_,_::_,[],_,h=>by cases h
 | a::x,b::y,c::z,h1,h2=>by
  rw[ltI] at h1 h2 ⊢
  by_cases e:a=b
  ·subst e
   rw[if_pos rfl] at h1
   by_cases f:a=c
   ·rw[if_pos f] at h2 ⊢
    exact qo h1 h2
   ·rw[if_neg f] at h2 ⊢
    exact h2
  ·rw[if_neg e] at h1
   have h1':=of_decide_eq_true h1
   by_cases f:b=c
   ·subst f
    rw[if_neg e]
    exact h1
   ·rw[if_neg f] at h2
    have h2':=of_decide_eq_true h2
    rw[if_neg (by lia)]
    exact decide_eq_true (by lia)
theorem Yr:∀(c x y:List Int),ltI (c ++ x) (c ++ y)=ltI x y
 | [],_,_=>rfl
 | a::c,x,y=>by
  rw[bF,bF,ltI,if_pos rfl]
  exact Yr c x y
theorem YN{g:Int->Int}{c:List Int}:∀{x y:List Int},(∀i ∈ x,0<g i)->(∀i ∈ y,0<g i)->(x.map g).sum=(y.map g).sum->ltI (x ++ c) (y ++ c)=ltI x y
 | [],[],_,_,_=>xF c
 | [],b::y,_,hy,h=>by
  have h1:=hy b az
  have h2:=wa (x:=y) λi hi=>hy i (aw _ hi)
  rw[aC,bt,aN,List.sum_nil] at h
  lia
 | a::x,[],hx,_,h=>by
  have h1:=hx a az
  have h2:=wa (x:=x) λi hi=>hx i (aw _ hi)
  rw[aC,bt,aN,List.sum_nil] at h
  lia
 | a::x,b::y,hx,hy,h=>by
  rw[bF,bF,ltI,ltI]
  by_cases e:a=b
  ·rw[if_pos e,if_pos e]
   rw[aC,bt,aC,bt,e] at h
   exact YN (λi hi=>hx i (aw _ hi)) (λi hi=>hy i (aw _ hi)) (by lia)
  ·rw[if_neg e,if_neg e]
section
variable{k:Nat}{l:List Nat}{ns:List Int}{t u v:List Nat}
theorem Qp(a b:List Nat):Wv l ns (a ++ b)=Wv l ns a+Wv l ns b:=by
 unfold Wv
 rw[<- qX (λx=>(a.count x:Int)) (λx=>(b.count x:Int))]
 refine congrArg List.sum (cF λp _=>?_)
 rw[List.count_append]
 simp
theorem y0(a b:List Nat):zv k l ns (a ++ b)=zv k l ns a+zv k l ns b:=by
 unfold zv
 by_cases h:k=2
 ·rw[if_pos h,if_pos h,if_pos h,Qp]
 ·rw[if_neg h,if_neg h,if_neg h,am]
  lia
theorem xC(G:OG l ns k):∀{w:List Nat},(∀c ∈ w,c ∈ l)->zv k l ns w=((jk l w).map (wt k ns)).sum:=by
 intro w hm
 have hn:l.Nodup:=(of_decide_eq_true G.g).2.2.2
 have e:((jk l w).map (wt k ns)).sum=QY (k:Int) l ns w:=by
  unfold jk QY
  rw[dw]
  refine congrArg List.sum (cF λc _=>?_)
  show wt k ns _=_
  unfold wt
  by_cases h:k=2
  ·rw[if_pos h,if_pos (by lia),aX]
  ·rw[if_neg h,if_neg (by lia)]
 rw[e]
 unfold zv
 by_cases h:k=2
 ·rw[if_pos h,h]
  exact (Xq hn G.nl hm).symm
 ·rw[if_neg h,UZ (by lia)]
theorem Zy(G:OG l ns k)(hm:∀c ∈ u,c ∈ l):∀i ∈ jk l u,0<wt k ns i:=by
 intro i hi
 obtain⟨c,hc,rfl⟩:=List.mem_map.mp hi
 have hlt:=cq (hm c hc)
 have hl:=G.nl
 unfold wt
 split
 ·rw[aX,ac,al (by lia)]
  have:=(G.nb _ (List.getElem_mem (l:=ns) (n:=l.idxOf c) (by lia))).1
  show 0<ns[l.idxOf c]
  lia
 ·decide
theorem wB(G:OG l ns k)(hm:∀c ∈ u,c ∈ l):0<=zv k l ns u:=by
 rw[xC G hm]
 exact wa (Zy G hm)
theorem ud(G:OG l ns k)(hm:∀c ∈ u,c ∈ l)(h:u≠[]):0<zv k l ns u:=by
 cases u with
 | nil=>exact absurd rfl h
 | cons a u =>
  have h1:=Zy G hm (l.idxOf a:Nat) (List.mem_map.mpr ⟨a,az,rfl⟩)
  have h2:0<=((jk l u).map (wt k ns)).sum:=wa (Zy (u:=u) G λc hc=>hm c (aw _ hc))
  rw[xC G hm]
  show 0<((((l.idxOf a:Nat):Int)::jk l u).map (wt k ns)).sum
  rw[aC,bt]
  lia
theorem kM:∀{u v:List Nat},(∀c ∈ u,c ∈ l)->(∀c ∈ v,c ∈ l)->jk l u=jk l v->u=v
 | [],[],_,_,_=>rfl
 | [],_::_,_,_,h=>by cases h
 | _::_,[],_,_,h=>by cases h
 | a::u,b::v,hu,hv,h=>by
  unfold jk at h
  rw[aC,aC] at h
  injection h with h1 h2
  have h3:l.idxOf a=l.idxOf b:=by lia
  have ha:=dL (cq (hu a az))
  have hb:=dL (cq (hv b az))
  have:a=b:=by
   rw[<- ha,<- hb]
   simp only[h3]
  rw[this,kM (λc hc=>hu c (aw _ hc)) (λc hc=>hv c (aw _ hc)) h2]
theorem yj:zL k l ns u u=sI:=by
 unfold zL
 rw[if_pos rfl,xF]
theorem YZ(hu:∀c ∈ u,c ∈ l)(hv:∀c ∈ v,c ∈ l)(h:qV k l u=qV k l v):u=v:=by
 unfold qV xI at h
 by_cases e:k=1
 ·rw[if_pos e,if_pos e] at h
  exact List.reverse_inj.mp (kM (λc hc=>hu c (List.mem_reverse.mp hc)) (λc hc=>hv c (List.mem_reverse.mp hc)) h)
 ·rw[if_neg e,if_neg e] at h
  exact kM hu hv h
theorem qp(hu:∀c ∈ u,c ∈ l)(hv:∀c ∈ v,c ∈ l)(h:u≠v):zL k l ns u v=!zL k l ns v u:=by
 unfold zL
 by_cases e:zv k l ns u=zv k l ns v
 ·rw[if_pos e,if_pos e.symm]
  exact wH λq=>h (YZ hu hv q)
 ·rw[if_neg e,if_neg λq=>e q.symm]
  by_cases c:zv k l ns u<zv k l ns v
  ·rw[decide_eq_true c,decide_eq_false (by lia)]
   rfl
  ·rw[decide_eq_false c,decide_eq_true (by lia)]
   rfl
theorem yI(h1:zL k l ns t u=sH)(h2:zL k l ns u v=sH):zL k l ns t v=sH:=by
 unfold zL at h1 h2 ⊢
 generalize zv k l ns t=a at *
 generalize zv k l ns u=b at *
 generalize zv k l ns v=c at *
 by_cases e:a=b
 ·subst e
  rw[if_pos rfl] at h1
  by_cases f:a=c
  ·rw[if_pos f] at h2 ⊢
   exact qo h1 h2
  ·rw[if_neg f] at h2 ⊢
   exact h2
 ·rw[if_neg e] at h1
  have h1':=of_decide_eq_true h1
  by_cases f:b=c
  ·subst f
   rw[if_neg e]
   exact h1
  ·rw[if_neg f] at h2
   have h2':=of_decide_eq_true h2
   rw[if_neg (by lia)]
   exact decide_eq_true (by lia)
theorem Xv(a b:List Nat):jk l (a ++ b)=jk l a ++ jk l b:=aH
theorem ZZ(G:OG l ns k)(hu:∀c ∈ u,c ∈ l)(hv:∀c ∈ v,c ∈ l)(e:zv k l ns u=zv k l ns v)(c:List Int):ltI (jk l u ++ c) (jk l v ++ c)=ltI (jk l u) (jk l v):=by
 rw[xC G hu,xC G hv] at e
 exact YN (Zy G hu) (Zy G hv) e
theorem jN(G:OG l ns k)(hu:∀c ∈ u,c ∈ l):zv k l ns u.reverse=zv k l ns u:=by
 rw[xC G hu,xC G λc hc=>hu c (List.mem_reverse.mp hc)]
 unfold jk
 rw[List.map_reverse,List.map_reverse,List.sum_reverse]
theorem vK(G:OG l ns k)(ht:∀c ∈ t,c ∈ l)(hu:∀c ∈ u,c ∈ l)(hv:∀c ∈ v,c ∈ l):zL k l ns (t ++ u) (t ++ v)=zL k l ns u v/\zL k l ns (u ++ t) (v ++ t)=zL k l ns u v:=by
 have hur:∀c ∈ u.reverse,c ∈ l:=λc hc=>hu c (List.mem_reverse.mp hc)
 have hvr:∀c ∈ v.reverse,c ∈ l:=λc hc=>hv c (List.mem_reverse.mp hc)
 unfold zL
 rw[y0,y0,y0,y0]
 by_cases e:zv k l ns u=zv k l ns v
 ·rw[if_pos (by lia),if_pos e,if_pos (by lia)]
  unfold qV xI
  by_cases f:k=1
  ·simp only[if_pos f,List.reverse_append,Xv]
   exact⟨ZZ G hur hvr (by rw[jN G hu,jN G hv,e]) _,Yr _ _ _⟩
  ·simp only[if_neg f,Xv]
   exact⟨Yr _ _ _,ZZ G hu hv e _⟩
 ·rw[if_neg (by lia),if_neg e,if_neg (by lia)]
  exact⟨by congr 1;exact propext (by lia),by congr 1;exact propext (by lia)⟩
theorem Qn(G:OG l ns k)(ht:∀c ∈ t,c ∈ l)(hu:∀c ∈ u,c ∈ l)(hv:∀c ∈ v,c ∈ l)(h:t ++ u ++ v≠u):zL k l ns u (t ++ u ++ v)=sH/\zL k l ns (t ++ u ++ v) u=sI:=by
 have h0:0<zv k l ns t+zv k l ns v:=by
  have h1:=wB G ht
  have h2:=wB G hv
  by_cases e:t=[]
  ·by_cases f:v=[]
   ·subst e f
    simp at h
   ·have:=ud G hv f
    lia
  ·have:=ud G ht e
   lia
 unfold zL
 rw[y0,y0,if_neg (by lia),if_neg (by lia)]
 exact⟨decide_eq_true (by lia),decide_eq_false (by lia)⟩
end
theorem ZC:∀x y:List Int,ltI x y=sH->ltI y x=sI
 | [],[],h=>by cases h
 | [],_::_,_=>rfl
 | _::_,[],h=>by cases h
 | a::x,b::y,h=>by
  rw[ltI] at h ⊢
  by_cases e:a=b
  ·rw[if_pos e] at h
   rw[if_pos e.symm]
   exact ZC x y h
  ·rw[if_neg e] at h
   rw[if_neg (λq=>e q.symm)]
   have:=of_decide_eq_true h
   exact decide_eq_false (by lia)
theorem YE{k:Nat}{l:List Nat}{ns:List Int}{u v:List Nat}(h:zL k l ns u v=sH):zL k l ns v u=sI:=by
 unfold zL at h ⊢
 by_cases e:zv k l ns u=zv k l ns v
 ·rw[if_pos e] at h
  rw[if_pos e.symm]
  exact ZC _ _ h
 ·rw[if_neg e] at h
  rw[if_neg (λq=>e q.symm)]
  have:=of_decide_eq_true h
  exact decide_eq_false (by lia)
noncomputable def stJ(l:List Nat)(ps:List zr)(q j:Nat):Bool:=((ps[j]?).map λp=>zu l (q:Int) p.1).getD sI
theorem jv{l:List Nat}{ps:List zr}{q j:Nat}{p:zr}(h:ps[j]? = sF p):stJ l ps q j=zu l (q:Int) p.1:=by
 unfold stJ
 rw[h]
 rfl
theorem wU{l:List Nat}{ps:List zr}{q j:Nat}(h:stJ l ps q j=sH):j<ps.length/\∃p,ps[j]? = sF p/\zu l (q:Int) p.1=sH:=by
 unfold stJ at h
 cases e:ps[j]? with
 | none=>rw[e] at h;cases h
 | some p =>
  rw[e] at h
  exact⟨(List.getElem?_eq_some_iff.mp e).1,p,rfl,h⟩
noncomputable def qB(l:List Nat)(ps:List zr)(q i:Nat):List (Nat × Nat):=((aY i).filter (stJ l ps q)).map λj=>(j,q)
noncomputable def xP(l:List Nat)(ps:List zr)(k:Nat):List (Nat × Nat):=(aY k).flatMap λq=>qB l ps q ps.length
theorem Wd(l:List Nat)(ps:List zr)(q i:Nat):qB l ps q (i+1)=qB l ps q i ++ (if stJ l ps q i=sH then [(i,q)] else []):=by
 unfold qB
 rw[cM,cN,aH]
 congr 1
 by_cases h:stJ l ps q i=sH
 ·rw[if_pos h,eC h]
  rfl
 ·rw[if_neg h,eD h]
  rfl
theorem jL(l:List Nat)(ps:List zr)(k:Nat):xP l ps (k+1)=xP l ps k ++ qB l ps k ps.length:=by
 unfold xP
 rw[cM,cY]
 simp
theorem Ut(l:List Nat)(ps:List zr)(q i:Nat):(qB l ps q i).length<=i:=by
 unfold qB
 rw[ae]
 have:=cQ (stJ l ps q) (aY i)
 rw[dj] at this
 exact this
theorem WU(l:List Nat)(ps:List zr):∀k,(xP l ps k).length<=k * ps.length
 | 0=>by simp [xP]
 | k+1=>by
  rw[jL,am,d5]
  have:=WU l ps k
  have:=Ut l ps k ps.length
  lia
theorem usesN_mem{l:List Nat}{ps:List zr}{q i:Nat}{u:Nat × Nat}:u ∈ qB l ps q i ↔ u.2=q/\u.1<i/\stJ l ps q u.1=sH:=by
 unfold qB
 rw[List.mem_map]
 constructor
 ·rintro⟨j,hj,rfl⟩
  rw[List.mem_filter,eP] at hj
  exact⟨rfl,hj.1,hj.2⟩
 ·rintro⟨h1,h2,h3⟩
  exact⟨u.1,List.mem_filter.mpr ⟨List.mem_range.mpr h2,h3⟩,by rw[<- h1]⟩
theorem usesK_mem{l:List Nat}{ps:List zr}{k:Nat}{u:Nat × Nat}:u ∈ xP l ps k ↔ u.2<k/\stJ l ps u.2 u.1=sH:=by
 unfold xP
 rw[List.mem_flatMap]
 constructor
 ·rintro⟨q,hq,hu⟩
  obtain⟨h1,h2,h3⟩:=usesN_mem.mp hu
  rw[eP] at hq
  rw[h1]
  exact⟨hq,h3⟩
 ·rintro⟨h1,h2⟩
  exact⟨u.2,List.mem_range.mpr h1,usesN_mem.mpr ⟨rfl,(wU h2).1,h2⟩⟩
def uLt(a b:Nat × Nat):Prop:=a.2<b.2\/(a.2=b.2/\a.1<b.1)
theorem ux(l:List Nat)(ps:List zr)(q:Nat):∀i,(qB l ps q i).Pairwise uLt
 | 0=>by simp [qB]
 | i+1=>by
  rw[Wd]
  refine List.pairwise_append.mpr ⟨ux l ps q i,?_,λa ha b hb=>?_⟩
  ·split
   ·exact eh _ _
   ·exact List.Pairwise.nil
  ·obtain⟨h1,h2,_⟩:=usesN_mem.mp ha
   split at hb
   ·rw[List.mem_singleton.mp hb]
    exact .inr ⟨h1,h2⟩
   ·cases hb
theorem wV(l:List Nat)(ps:List zr):∀k,(xP l ps k).Pairwise uLt
 | 0=>by simp [xP]
 | k+1=>by
  rw[jL]
  refine List.pairwise_append.mpr ⟨wV l ps k,ux l ps k _,λa ha b hb=>?_⟩
  have h1:=(usesK_mem.mp ha).1
  have h2:=(usesN_mem.mp hb).1
  exact .inl (by lia)
def FirstN(l:List Nat)(ps:List zr)(lo hi n:Nat)(r:Option (Nat × Nat)):Prop :=
 (r=sG/\∀j q,j<n->lo<=q->q<hi->stJ l ps q j=sI) \/
 ∃n0 q0,r=sF (n0,q0)/\n0<n/\lo<=q0/\q0<hi/\stJ l ps q0 n0=sH/\∀j q,j<n->lo<=q->stJ l ps q j=sH->q0<q\/(q0=q/\n0<=j)
theorem FirstN.uniq{l:List Nat}{ps:List zr}{lo hi n:Nat}{r r':Option (Nat × Nat)}(h:FirstN l ps lo hi n r)(h':FirstN l ps lo hi n r'):r=r':=by
 rcases h with ⟨rfl,h⟩ | ⟨n0,q0,rfl,a1,a2,a3,a4,a5⟩
 ·rcases h' with ⟨rfl,_⟩ | ⟨n0,q0,rfl,a1,a2,a3,a4,a5⟩
  ·rfl
  ·rw[h n0 q0 a1 a2 a3] at a4
   cases a4
 ·rcases h' with ⟨rfl,h⟩ | ⟨n1,q1,rfl,b1,b2,b3,b4,b5⟩
  ·rw[h n0 q0 a1 a2 a3] at a4
   cases a4
  ·have x1:=a5 n1 q1 b1 b2 b4
   have x2:=b5 n0 q0 a1 a2 a4
   have e1:q0=q1:=by lia
   have e2:n0=n1:=by lia
   rw[e1,e2]
theorem Wl{l:List Nat}{ps:List zr}{r:Option (Nat × Nat)}(h:FirstN l ps 0 l.length ps.length r):r=(xP l ps l.length).head?:=by
 have hs:=wV l ps l.length
 refine h.uniq ?_
 cases e:xP l ps l.length with
 | nil =>
  refine .inl ⟨rfl,λj q _ _ hq=>?_⟩
  cases hb:stJ l ps q j with
  | false=>rfl
  | true =>
   have:(j,q) ∈ xP l ps l.length:=usesK_mem.mpr ⟨hq,hb⟩
   rw[e] at this
   cases this
 | cons u us =>
  rw[e] at hs
  have hu:u ∈ xP l ps l.length:=by rw[e];exact az
  obtain⟨h1,h2⟩:=usesK_mem.mp hu
  refine .inr ⟨u.1,u.2,rfl,(wU h2).1,aJ _,h1,h2,λj q hj _ hb=>?_⟩
  by_cases hq:q<l.length
  ·have:(j,q) ∈ xP l ps l.length:=usesK_mem.mpr ⟨hq,hb⟩
   rw[e] at this
   rcases List.mem_cons.mp this with e2 | e2
   ·rw[<- e2]
    exact .inr ⟨rfl,au _⟩
   ·rcases (List.pairwise_cons.mp hs).1 _ e2 with h | ⟨h,h'⟩
    ·exact .inl h
    ·exact .inr ⟨h,de h'⟩
  ·exact .inl (by lia)
theorem je{l p:List Nat}{q:Nat}(hp:p≠[])(h:zu l (q:Int) p=sH):q<l.length:=by
 obtain⟨h0,h1,_⟩:=of_decide_eq_true h
 have:0<p.length:=List.length_pos_iff.mpr hp
 lia
theorem FirstN.keep{l:List Nat}{ps:List zr}{lo hi n:Nat}{r:Option (Nat × Nat)}{p:zr}(h:FirstN l ps lo hi n r)(hp:ps[n]? = sF p)(hn:∀q:Nat,lo<=q->q<(r.map Prod.snd).getD hi->zu l (q:Int) p.1=sI):FirstN l ps lo hi (n+1) r:=by
 rcases h with ⟨rfl,h⟩ | ⟨n0,q0,rfl,a1,a2,a3,a4,a5⟩
 ·refine .inl ⟨rfl,λj q hj h1 h2=>?_⟩
  by_cases e:j<n
  ·exact h j q e h1 h2
  ·have:j=n:=by lia
   subst this
   rw[jv hp]
   exact hn q h1 h2
 ·refine .inr ⟨n0,q0,rfl,by lia,a2,a3,a4,λj q hj h1 h2=>?_⟩
  by_cases e:j<n
  ·exact a5 j q e h1 h2
  ·have:j=n:=by lia
   subst this
   rw[jv hp] at h2
   by_cases hq:q<q0
   ·rw[hn q h1 hq] at h2
    cases h2
   ·lia
theorem FirstN.take{l:List Nat}{ps:List zr}{lo hi n k:Nat}{r:Option (Nat × Nat)}{p:zr}(h:FirstN l ps lo hi n r)(hp:ps[n]? = sF p)(h1:lo<=k)(h2:k<(r.map Prod.snd).getD hi)(h3:zu l (k:Int) p.1=sH)(hn:∀q:Nat,lo<=q->q<k->zu l (q:Int) p.1=sI):FirstN l ps lo hi (n+1) (sF (n,k)):=by
 have hk:k<hi/\∀j q,j<n->lo<=q->stJ l ps q j=sH->k<q:=by
  rcases h with ⟨rfl,h⟩ | ⟨n0,q0,rfl,a1,a2,a3,a4,a5⟩
  ·refine⟨h2,λj q hj hl hb=>?_⟩
   by_cases hq:q<hi
   ·rw[h j q hj hl hq] at hb
    cases hb
   ·have h2':k<hi:=h2
    lia
  ·have h2':k<q0:=h2
   refine⟨by lia,λj q hj hl hb=>?_⟩
   have:=a5 j q hj hl hb
   lia
 refine .inr ⟨n,k,rfl,by lia,h1,hk.1,by rw[jv hp];exact h3,λj q hj hl hb=>?_⟩
 by_cases e:j<n
 ·exact .inl (hk.2 j q e hl hb)
 ·have:j=n:=by lia
  subst this
  rw[jv hp] at hb
  by_cases hq:q<k
  ·rw[hn q hl hq] at hb
   cases hb
  ·lia
theorem FirstN.window{l:List Nat}{ps:List zr}{lo mid hi n:Nat}{r:Option (Nat × Nat)}(h0:FirstN l ps lo mid n sG)(hm:lo<=mid)(h:FirstN l ps mid hi n r):FirstN l ps lo hi n r:=by
 have h0':∀j q,j<n->lo<=q->q<mid->stJ l ps q j=sI:=by
  rcases h0 with ⟨_,h⟩ | ⟨_,_,h,_⟩
  ·exact h
  ·cases h
 rcases h with ⟨rfl,h⟩ | ⟨n0,q0,rfl,a1,a2,a3,a4,a5⟩
 ·refine .inl ⟨rfl,λj q hj h1 h2=>?_⟩
  by_cases e:q<mid
  ·exact h0' j q hj h1 e
  ·exact h j q hj (by lia) h2
 ·refine .inr ⟨n0,q0,rfl,a1,by lia,a3,a4,λj q hj h1 h2=>?_⟩
  by_cases e:q<mid
  ·rw[h0' j q hj h1 e] at h2
   cases h2
  ·exact a5 j q hj (by lia) h2
def NeL(ps:List zr):Prop:=∀p ∈ ps,p.1≠[]
theorem FirstN.toEnd{l:List Nat}{ps:List zr}{lo hi n:Nat}{r:Option (Nat × Nat)}(hN:NeL ps)(h:FirstN l ps lo hi n r)(hl:r=sG->l.length<=hi):FirstN l ps lo l.length n r:=by
 have hlt:∀j q,stJ l ps q j=sH->q<l.length:=λj q hb=>by
  obtain⟨_,p,hp,hs⟩:=wU hb
  exact je (hN p (af hp)) hs
 rcases h with ⟨rfl,h⟩ | ⟨n0,q0,rfl,a1,a2,a3,a4,a5⟩
 ·exact .inl ⟨rfl,λj q hj h1 h2=>h j q hj h1 (by have:=hl rfl;lia)⟩
 ·exact .inr ⟨n0,q0,rfl,a1,a2,hlt _ _ a4,a4,a5⟩
noncomputable def zF(l:List Nat)(ps:List zr):Option (Nat × Nat):=(xP l ps l.length).head?
theorem YW{l:List Nat}{ps:List zr}{r:Option (Nat × Nat)}(h:FirstN l ps 0 l.length ps.length r):r=zF l ps:=Wl h
theorem Y4(l:List Nat)(ps:List zr)(hN:NeL ps):FirstN l ps 0 l.length ps.length (zF l ps):=by
 have hs:=wV l ps l.length
 unfold zF
 cases e:xP l ps l.length with
 | nil =>
  refine .inl ⟨rfl,λj q _ _ hq=>?_⟩
  cases hb:stJ l ps q j with
  | false=>rfl
  | true =>
   have:(j,q) ∈ xP l ps l.length:=usesK_mem.mpr ⟨hq,hb⟩
   rw[e] at this
   cases this
 | cons u us =>
  rw[e] at hs
  have hu:u ∈ xP l ps l.length:=by rw[e];exact az
  obtain⟨h1,h2⟩:=usesK_mem.mp hu
  refine .inr ⟨u.1,u.2,rfl,(wU h2).1,aJ _,h1,h2,λj q hj _ hb=>?_⟩
  have hq:q<l.length:=by
   obtain⟨_,p,hp,hs⟩:=wU hb
   exact je (hN p (af hp)) hs
  have:(j,q) ∈ xP l ps l.length:=usesK_mem.mpr ⟨hq,hb⟩
  rw[e] at this
  rcases List.mem_cons.mp this with e2 | e2
  ·rw[<- e2]
   exact .inr ⟨rfl,au _⟩
  ·rcases (List.pairwise_cons.mp hs).1 _ e2 with h | ⟨h,h'⟩
   ·exact .inl h
   ·exact .inr ⟨h,de h'⟩
noncomputable def YR(ps:List zr)(n:Nat):zr:=ps.getD n ([],[])
theorem xJ{ps:List zr}{n:Nat}{p:zr}(h:ps[n]? = sF p):YR ps n=p:=by
 unfold YR
 rw[ac,h]
 rfl
noncomputable def Z6(l:List Nat)(ps:List zr)(u:Nat × Nat):List Nat:=yR l (u.2:Int) (YR ps u.1).1 (YR ps u.1).2
noncomputable def Xb(ps:List zr)(l:List Nat):List Nat:=((zF l ps).map (Z6 l ps)).getD l
noncomputable def wAt(ps:List zr)(l:List Nat):Nat->List Nat
 | 0=>l
 | j+1=>Xb ps (wAt ps l j)
noncomputable def sAt(ps:List zr)(l:List Nat)(j:Nat):List (Nat × Nat):=(aY j).map λi=>(zF (wAt ps l i) ps).getD (0,0)
theorem Xe(ps:List zr)(l:List Nat)(j:Nat):sAt ps l (j+1)=sAt ps l j ++ [(zF (wAt ps l j) ps).getD (0,0)]:=by
 unfold sAt
 rw[cM,aH]
 rfl
theorem Yb(ps:List zr)(l:List Nat)(j:Nat):(sAt ps l j).length=j:=by
 unfold sAt
 rw[ae,dj]
theorem wq{ps:List zr}{l:List Nat}{j:Nat}{u:Nat × Nat}(h:zF (wAt ps l j) ps=sF u):wAt ps l (j+1)=Z6 (wAt ps l j) ps u:=by
 show Xb ps (wAt ps l j)=_
 unfold Xb
 rw[h]
 rfl
def Wa(ps:List zr)(l:List Nat)(j:Nat):Prop:=∀i,i<j->zF (wAt ps l i) ps≠sG
theorem UP{ps:List zr}{l:List Nat}{i j:Nat}(h1:Wa ps l i)(h2:zF (wAt ps l i) ps=sG)(h3:Wa ps l j)(h4:zF (wAt ps l j) ps=sG):i=j:=by
 rcases dU i j with h | h | h
 ·exact absurd h2 (h3 i h)
 ·exact h
 ·exact absurd h4 (h1 j h)
theorem Wt{l:List Nat}{ps:List zr}{n q M lo:Nat}(h:FirstN l ps 0 l.length ps.length (sF (n,q)))(hN:NeL ps)(hM:∀p ∈ ps,p.1.length<=M)(hlo:lo=0\/lo+M<=q+1):FirstN (Z6 l ps (n,q)) ps 0 lo ps.length sG:=by
 refine .inl ⟨rfl,λj x hj _ hx=>?_⟩
 rcases h with ⟨h,_⟩ | ⟨n0,q0,e,a1,a2,a3,a4,a5⟩
 ·cases h
 ·injection e with e
  injection e with e1 e2
  subst e1 e2
  cases hb:stJ (Z6 l ps (n,q)) ps x j with
  | false=>rfl
  | true =>
   obtain⟨_,p,hp,hs⟩:=wU hb
   have hpm:=hM p (af hp)
   have hpn:=List.length_pos_iff.mpr (hN p (af hp))
   have hxq:x+p.1.length<=q:=by lia
   obtain⟨s0,s1,s2⟩:=of_decide_eq_true hs
   rw[aX] at s2
   obtain⟨_,p2,hp2,hs2⟩:=wU a4
   obtain⟨t0,t1,t2⟩:=of_decide_eq_true hs2
   have e4:(Z6 l ps (n,q)).take q=l.take q:=by
    unfold Z6 yR
    rw[aX,ax,aU (by rw[aK];lia),eQ,e7]
   have e5:∀z:List Nat,((z.take q).drop x).take p.1.length=(z.drop x).take p.1.length:=λz=>by
    rw[List.drop_take,eQ]
    congr 1
    lia
   have s3:(l.drop x).take p.1.length=p.1:=by rw[<- e5,<- e4,e5,s2]
   have:stJ l ps x j=sH:=by
    rw[jv hp]
    exact decide_eq_true ⟨by lia,by lia,by rw[aX];exact s3⟩
   have:=a5 j x hj (aJ _) this
   lia
theorem FirstN.lower{l:List Nat}{ps:List zr}{lo hi n:Nat}(h:FirstN l ps 0 hi n sG)(hl:lo<=hi):FirstN l ps 0 lo n sG:=by
 rcases h with ⟨_,h⟩ | ⟨_,_,h,_⟩
 ·exact .inl ⟨rfl,λj q hj h1 h2=>h j q hj h1 (by lia)⟩
 ·cases h
theorem QK{l:List Nat}{ps:List zr}{n q m:Nat}(h:FirstN l ps 0 l.length ps.length (sF (n,q)))(hm:∀p ∈ ps,p.2.length<=m):(Z6 l ps (n,q)).length<=l.length+m:=by
 rcases h with ⟨h,_⟩ | ⟨n0,q0,e,a1,a2,a3,a4,a5⟩
 ·cases h
 ·injection e with e
  injection e with e1 e2
  subst e1 e2
  obtain⟨_,p,hp,hs⟩:=wU a4
  have:=hm p (af hp)
  have er:=xJ hp
  unfold Z6 yR
  simp only[am,aK,br,er]
  lia
theorem qF{ps:List zr}{l:List Nat}{m:Nat}(hN:NeL ps)(hm:∀p ∈ ps,p.2.length<=m):∀j,(wAt ps l j).length<=l.length+j * m
 | 0=>by simp [wAt]
 | j+1=>by
  have ih:=qF (l:=l) hN hm j
  have hf:=Y4 (wAt ps l j) ps hN
  rw[d5]
  cases e:zF (wAt ps l j) ps with
  | none =>
   show (Xb ps (wAt ps l j)).length<=_
   unfold Xb
   rw[e]
   show (wAt ps l j).length<=_
   lia
  | some u =>
   rw[wq e]
   rw[e] at hf
   obtain⟨a,b⟩:=u
   have:=QK hf hm
   lia
def UseAt(H:Hp)(r:Option (Nat × Nat))(v:V):Prop:=(r=sG/\v=.non)\/∃(n q:Nat) (p:oP),r=sF (n,q)/\v=.ref p/\H p=sF (.tup [.int (n:Nat),.int (q:Nat)])
theorem UseAt.same{H H':Hp}{r:Option (Nat × Nat)}{v:V}(h:UseAt H r v)(s:Same H H'):UseAt H' r v:=by
 rcases h with h | ⟨n,q,p,h1,h2,h3⟩
 ·exact .inl h
 ·exact .inr ⟨n,q,p,h1,h2,s _ _ h3⟩
theorem Vq{l p:List Nat}{lo hi:Int}{H:Hp}{Q:VK}(h0:0<=lo)(h1:0<=hi)(h:∀r:Int,((r=-1/\∀q:Nat,lo<=q->(q:Int)+p.length<=hi->zu l q p=sI)\/∃k:Nat,r=k/\lo<=k/\(k:Int)+p.length<=hi/\zu l k p=sH/\∀q:Nat,lo<=q->q<k->zu l q p=sI)->Q (.int r) H):Jw (.str (tx l)) [.str (tx p),.int lo,.int hi] H Q:=by
 refine⟨l,p,lo,hi,rfl,rfl,h0,h1,λr hr=>h r ?_⟩
 have no:∀q:Nat,((l.drop q).take p.length≠p\/¬ q+p.length<=l.length)->zu l q p=sI:=λq hq=>decide_eq_false λ⟨_,b,c⟩=>by
  rcases hq with hq | hq
  ·exact hq c
  ·lia
 rcases hr with ⟨rfl,hn⟩ | ⟨k,rfl,k1,k2,k3,k4,hn⟩
 ·refine .inl ⟨rfl,λq q1 q2=>no q ?_⟩
  by_cases e:q+p.length<=l.length
  ·exact .inl (hn q q1 q2 e)
  ·exact .inr e
 ·exact .inr ⟨k,rfl,k1,k2,decide_eq_true ⟨by lia,by lia,k4⟩,λq q1 q2=>no q (.inl (hn q q1 q2))⟩
def w4(K:oO):Sp:=λvs H Q _=>∃(a:oP) (l:List Nat) (ps:List zr) (st en:Nat),vs=[.ref a,.str (tx l),.int (st:Nat),.int (en:Nat)]/\LsA K H a (ps.map dR)/\NeL ps/\(∀p ∈ ps,p.1.length<=1000)/\∀(r:Option (Nat × Nat)) (v:V) (H':Hp),Same H H'->UseAt H' r v->FirstN l ps st en ps.length r->Q v H'
theorem Yf{a:oP}{l:List Nat}{ps:List zr}{st en:Nat}{s e:Int}{H:Hp}{Q:VK}{E:XK}(hs:s=(st:Nat))(he:e=(en:Nat))(hA:LsA K H a (ps.map dR))(hN:NeL ps)(hP:∀p ∈ ps,p.1.length<=1000)(q:∀(r:Option (Nat × Nat)) (v:V) (H':Hp),Same H H'->UseAt H' r v->FirstN l ps st en ps.length r->Q v H'):w4 K [.ref a,.str (tx l),.int s,.int e] H Q E:=by
 subst hs he
 exact⟨a,l,ps,st,en,rfl,hA,hN,hP,q⟩
theorem fN:zq ["rules","word","start","end","found","number","rule","place"] ["rules","word","start","end"] (zb yw):=⟨rfl,rfl,rfl,by decide +kernel,rfl,by decide +kernel,by decide +kernel⟩
theorem qU{f:oP}{fd:oU}(B:Bt mg)(F:Fun K "first_within" "first_within" yw f fd) : FnOk P w K mg base CX0 1 f fd ["rules","word","start","end"] (w4 K):=by
 refine F.ok fN (λvs H Q E h=>?_) (λcdv A outer s H vs Q E hr h=>?_)
 ·obtain⟨a,l,ps,st,en,rfl,_⟩:=h
  rfl
 ·obtain⟨a,l,ps,st,en,rfl,hA,hN,hP,q⟩:=h
  refine⟨_,(zi (zt (i:=4) fN.nd rfl (Or.inl rfl) wj)
   (zi (yE PassesOwn.never rfl (va rfl B.enum (za (pv 0) ze)) (uA (n:=2) rfl (z8 (zC (i:=5) fN.nd rfl (Or.inl rfl)) (z8 (zC (i:=6) fN.nd rfl (Or.inl rfl)) wM)))
    (zN (zt (i:=7) fN.nd rfl (Or.inl rfl) (vM cP PySem.F.slot_str_find PySem.F.type_str_find Kx (pv 1) (za (zw ix_tup (pv 6) zg (λ_ _=>rfl)) (za (pv 2) (za (zB op_add (zB qx (pv 3) zg) (zp zX rfl B.len aB (za (zw ix_tup (pv 6) zg (λ_ _=>rfl)) ze))) ze)))))
    (zh (z9 (zI op_ge' (pv 7) zg (zK _))
     (zN (zt (i:=4) fN.nd rfl (Or.inl rfl) (ya (za (pv 5) (za (pv 7) ze))))
     (zh (zt (i:=3) fN.nd rfl (Or.inl rfl) (pv 7))))
     zD))))
   (zh (zx (pv 4))))),?_⟩
  have s16:=ym
  obtain⟨xs,hX,hI⟩:=id hA
  have hxl:=hI.len
  rw[ae] at hxl
  have s16:=ym
  refine zj (λσ H'=>H'=H/\σ=[sF (.ref a),sF (.str (tx l)),sF (.int (st:Nat)),sF (.int (en:Nat)),sF (.non),sG,sG,sG]) ?_ ?_
  ·rfl'
  rintro σ H1 ⟨rfl,rfl⟩
  refine zj (λσ H'=>Same H1 H'/\∃(r:Option (Nat × Nat)) (v:V) (v3 v5 v6 v7:Option V),UseAt H' r v/\FirstN l ps st en ps.length r/\σ=[sF (.ref a),sF (.str (tx l)),sF (.int (st:Nat)),v3,sF (v),v5,v6,v7]) ?_ ?_
  ·rfl'
   refine⟨⟨_,SqL.of hX⟩,ForEL.by (xs:=xs) (λi σ H'=>Same H1 H'/\∃(r:Option (Nat × Nat)) (v:V) (v5 v6 v7:Option V),UseAt H' r v/\FirstN l ps st en i r/\σ=[sF (.ref a),sF (.str (tx l)),sF (.int (st:Nat)),sF (.int (((r.map Prod.snd).getD en:Nat):Int)),sF (v),v5,v6,v7]) ⟨Same.refl _,sG,.non,sG,sG,sG,.inl ⟨rfl,rfl⟩,.inl ⟨rfl,λj q h=>absurd h (cL j)⟩,rfl⟩ (λi σ H' _ h=>SqL.of (h.1 _ _ hX)) ?_ ?_⟩
   ·rintro i y σ H' p hy ⟨hs,r,v,v5,v6,v7,hu,hF,rfl⟩ hpn
    obtain⟨rl,pr,hri,rfl,hqr⟩:=hI.getR hy
    have hm:=af hri
    have hne:=List.length_pos_iff.mpr (hN rl hm)
    have hrl:=hP rl hm
    have s2:=hs.trans (zd (o:=.tup [.int (i:Nat),.ref pr]) hpn)
    have hq2:=zl s2 hqr
    have hu2:=hu.same (zd (o:=.tup [.int (i:Nat),.ref pr]) hpn)
    rfl'
    refine⟨_,SqT.of zf,rfl,_,_,rfl,_,_,rfl,rfl,_,rfl,_,hq2,_,rfl,_,rfl,_,hq2,_,rfl,_,⟨by rw[ye];lia,rfl⟩,Vq (by lia) (by rw[ye];lia) λz hz=>⟨z,rfl,?_⟩⟩
    rw[ye] at hz
    rcases hz with ⟨rfl,hn⟩ | ⟨k,rfl,k1,k2,k3,hn⟩
    ·rw[if_neg (by decide)]
     exact⟨s2,r,v,hu2,hF.keep hri λq q1 q2=>hn q (by lia) (by lia),rfl,rfl⟩
    ·rw[if_pos (by lia)]
     refine⟨by lia,λp2 hp2=>⟨s2.trans (zd hp2),sF (i,k),.ref p2,.inr ⟨i,k,p2,rfl,rfl,zf⟩,hF.take hri (by lia) (by lia) k3 λq q1 q2=>hn q (by lia) q2,rfl,rfl⟩⟩
   ·rintro σ H' ⟨hs,r,v,v5,v6,v7,hu,hF,rfl⟩
    rw[hxl] at hF
    exact⟨hs,r,v,hu,hF,_,_,_,_,rfl⟩
  rintro σ H2 ⟨s2,r,v,v3,v5,v6,v7,hu,hF,rfl⟩
  rfl'
  exact q r v H2 s2 hu hF
structure zcP(mg:oW->Option oQ):Prop where
 g:∃t,mg "WINDOW" = sF (.int 128 t)
def uY(K:oO):Sp:=λvs H Q _=>∃(a:oP) (l:List Nat) (ps:List zr) (st:Nat),vs=[.ref a,.str (tx l),.int (st:Nat)]/\LsA K H a (ps.map dR)/\NeL ps/\(∀p ∈ ps,p.1.length<=1000)/\l.length<=100000/\∀(r:Option (Nat × Nat)) (v:V) (H':Hp),Same H H'->UseAt H' r v->FirstN l ps st l.length ps.length r->Q v H'
theorem Zv{a:oP}{l:List Nat}{ps:List zr}{st:Nat}{s:Int}{H:Hp}{Q:VK}{E:XK}(hs:s=(st:Nat))(hA:LsA K H a (ps.map dR))(hN:NeL ps)(hP:∀p ∈ ps,p.1.length<=1000)(hl:l.length<=100000)(q:∀(r:Option (Nat × Nat)) (v:V) (H':Hp),Same H H'->UseAt H' r v->FirstN l ps st l.length ps.length r->Q v H'):uY K [.ref a,.str (tx l),.int s] H Q E:=by
 subst hs
 exact⟨a,l,ps,st,rfl,hA,hN,hP,hl,q⟩
theorem gA:zq ["rules","word","start","size","found"] ["rules","word","start"] (zb yM):=⟨rfl,rfl,rfl,by decide +kernel,rfl,by decide +kernel,by decide +kernel⟩
theorem kF{f:oP}{fd:oU}(B:Bt mg)(T:zcP mg)(F:Fun K "first_from" "first_from" yM f fd)(nw:Df P w K mg base CX0 1 "first_within" ["rules","word","start","end"] [] (w4 K)):FnOk P w K mg base CX0 2 f fd ["rules","word","start"] (uY K):=by
 obtain⟨t8,g8⟩:=T.g
 refine F.ok gA (λvs H Q E h=>?_) (λcdv A outer s H vs Q E hr h=>?_)
 ·obtain⟨a,l,ps,st,rfl,_⟩:=h
  rfl
 ·obtain⟨a,l,ps,st,rfl,hA,hN,hP,hl,q⟩:=h
  refine⟨_,(zi (zt (i:=3) gA.nd rfl (Or.inl rfl) (xg (v:=.int 128) rfl g8 ⟨t8,rfl⟩))
   (zi (kG PassesOwn.never (zI UR (pv 2) (zp zX rfl B.len aB (za (pv 1) ze)) (zK _))
    (zN (zt (i:=4) gA.nd rfl (Or.inl rfl) (cl0 nw hr .nil rfl (za (pv 0) (za (pv 1) (za (pv 2) (za (zB op_add (pv 2) (pv 3)) ze))))))
    (zN (z9 (zI op_notN' (pv 4) wj (zK _))
     (zh (zx (pv 4)))
     zD)
    (zN (zt (i:=2) gA.nd rfl (Or.inl rfl) (zB op_add (pv 2) (pv 3)))
    (zh (zt (i:=3) gA.nd rfl (Or.inl rfl) (zB op_mul (pv 3) zg)))))))
   (zh (zx wj)))),?_⟩
  have s16:=ym
  have s16:=ym
  refine zj (λσ H'=>H'=H/\σ=[sF (.ref a),sF (.str (tx l)),sF (.int (st:Nat)),sF (.int 128),sG]) ?_ ?_
  ·rfl'
  rintro σ H1 ⟨rfl,rfl⟩
  refine zj (λσ H'=>Same H1 H'/\FirstN l ps st l.length ps.length sG) ?_ ?_
  ·unfold Xl
   refine⟨λm σ H'=>∃(s z:Nat) (v4:Option V),m=l.length - s/\st<=s/\1<=z/\Same H1 H'/\FirstN l ps st s ps.length sG/\σ=[sF (.ref a),sF (.str (tx l)),sF (.int (s:Nat)),sF (.int (z:Nat)),v4],⟨_,st,128,sG,rfl,au _,by decide,Same.refl _,.inl ⟨rfl,λj q _ h1 h2=>by lia⟩,rfl⟩,?_⟩
   rintro m σ H' ⟨s,z,v4,rfl,hs,hz,sm,hF,rfl⟩
   rfl'
   refine⟨by lia,xh (λhlt=>?_) λhge=>⟨sm,hF.toEnd hN λ_=>by lia⟩⟩
   refine⟨λσ' H''=>∃v4:Option V,Same H1 H''/\FirstN l ps st (s+z) ps.length sG/\σ'=[sF (.ref a),sF (.str (tx l)),sF (.int ((s+z:Nat):Int)),sF (.int ((z * 2:Nat):Int)),v4],λσ' H'' ⟨v4,a1,a2,a3⟩=>⟨l.length - (s+z),by lia,s+z,rfl,by lia,z * 2,by lia,a1,a2,v4,a3⟩,?_⟩
   refine Yf (en:=s+z) rfl (by lia) (hA.same sm) hN hP λr v H2 s2 hu hF2=>?_
   rcases hu with ⟨rfl,rfl⟩ | ⟨n,qq,p,rfl,rfl,hp⟩
   ·rw[if_neg (λh=>h rfl)]
    exact⟨.inr ⟨by decide,by decide⟩,sF .non,sm.trans s2,hF.window hs hF2,by push_cast;rfl⟩
   ·rw[if_pos (by intro h;cases h)]
    exact q _ _ H2 (sm.trans s2) (.inr ⟨n,qq,p,rfl,rfl,hp⟩) ((hF.window hs hF2).toEnd hN (λe=>by cases e))
  rintro σ H2 ⟨s2,hF⟩
  rfl'
  exact q sG .non H2 s2 (.inl ⟨rfl,rfl⟩) hF
theorem LsA.pushT{H:Hp}{D p:oP}{ds es:List L3.D}{xs vs:List V}(h1:H D=sF (.lst xs))(h2:Iss K H ds xs)(hp:H p=sG)(hv:Iss K H es vs)(f:zQ ds)(fe:zQ es):LsA K (upd (upd H p (.tup vs)) D (.lst (xs ++ [.ref p]))) D (ds ++ [.tup es]):=by
 have e:(upd H p (.tup vs)) D=sF (.lst xs):=zd hp _ _ h1
 exact LsA.snoc e (Iss.same (zd hp) _ _ h2) f (by simp only[xq];exact fe) (Is.tup hp hv)
structure K9(K:oO)(mg:oW->Option oQ)(C:oP):Prop where
 xi:XI K C
 ini:ah K (.ref C) "__init__" = sF (sF (.builtin "ValueError.__init__"))
 g:mg "TooFar" = sF (.ref C)
noncomputable def dG(u:Nat × Nat):L3.D:=.tup [.int (u.1:Nat),.int (u.2:Nat),.bl sH]
theorem JU(u:Nat × Nat):xq (dG u):=by simp only[dG,xq,zQ,and_self]
theorem US(us:List (Nat × Nat)):zQ (us.map dG):=wF λd h=>by obtain⟨r,_,rfl⟩:=List.mem_map.mp h;exact JU r
theorem zcw{H:Hp}{n q:Nat}:Iss K H [.int (n:Nat),.int (q:Nat),.bl sH] [.int (n:Nat),.int (q:Nat),.bl sH]:=by
 simp only[Iss,Is]
 exact⟨_,_,rfl,rfl,_,_,rfl,rfl,_,_,rfl,rfl,rfl⟩
structure Rd(ps:List zr)(l:List Nat)(J:Nat):Prop where
 live:Wa ps l J
 len:∀j,j<=J->(wAt ps l j).length<=10000
 most:J<=10000
def wT(K:oO)(CF:oP):Sp:=λvs H Q E=>∃(a:oP) (l:List Nat) (ps:List zr) (m:Int) (J:Nat),vs=[.ref a,.str (tx l),.int m]/\LsA K H a (ps.map dR)/\NeL ps/\ps.length<=100/\(∀p ∈ ps,p.1.length<=1000/\p.2.length<=1000)/\Rd ps l J /\
 ((zF (wAt ps l J) ps=sG/\(J:Int)<=m/\∀(p S:oP) (H':Hp),Same H H'->H' p=sF (.tup [.ref S,.str (tx (wAt ps l J))])->LsA K H' S ((sAt ps l J).map dG)->H S=sG->Q (.ref p) H') \/
  (zF (wAt ps l J) ps≠sG/\(J:Int)=m/\∀H',Same H H'->E (.ref CF) sG H'))
theorem WD{a:oP}{ps:List zr}{σ:L2.St}{H:Hp}{Q:VK}{D:oP}(hA:LsA K H a (ps.map dR))(hP:∀p ∈ ps,p.1.length<=1000)(hpl:ps.length<=100)(hD:H D=sG)(q:∀H',Same H H'->H' D=sF (.lst ((ps.map λp=>(p.1.length:Int)).map V.int))->Q (.ref D) H') :
  CompL K a (xy 0) vS (tCB (zaa K) (zP (tOp (uM K) (xw 0) (tC (.int 0))) vd)) 1 [] σ H Q D:=by
 have s16:=ym
 obtain⟨xs,hX,hI⟩:=hA
 have hxl:=hI.len
 rw[ae] at hxl
 refine CompL.by (xs:=xs) (λi sL H'=>Same H H'/\H' D=sF (.lst sL)/\sL=((ps.take i).map λp=>(p.1.length:Int)).map V.int) ⟨zd hD,zf,rfl⟩ (λi sL H' _ h=>SqL.of (h.1 _ _ hX)) ?_ ?_
 ·rintro i x sL H' hx ⟨hs,hH,rfl⟩
  have hil:=(List.getElem?_eq_some_iff.mp hx).1
  obtain⟨r,pr,hri,rfl,hqr⟩:=hI.getR hx
  have hm:=hP r (af hri)
  simp only[vS]
  rfl'
  refine⟨wD,_,zl hs hqr,_,rfl,_,⟨by rw[ye];lia,rfl⟩,hH,by rw[ae,ae,aK];lia,CNx.mk hil ⟨zG hs hD,zf,?_⟩⟩
  rw[zW hri,aH,aH,ye]
  rfl
 ·rintro sL H' ⟨hs,hH,rfl⟩
  rw[hxl,aQ] at hH
  exact q H' hs hH
theorem zb7{H:Hp}{rs:List zr}{xs:List V}{i:Nat}{r:zr}(hI:Iss K H (rs.map dR) xs)(hi:rs[i]? = sF r):∃p,atI xs (i:Int)=sF (.ref p)/\SqT K H p [.str (tx r.1),.str (tx r.2)]:=by
 have hl:=hI.len
 rw[ae] at hl
 have hil:=(List.getElem?_eq_some_iff.mp hi).1
 obtain⟨v,a1,b1⟩:=vF (xs:=xs) (i:=(i:Int)) (by lia) (by lia)
 obtain⟨r',p,h1,rfl,h3⟩:=hI.getR (j:=i) b1
 rw[hi] at h1
 cases h1
 exact⟨p,a1,h3⟩
theorem io:zq ["rules","word","most","longest","steps","use","number","place"] ["rules","word","most"] (zb vn):=⟨rfl,rfl,rfl,by decide +kernel,rfl,by decide +kernel,by decide +kernel⟩
theorem Kk{f CU CF:oP}{fd:oU}{dV:oQ}(B:Bt mg)(T:K9 K mg CF)(TU:DNU P w K mg base CU)(F:FunD K "gone" "gone" vn dV f fd)(mi:Df P w K mg base CX0 2 "first_from" ["rules","word","start"] [] (uY K))(nJ:Df P w K mg base (CXx P w) 3 "put" ["word","place","old","new"] [] (ZD CU)):FnOk P w K mg base (CXx P w) 4 f fd ["rules","word","most"] (wT K CF):=by
 refine FunD.okX F io (λvs H Q E h=>?_) (λcdv A outer s H vs Q E hr hx h=>?_)
 ·obtain⟨a,l,ps,m,J,rfl,_⟩:=h
  rfl
 ·obtain⟨a,l,ps,m,J,rfl,hA,hN,hpl,hP,hR,hq⟩:=h
  refine⟨_,(zi (zt (i:=3) io.nd rfl (Or.inl rfl) (Uk (zba rfl) rfl B.max uT (za (xY (own:=["rule"]) (caps:=[]) (ix:=[]) (tt:=vS) (te:=(tCB (zaa K) (zP (tOp (uM K) (xw 0) (tC (.int 0))) vd))) rfl (yb (sc:=zb vn) rfl (by decide +kernel) (by decide +kernel) (by decide +kernel) rfl (by decide +kernel) (by decide +kernel) rfl) (yC (pv 0)) (λ_ _ _ _ _ _=>zC (i:=0) (show List.Nodup [_] by decide) rfl (Or.inl rfl)) (λ_ _ _ _ _ _=>xu) (λ_ _ _ _ _ _=>(zp zX rfl B.len aB (za (zw ix_tup (pv 0) zg (λ_ _=>rfl)) ze)))) ze) (Ve zg Je)))
   (zi (zt (i:=4) io.nd rfl (Or.inl rfl) (xU ze))
   (zi (zt (i:=5) io.nd rfl (Or.inl rfl) (cl0 mi hr .nil rfl (za (pv 0) (za (pv 1) (za zg ze)))))
   (zi (kG PassesOwn.leaving (zI op_notN' (pv 5) wj (zK _))
    (zi (z9 (zI op_ge' (zp zX rfl B.len aB (za (pv 4) ze)) (pv 2) (zK _))
     (zh (yS hx rfl T.xi.toXC T.ini rfl T.g (za xS ze)))
     zD)
    (zi (zt (i:=6) io.nd rfl (Or.inl rfl) (zw ix_tup (pv 5) zg (λ_ _=>rfl)))
    (zi (zt (i:=7) io.nd rfl (Or.inl rfl) (zw ix_tup (pv 5) zg (λ_ _=>rfl)))
    (zi (zt (i:=1) io.nd rfl (Or.inl rfl) (clP hx nJ hr .nil rfl (za (pv 1) (za (pv 7) (za (zw ix_tup (zw ix_list (pv 0) (pv 6) (λ_ _=>rfl)) zg (λ_ _=>rfl)) (za (zw ix_tup (zw ix_list (pv 0) (pv 6) (λ_ _=>rfl)) zg (λ_ _=>rfl)) ze))))))
    (zi (xM (vM bc bB bC yU (pv 4) (za (ya (za (pv 6) (za (pv 7) (za xO ze)))) ze)))
    (zh (zt (i:=5) io.nd rfl (Or.inl rfl) (cl0 mi hr .nil rfl (za (pv 0) (za (pv 1) (za (zp (Uw rfl) rfl B.max uT (za zg (za (zB op_add (zB qx (pv 7) (pv 3)) zg) ze))) ze))))))))))))
   (zh (zx (ya (za (pv 4) (za (pv 1) ze))))))))),?_⟩
  have s16:=ym
  have s16:=ym
  refine zj (λσ H'=>Same H H'/\∃M:Int,(∀p ∈ ps,(p.1.length:Int)<=M)/\σ=[sF (.ref a),sF (.str (tx l)),sF (.int m),sF (.int M),sG,sG,sG,sG]) ?_ ?_
  ·rfl'
   simp only[zcV]
   rfl'
   obtain⟨xs,hX,hI⟩:=id hA
   exact⟨⟨_,SqL.of hX⟩,λD hD=>WD hA (λp hp=>(hP p hp).1) hpl hD λH' s' hH=>⟨D,_,0,rfl,rfl,SqL.of hH,λz _ hz=>⟨s',z,λp hp=>hz _ (List.mem_map.mpr ⟨p,hp,rfl⟩),rfl⟩⟩⟩
  rintro σ H1 ⟨s1,M,hM,rfl⟩
  refine zj (λσ H'=>Same H H'/\∃S:oP,H S=sG/\H' S=sF (.lst [])/\σ=[sF (.ref a),sF (.str (tx l)),sF (.int m),sF (.int M),sF (.ref S),sG,sG,sG]) ?_ ?_
  ·rfl'
   exact⟨by lia,λp hp=>⟨s1.trans (zd hp),p,s1.free hp,zf,rfl⟩⟩
  rintro σ H2 ⟨s2,S,hSn,hS,rfl⟩
  refine zj (λσ H'=>Same H H'/\H' S=sF (.lst [])/\∃uv:V,UseAt H' (zF l ps) uv/\σ=[sF (.ref a),sF (.str (tx l)),sF (.int m),sF (.int M),sF (.ref S),sF (uv),sG,sG]) ?_ ?_
  ·rfl'
   exact Zv (st:=0) rfl (hA.same s2) hN (λp hp=>(hP p hp).1) (by have:=hR.len 0 (aJ _);exact aO this (by decide)) λr v H' s' hu hF=>⟨s2.trans s',s' _ _ hS,(by rw[YW hF] at hu;exact hu)⟩
  rintro σ H3 ⟨s3,hS3,uv,hu,rfl⟩
  refine zj (λσ H'=>Same H H'/\zF (wAt ps l J) ps=sG/\LsA K H' S ((sAt ps l J).map dG)/\∃v5 v6 v7,σ=[sF (.ref a),sF (.str (tx (wAt ps l J))),sF (.int m),sF (.int M),sF (.ref S),v5,v6,v7]) ?_ ?_
  ·unfold Xl
   refine⟨λk σ H'=>∃(j:Nat) (uv:V) (v6 v7:Option V),k=J - j/\j<=J/\Same H H'/\LsA K H' S ((sAt ps l j).map dG)/\UseAt H' (zF (wAt ps l j) ps) uv/\σ=[sF (.ref a),sF (.str (tx (wAt ps l j))),sF (.int m),sF (.int M),sF (.ref S),sF (uv),v6,v7],⟨_,0,uv,sG,sG,rfl,aJ _,s3,⟨[],hS3,by simp only[sAt,List.range_zero,aN,Iss]⟩,hu,rfl⟩,?_⟩
   rintro k σ H' ⟨j,uv,v6,v7,rfl,hj,hs,hL,hu,rfl⟩
   have hlj:=hR.len j hj
   have hRm:=hR.most
   obtain⟨xs,hX,hI⟩:=id hA
   rfl'
   refine xh (λhne=>?_) λhne=>?_
   ·rcases hu with ⟨_,h⟩ | ⟨n,q0,p,hf,rfl,hp⟩
    ·exact absurd h hne
    have hF:=Y4 (wAt ps l j) ps hN
    rw[hf] at hF
    have hjJ:j<J\/(j=J/\(J:Int)=m/\∀H',Same H H'->E (.ref CF) sG H'):=by
     by_cases e:j=J
     ·subst e
      rcases hq with ⟨h,_⟩ | ⟨_,h1,h2⟩
      ·rw[hf] at h
       cases h
      ·exact .inr ⟨rfl,h1,h2⟩
     ·exact .inl (by lia)
    have hJm:(J:Int)<=m:=by
     rcases hq with ⟨_,h,_⟩ | ⟨_,h,_⟩ <;> lia
    obtain⟨rl,hrl,hst⟩:∃rl,ps[n]? = sF rl/\zu (wAt ps l j) (q0:Int) rl.1=sH:=by
     rcases hF with ⟨h,_⟩ | ⟨n0,q1,e,_,_,_,a4,_⟩
     ·cases h
     ·cases e
      exact (wU a4).2
    have hlp:=hP rl (af hrl)
    have hw:=wq hf
    obtain⟨pr,hai,hqr⟩:=zb7 hI hrl
    refine⟨λσ' H''=>∃(uv:V) (v6 v7:Option V),j<J/\Same H H''/\LsA K H'' S ((sAt ps l (j+1)).map dG)/\UseAt H'' (zF (wAt ps l (j+1)) ps) uv/\σ'=[sF (.ref a),sF (.str (tx (wAt ps l (j+1)))),sF (.int m),sF (.int M),sF (.ref S),sF (uv),v6,v7],λσ' H'' ⟨uv,v6,v7,a0,a1,a2,a3,a4⟩=>⟨J - (j+1),by lia,j+1,rfl,by lia,a1,a2,uv,a3,v6,v7,a4⟩,?_⟩
    obtain⟨ys,hY,hJ2⟩:=id hL
    have hyl:=hJ2.len
    rw[ae,Yb] at hyl
    refine zj (λσ' H''=>H''=H'/\j<J/\σ'=[sF (.ref a),sF (.str (tx (wAt ps l j))),sF (.int m),sF (.int M),sF (.ref S),sF (.ref p),v6,v7]) ?_ ?_
    ·rfl'
     refine⟨_,.inl ⟨_,SqL.of hY,rfl⟩,xh (λhge=>?_) λhge=>?_⟩
     ·rcases hjJ with h | ⟨_,_,h⟩
      ·lia
      ·exact⟨by lia,h _ hs⟩
     ·rcases hjJ with h | ⟨e,h,_⟩
      ·exact h
      ·lia
    rintro σ' G1 ⟨rfl,hlt,rfl⟩
    refine zj (λσ' H''=>H''=G1/\σ'=[sF (.ref a),sF (.str (tx (wAt ps l j))),sF (.int m),sF (.int M),sF (.ref S),sF (.ref p),sF (.int (n:Nat)),v7]) ?_ ?_
    ·rfl'
     exact⟨_,SqT.of hp,rfl⟩
    rintro σ' G2 ⟨rfl,rfl⟩
    refine zj (λσ' H''=>H''=G2/\σ'=[sF (.ref a),sF (.str (tx (wAt ps l j))),sF (.int m),sF (.int M),sF (.ref S),sF (.ref p),sF (.int (n:Nat)),sF (.int (q0:Nat))]) ?_ ?_
    ·rfl'
     exact⟨_,SqT.of hp,rfl⟩
    rintro σ' G3 ⟨rfl,rfl⟩
    refine zj (λσ' H''=>H''=G3/\σ'=[sF (.ref a),sF (.str (tx (wAt ps l (j+1)))),sF (.int m),sF (.int M),sF (.ref S),sF (.ref p),sF (.int (n:Nat)),sF (.int (q0:Nat))]) ?_ ?_
    ·rfl'
     have hq2:=zl hs hqr
     exact⟨_,SqL.of (hs _ _ hX),_,hai,_,rfl,_,hq2,_,rfl,_,SqL.of (hs _ _ hX),_,hai,_,rfl,_,hq2,_,rfl,wAt ps l j,rl.1,rl.2,(q0:Nat),rfl,hlj,by have:=hlp.1;lia,by have:=hlp.2;lia,λ_=>⟨rfl,by rw[hw];unfold Z6;rw[xJ hrl]⟩,λh=>by rw[hst] at h;cases h⟩
    rintro σ' G4 ⟨rfl,rfl⟩
    refine zj (λσ' H''=>Same H H''/\LsA K H'' S ((sAt ps l (j+1)).map dG)/\σ'=[sF (.ref a),sF (.str (tx (wAt ps l (j+1)))),sF (.int m),sF (.int M),sF (.ref S),sF (.ref p),sF (.int (n:Nat)),sF (.int (q0:Nat))]) ?_ ?_
    ·rfl'
     refine⟨.inl ⟨_,SqL.of hY⟩,by lia,λt ht=>⟨_,zd ht _ _ hY,by lia,zG (hs.trans (zd ht)) hSn,?_⟩⟩
     rw[Xe,hf,aH]
     exact LsA.pushT hY hJ2 ht zcw (US _) (by simp only[zQ,xq,and_self])
    rintro σ' G5 ⟨s5,hL5,rfl⟩
    have hl1:=hR.len (j+1) hlt
    have hM0:=hM rl (af hrl)
    rfl'
    refine Zv (st:=(if (q0:Int) - M+1 > 0 then (q0:Int) - M+1 else 0).toNat) (by split <;> lia) (hA.same s5) hN (λp hp=>(hP p hp).1) (aO hl1 (by decide)) λr v H' s' hu hF2=>⟨hlt,s5.trans s',hL5.same s',?_⟩
    have hb:=Wt (M:=M.toNat) (lo:=(if (q0:Int) - M+1 > 0 then (q0:Int) - M+1 else 0).toNat) hF hN (λp hp=>by have:=hM p hp;lia) (by split <;> lia)
    rw[<- hw] at hb
    rw[YW (hb.window (aJ _) hF2)] at hu
    exact hu
   ·have hv:uv=.non:=Decidable.not_not.mp hne
    have hf:zF (wAt ps l j) ps=sG:=by
     rcases hu with ⟨h,_⟩ | ⟨_,_,_,_,h,_⟩
     ·exact h
     ·rw[hv] at h
      cases h
    have e:j=J:=by
     rcases d7 j J with h | h
     ·exact absurd hf (hR.live j h)
     ·lia
    subst e
    exact⟨hs,hf,hL,rfl⟩
  rintro σ H4 ⟨s4,hF,hL,v5,v6,v7,rfl⟩
  rfl'
  rcases hq with ⟨_,_,hq⟩ | ⟨h,_⟩
  ·exact⟨by lia,λp hp=>hq p S _ (s4.trans (zd hp)) zf (hL.same (zd hp)) hSn⟩
  ·exact absurd hF h
noncomputable abbrev Stp:=Int × Int × Bool
noncomputable def dSt(t:Stp):D:=.tup [.int t.1,.int t.2.1,.bl t.2.2]
noncomputable def sdl(r:zr)(f:Bool):zr:=if f=sH then r else (r.2,r.1)
noncomputable def yn(ps:List zr)(w:List Nat)(t:Stp):Option (List Nat) :=
 if 0<=t.1/\t.1<ps.length then (if zu w t.2.1 (sdl (ps.getD t.1.toNat ([],[])) t.2.2).1=sH then sF (yR w t.2.1 (sdl (ps.getD t.1.toNat ([],[])) t.2.2).1 (sdl (ps.getD t.1.toNat ([],[])) t.2.2).2) else sG) else sG
theorem Qj{H:Hp}{D p:oP}{ds es:List L3.D}{xs vs:List V}(h1:H D=sF (.lst xs))(h2:Iss K H ds xs)(hp:H p=sG)(hv:Iss K H es vs)(f:zQ ds)(fe:zQ es):LsA K (upd (upd H p (.tup vs)) D (.lst (xs ++ [.ref p]))) D (ds ++ [.tup es]):=by
 have e:(upd H p (.tup vs)) D=sF (.lst xs):=zd hp _ _ h1
 exact LsA.snoc e (Iss.same (zd hp) _ _ h2) f (by simp only[xq];exact fe) (Is.tup hp hv)
theorem Qh{H:Hp}{l m:List Nat}:Iss K H [dS l,dS m] [.str (tx l),.str (tx m)]:=by
 simp only[Iss,Is]
 exact⟨_,_,rfl,rfl,_,_,rfl,rfl,rfl⟩
def jj(rs:List zr):Prop:=rs.length<=30/\∀r ∈ rs,r.1.length<=100/\r.2.length<=100
theorem Ji{H:Hp}{t:Stp}{v:V}(h:Is K H (dSt t) v):∃p,v=.ref p/\SqT K H p [.int t.1,.int t.2.1,.bl t.2.2]:=by
 simp only[dSt,Is,Iss] at h
 obtain⟨a,xs,e,hs,v1,r1,rfl,rfl,v2,r2,rfl,rfl,v3,r3,rfl,rfl,rfl⟩:=h
 exact⟨a,e,hs⟩
theorem jE{H:Hp}{p:oP}{t:Stp}(h:SqT K H p [.int t.1,.int t.2.1,.bl t.2.2]):Is K H (dSt t) (.ref p):=by
 simp only[dSt,Is,Iss]
 exact⟨p,_,rfl,h,_,_,rfl,rfl,_,_,rfl,rfl,_,_,rfl,rfl,rfl⟩
theorem Jl{H:Hp}{i j:Int}{b:Bool}:Iss K H [.int i,.int j,.bl b] [.int i,.int j,.bl b]:=by
 simp only[Iss,Is]
 exact⟨_,_,rfl,rfl,_,_,rfl,rfl,_,_,rfl,rfl,rfl⟩
theorem wn(rs:List Stp):zQ (rs.map dSt):=wF λd h=>by obtain⟨r,_,rfl⟩:=List.mem_map.mp h;simp only[dSt,xq,zQ,and_self]
theorem w6{H:Hp}{rs:List Stp}{vs:List V}{j:Nat}{v:V}(h:Iss K H (rs.map dSt) vs)(q:vs[j]? = sF v):∃r p,rs[j]? = sF r/\v=.ref p/\SqT K H p [.int r.1,.int r.2.1,.bl r.2.2]:=by
 obtain⟨d,e,i⟩:=h.get q
 rw[aG] at e
 obtain⟨r,hr,rfl⟩:=Option.map_eq_some_iff.mp e
 obtain⟨p,e1,e2⟩:=Ji i
 exact⟨r,p,hr,e1,e2⟩
theorem za7{H:Hp}{rs:List zr}{xs:List V}{i:Int}(hI:Iss K H (rs.map dR) xs)(h0:0<=i)(hi:i<rs.length):∃p,atI xs i=sF (.ref p)/\rs[i.toNat]? = sF (rs.getD i.toNat ([],[]))/\SqT K H p [.str (tx (rs.getD i.toNat ([],[])).1),.str (tx (rs.getD i.toNat ([],[])).2)]:=by
 have hl:=hI.len
 rw[ae] at hl
 obtain⟨v,a1,b1⟩:=vF (xs:=xs) (i:=i) h0 (by lia)
 obtain⟨r,p,h1,rfl,h3⟩:=hI.getR b1
 have e:rs.getD i.toNat ([],[])=r:=by rw[ac,h1];rfl
 rw[e]
 exact⟨p,a1,h1,h3⟩
theorem YH{rs:List zr}(h:jj rs)(i:Nat):(rs.getD i ([],[])).1.length<=100/\(rs.getD i ([],[])).2.length<=100:=by
 rw[ac]
 cases e:rs[i]? with
 | none=>exact⟨aJ _,aJ _⟩
 | some r=>exact h.2 r (af e)
theorem y8{ps:List zr}{w:List Nat}{t:Stp}(h:¬ (0<=t.1/\t.1<ps.length)):yn ps w t=sG:=if_neg h
theorem yF{ps:List zr}{w:List Nat}{t:Stp}(h:0<=t.1/\t.1<ps.length):yn ps w t=if zu w t.2.1 (sdl (ps.getD t.1.toNat ([],[])) t.2.2).1=sH then sF (yR w t.2.1 (sdl (ps.getD t.1.toNat ([],[])) t.2.2).1 (sdl (ps.getD t.1.toNat ([],[])) t.2.2).2) else sG:=if_pos h
def Ch(rs:List zr)(ws:List (List Nat))(ss:List Stp):Prop:=ws.length=ss.length+1/\∀i s,ss[i]? = sF s->∃w w',ws[i]? = sF w/\ws[i+1]? = sF w'/\yn rs w s=sF w'
noncomputable def bk(s:Stp):Stp:=(s.1,s.2.1,!s.2.2)
noncomputable def yX(ss:List Stp):List Stp:=ss.reverse.map bk
noncomputable def mvL(ss:List Stp)(z:Int):List Stp:=ss.map λs=>(s.1,s.2.1+z,s.2.2)
theorem Ka(r:zr)(f:Bool):sdl r (!f)=((sdl r f).2,(sdl r f).1):=by cases f <;> rfl
theorem jU{rs:List zr}{w w':List Nat}{s:Stp}(h:yn rs w s=sF w'):yn rs w' (bk s)=sF w:=by
 by_cases hb:0<=s.1/\s.1<rs.length
 ·rw[yF hb] at h
  have hb':0<=(bk s).1/\(bk s).1<rs.length:=hb
  rw[yF hb']
  simp only[bk,Ka]
  generalize sdl (rs.getD s.1.toNat ([],[])) s.2.2=r at *
  by_cases hs:zu w s.2.1 r.1=sH
  ·rw[if_pos hs] at h
   cases h
   obtain⟨e1,e2⟩:=Xt r.2 hs
   rw[if_pos e1,e2]
  ·rw[if_neg hs] at h
   cases h
 ·rw[y8 hb] at h
  cases h
theorem Ch.back{rs:List zr}{ws:List (List Nat)}{ss:List Stp}(h:Ch rs ws ss):Ch rs ws.reverse (yX ss):=by
 obtain⟨hl,hs⟩:=h
 refine⟨by simp [yX,hl],λi s hi=>?_⟩
 have hil:i<ss.length:=by have:=(List.getElem?_eq_some_iff.mp hi).1;simpa [yX] using this
 unfold yX at hi
 rw[aG,bL hil] at hi
 obtain⟨s0,h0,rfl⟩:=Option.map_eq_some_iff.mp hi
 obtain⟨w,w',e1,e2,e3⟩:=hs _ _ h0
 refine⟨w',w,?_,?_,jU e3⟩
 ·rw[bL (by lia),<- e2]
  congr 1
  lia
 ·rw[bL (by lia),<- e1]
  congr 1
  lia
theorem YQ{a w b:List Nat}{k:Nat}(h:k<=w.length):(a ++ w ++ b).drop (a.length+k)=w.drop k ++ b:=by
 rw[ax,<- dJ,cD,bM h]
theorem kZ{a w b o:List Nat}{k:Int}(h:zu w k o=sH):zu (a ++ w ++ b) (k+(a.length:Int)) o=sH:=by
 obtain⟨_,_,h0,h1⟩:=xl h
 unfold zu at h ⊢
 rw[decide_eq_true_eq] at h ⊢
 obtain⟨_,_,h2⟩:=h
 refine⟨by lia,by simp only[am];lia,?_⟩
 rw[show (k+(a.length:Int)).toNat=a.length+k.toNat by lia,YQ (by lia),aU (by rw[br];lia),h2]
theorem Wr{a w b o n:List Nat}{k:Int}(h:zu w k o=sH):yR (a ++ w ++ b) (k+(a.length:Int)) o n=a ++ yR w k o n ++ b:=by
 obtain⟨_,_,h0,h1⟩:=xl h
 unfold yR
 rw[show (k+(a.length:Int)).toNat=a.length+k.toNat by lia]
 have e1:(a ++ w ++ b).take (a.length+k.toNat)=a ++ w.take k.toNat:=by
  rw[ax,List.take_length_add_append,aU (by lia)]
 have e2:(a ++ w ++ b).drop (a.length+k.toNat+o.length)=w.drop (k.toNat+o.length) ++ b:=by
  rw[Nat.add_assoc]
  exact YQ (by lia)
 rw[e1,e2]
 simp [ax]
theorem uD{rs:List zr}{w w':List Nat}{s:Stp}(a b:List Nat)(h:yn rs w s=sF w'):yn rs (a ++ w ++ b) (s.1,s.2.1+(a.length:Int),s.2.2)=sF (a ++ w' ++ b):=by
 by_cases hb:0<=s.1/\s.1<rs.length
 ·rw[yF hb] at h
  rw[yF (by exact hb)]
  simp only
  generalize sdl (rs.getD s.1.toNat ([],[])) s.2.2=r at *
  by_cases hs:zu w s.2.1 r.1=sH
  ·rw[if_pos hs] at h
   cases h
   rw[if_pos (kZ hs),Wr hs]
  ·rw[if_neg hs] at h
   cases h
 ·rw[y8 hb] at h
  cases h
theorem Ch.within{rs:List zr}{ws:List (List Nat)}{ss:List Stp}(a b:List Nat)(h:Ch rs ws ss):Ch rs (ws.map λw=>a ++ w ++ b) (mvL ss (a.length:Int)):=by
 obtain⟨hl,hs⟩:=h
 refine⟨by simp [mvL,hl],λi s hi=>?_⟩
 unfold mvL at hi
 rw[aG] at hi
 obtain⟨s0,h0,rfl⟩:=Option.map_eq_some_iff.mp hi
 obtain⟨w,w',e1,e2,e3⟩:=hs _ _ h0
 exact⟨a ++ w ++ b,a ++ w' ++ b,by rw[aG,e1];rfl,by rw[aG,e2];rfl,uD a b e3⟩
def Fit(rs:List zr)(w:List Nat)(m:Int)(s:Stp):Prop:=∃w',yn rs w s=sF w'/\(w'.length:Int)<=m
theorem Xw{w o n:List Nat}{k:Int}(h:zu w k o=sH):(yR w k o n).length+o.length=w.length+n.length:=by
 obtain⟨e,hl,h0,h1⟩:=xl h
 unfold yR
 simp only[am,br,hl]
 lia
theorem vc{H:Hp}{D p:oP}{ds es:List L3.D}{xs vs:List V}(h1:H D=sF (.lst xs))(h2:Iss K H ds xs)(hp:H p=sG)(hv:Iss K H es vs)(f:zQ ds)(fe:zQ es):Iss K (upd (upd H p (.tup vs)) D (.lst (xs ++ [.ref p]))) (ds ++ [.tup es]) (xs ++ [.ref p]):=by
 obtain⟨ys,hy1,hy2⟩:=Qj h1 h2 hp hv f fe
 rw[zf] at hy1
 cases hy1
 exact hy2
def uc(K:oO):Sp:=λvs H Q _=>∃(t:oP) (ss:List Stp),vs=[.ref t]/\Is K H (.lst (ss.map dSt)) (.ref t)/\ss.length<=1000/\∀(D:oP) (H':Hp),H D=sG->Same H H'->LsA K H' D ((yX ss).map dSt)->Q (.ref D) H'
theorem kK{t:oP}{ss:List Stp}{H:Hp}{Q:VK}{E:XK}(h1:Is K H (.lst (ss.map dSt)) (.ref t))(h2:ss.length<=1000)(h:∀(D:oP) (H':Hp),H D=sG->Same H H'->LsA K H' D ((yX ss).map dSt)->Q (.ref D) H'):uc K [.ref t] H Q E:=⟨t,ss,rfl,h1,h2,h⟩
theorem JY{ss:List Stp}{i:Nat}{s:Stp}(h:ss.reverse[i]? = sF s):(yX ss).take (i+1)=(yX ss).take i ++ [bk s]:=zW (by unfold yX;rw[aG,h];rfl)
theorem Kj:zq ["steps"] ["steps"] (zb qO):=⟨rfl,rfl,rfl,by decide +kernel,rfl,by decide +kernel,by decide +kernel⟩
theorem JD{f:oP}{fd:oU}(B:Bt mg)(F:Fun K "back" "back" qO f fd) : FnOk P w K mg base CX0 1 f fd ["steps"] (uc K):=by
 refine F.ok Kj (λvs H Q E h=>?_) (λcdv A outer s H vs Q E hr h=>?_)
 ·obtain⟨t,ss,rfl,_⟩:=h
  rfl
 ·obtain⟨t,ss,rfl,hT,hsl,q⟩:=h
  refine⟨_,(zh (zx (xY (own:=["step"]) (caps:=[]) (ix:=[]) (tt:=vS) (te:=(UA (zP (tOp (uM K) (xw 0) (tC (.int 0))) (zP (tOp (uM K) (xw 0) (tC (.int 1))) (zP (JV (tOp (uM K) (xw 0) (tC (.int 2)))) vd))))) rfl (yb (sc:=zb qO) rfl (by decide +kernel) (by decide +kernel) (by decide +kernel) rfl (by decide +kernel) (by decide +kernel) rfl) (zap rfl B.rev (za (pv 0) ze)) (λ_ _ _ _ _ _=>zC (i:=0) (show List.Nodup [_] by decide) rfl (Or.inl rfl)) (λ_ _ _ _ _ _=>xu) (λ_ _ _ _ _ _=>(ya (za (zw ix_tup (pv 0) zg (λ_ _=>rfl)) (za (zw ix_tup (pv 0) zg (λ_ _=>rfl)) (za (Jf (zw ix_tup (pv 0) zg (λ_ _=>rfl))) ze)))))))),?_⟩
  have s16:=ym
  rfl'
  simp only[Is] at hT
  obtain⟨_,ts,e,hTs,hJ⟩:=hT
  cases e
  have htl:=hJ.len
  rw[ae] at htl
  have hbl:(yX ss).length=ss.length:=by simp [yX]
  refine⟨ts,hTs,λD hD=>CompV.by (xs:=ts) (λi sL H'=>Same H H'/\H' D=sF (.lst sL)/\Iss K H' (((yX ss).take i).map dSt) sL) ⟨zd hD,zf,by simp only[bA,aN,Iss]⟩ (λi sL H' _ h=>h.1.seq hTs) ?_ ?_⟩
  ·rintro i x sL H' hx ⟨hs,hH,hA⟩
   have hi:i<ts.length:=by have:=(List.getElem?_eq_some_iff.mp hx).1;simpa using this
   rw[bL hi] at hx
   obtain⟨s,ps,hsi,rfl,hqs⟩:=w6 hJ hx
   have hsr:ss.reverse[i]? = sF s:=by rw[bL (by lia),<- hsi,htl]
   have hal:=hA.len
   rw[ae,aK] at hal
   simp only[vS]
   rfl'
   refine⟨wD,_,zl hs hqs,_,rfl,_,zl hs hqs,_,rfl,_,zl hs hqs,_,rfl,_,rfl,by lia,λp hp=>⟨zd hp _ _ hH,by lia,CNx.mk hi ⟨zG (hs.trans (zd hp)) hD,zf,?_⟩⟩⟩
   rw[JY hsr,aH]
   exact vc hH hA hp Jl (wn _) (by simp only[zQ,xq,and_self])
  ·rintro sL H' ⟨hs,hH,hA⟩
   rw[htl,<- hbl,aQ] at hA
   exact q D H' hD hs ⟨sL,hH,hA⟩
def uZ(K:oO):Sp:=λvs H Q _=>∃(t:oP) (ss:List Stp) (z:Int),vs=[.ref t,.int z]/\Is K H (.lst (ss.map dSt)) (.ref t)/\ss.length<=1000/\∀(D:oP) (H':Hp),H D=sG->Same H H'->LsA K H' D ((mvL ss z).map dSt)->Q (.ref D) H'
theorem Zj{t:oP}{ss:List Stp}{z:Int}{H:Hp}{Q:VK}{E:XK}(h1:Is K H (.lst (ss.map dSt)) (.ref t))(h2:ss.length<=1000)(h:∀(D:oP) (H':Hp),H D=sG->Same H H'->LsA K H' D ((mvL ss z).map dSt)->Q (.ref D) H'):uZ K [.ref t,.int z] H Q E:=⟨t,ss,z,rfl,h1,h2,h⟩
theorem QI:zq ["steps","size"] ["steps","size"] (zb vA):=⟨rfl,rfl,rfl,by decide +kernel,rfl,by decide +kernel,by decide +kernel⟩
theorem U2{f:oP}{fd:oU}(B:Bt mg)(F:Fun K "moved" "moved" vA f fd) : FnOk P w K mg base CX0 1 f fd ["steps","size"] (uZ K):=by
 refine F.ok QI (λvs H Q E h=>?_) (λcdv A outer s H vs Q E hr h=>?_)
 ·obtain⟨t,ss,z,rfl,_⟩:=h
  rfl
 ·obtain⟨t,ss,z,rfl,hT,hsl,q⟩:=h
  refine⟨_,(zh (zx (xY (own:=["step"]) (caps:=["size"]) (ix:=[1]) (tt:=vS) (te:=(UA (zP (tOp (uM K) (xw 0) (tC (.int 0))) (zP (tOp Qv (tOp (uM K) (xw 0) (tC (.int 1))) (xw 1)) (zP (tOp (uM K) (xw 0) (tC (.int 2))) vd))))) rfl (yb (sc:=zb vA) rfl (by decide +kernel) (by decide +kernel) (by decide +kernel) rfl (by decide +kernel) (by decide +kernel) rfl) (yC (pv 0)) (λ_ _ _ _ _ _=>zC (i:=0) (show List.Nodup [_,_] by decide) rfl (Or.inl rfl)) (λ_ _ _ _ _ _=>xu) (λ_ _ _ _ _ _=>(ya (za (zw ix_tup (pv 0) zg (λ_ _=>rfl)) (za (zB kr (zw ix_tup (pv 0) zg (λ_ _=>rfl)) (pv 1)) (za (zw ix_tup (pv 0) zg (λ_ _=>rfl)) ze)))))))),?_⟩
  have s16:=ym
  rfl'
  simp only[Is] at hT
  obtain⟨_,ts,e,hTs,hJ⟩:=hT
  cases e
  have htl:=hJ.len
  rw[ae] at htl
  have hbl:(mvL ss z).length=ss.length:=by simp [mvL]
  refine⟨⟨ts,hTs⟩,λD hD=>CompL.by (xs:=ts) (λi sL H'=>Same H H'/\H' D=sF (.lst sL)/\Iss K H' (((mvL ss z).take i).map dSt) sL) ⟨zd hD,zf,by simp only[bA,aN,Iss]⟩ (λi sL H' _ h=>h.1.seq hTs) ?_ ?_⟩
  ·rintro i x sL H' hx ⟨hs,hH,hA⟩
   have hi:=(List.getElem?_eq_some_iff.mp hx).1
   obtain⟨s,ps,hsi,rfl,hqs⟩:=w6 hJ hx
   have hm:(mvL ss z)[i]? = sF (s.1,s.2.1+z,s.2.2):=by unfold mvL;rw[aG,hsi];rfl
   have hal:=hA.len
   rw[ae,aK] at hal
   simp only[vS]
   rfl'
   refine⟨wD,_,zl hs hqs,_,rfl,_,zl hs hqs,_,rfl,_,rfl,_,zl hs hqs,_,rfl,by lia,λp hp=>⟨zd hp _ _ hH,by lia,CNx.mk hi ⟨zG (hs.trans (zd hp)) hD,zf,?_⟩⟩⟩
   rw[zW hm,aH]
   exact vc hH hA hp Jl (wn _) (by simp only[zQ,xq,and_self])
  ·rintro sL H' ⟨hs,hH,hA⟩
   rw[htl,<- hbl,aQ] at hA
   exact q D H' hD hs ⟨sL,hH,hA⟩
noncomputable abbrev Ent:=List Nat × List Nat × List Stp
variable{E:XK}{H:Hp}{Q:VK}{bs:List Ent}{e:Ent}{es:List Ent}{f:oP}{fd:oU}{k:Nat}{ns:List Int}{p:zr}{ps:List zr}{rs:List zr}{ss:List Stp}
noncomputable def dE(e:Ent):L3.D:=.tup [dS e.1,dS e.2.1,.lst (e.2.2.map dSt)]
noncomputable def XJ(es:List Ent)(u:Stp):List Stp:=mvL (if u.2.2=sH then (es.getD u.1.toNat ([],[],[])).2.2 else yX (es.getD u.1.toNat ([],[],[])).2.2) u.2.1
noncomputable def byL(es:List Ent)(us:List Stp):List Stp:=us.flatMap (XJ es)
theorem zbo{v:V}(h:Is K H (dE e) v):∃p s,v=.ref p/\SqT K H p [.str (tx e.1),.str (tx e.2.1),.ref s]/\Is K H (.lst (e.2.2.map dSt)) (.ref s):=by
 simp only[dE,Is,Iss] at h
 obtain⟨a,xs,e0,hs,v1,r1,rfl,rfl,v2,r2,rfl,rfl,v3,r3,rfl,⟨s,zs,rfl,h1,h2⟩,rfl⟩:=h
 refine⟨a,s,e0,hs,?_⟩
 simp only[Is]
 exact⟨s,zs,rfl,h1,h2⟩
theorem zc6{xs:List V}{i:Int}(hI:Iss K H (es.map dE) xs)(h0:0<=i)(hi:i<es.length):∃p s,atI xs i=sF (.ref p)/\es[i.toNat]? = sF (es.getD i.toNat ([],[],[]))/\SqT K H p [.str (tx (es.getD i.toNat ([],[],[])).1),.str (tx (es.getD i.toNat ([],[],[])).2.1),.ref s]/\Is K H (.lst ((es.getD i.toNat ([],[],[])).2.2.map dSt)) (.ref s):=by
 have hl:=hI.len
 rw[ae] at hl
 obtain⟨v,a1,b1⟩:=vF (xs:=xs) (i:=i) h0 (by lia)
 obtain⟨d,e,ix⟩:=hI.get b1
 rw[aG] at e
 obtain⟨r,hr,rfl⟩:=Option.map_eq_some_iff.mp e
 have e:es.getD i.toNat ([],[],[])=r:=by rw[ac,hr];rfl
 rw[e]
 obtain⟨p,s,rfl,h2,h3⟩:=zbo ix
 exact⟨p,s,a1,hr,h2,h3⟩
theorem YV(ss:List Stp)(z:Int):(mvL ss z).length=ss.length:=by simp [mvL]
theorem xQ(ss:List Stp):(yX ss).length=ss.length:=by simp [yX]
def Vl(K:oO):Sp:=λvs H Q _=>∃(a t:oP) (es:List Ent) (us:List Stp),vs=[.ref a,.ref t]/\Is K H (.lst (es.map dE)) (.ref a)/\Is K H (.lst (us.map dSt)) (.ref t)/\us.length<=100/\(∀e ∈ es,e.2.2.length<=600)/\(∀u ∈ us,0<=u.1/\u.1<es.length)/\∀(D:oP) (H':Hp),H D=sG->Same H H'->LsA K H' D ((byL es us).map dSt)->Q (.ref D) H'
theorem iM:zq ["entries","steps","chain","step","own"] ["entries","steps"] (zb xE):=⟨rfl,rfl,rfl,by decide +kernel,rfl,by decide +kernel,by decide +kernel⟩
theorem YG(B:Bt mg)(F:Fun K "by_pacts" "by_pacts" xE f fd)(oq:Df P w K mg base CX0 1 "moved" ["steps","size"] [] (uZ K))(mj:Df P w K mg base CX0 1 "back" ["steps"] [] (uc K)):FnOk P w K mg base CX0 2 f fd ["entries","steps"] (Vl K):=by
 refine F.ok iM (λvs H Q E h=>?_) (λcdv A outer s H vs Q E hr h=>?_)
 ·obtain⟨a,t,es,us,rfl,_⟩:=h
  rfl
 ·obtain⟨a,t,es,us,rfl,hE,hU,hul,hel,hub,q⟩:=h
  refine⟨_,(zi (zt (i:=2) iM.nd rfl (Or.inl rfl) (xU ze))
   (zi (yE PassesOwn.never rfl (yC (pv 1)) (zC (i:=3) iM.nd rfl (Or.inl rfl))
    (zi (zt (i:=4) iM.nd rfl (Or.inl rfl) (zw ix_tup (zw ix_list (pv 0) (zw ix_tup (pv 3) zg (λ_ _=>rfl)) (λ_ _=>rfl)) zg (λ_ _=>rfl)))
    (zh (xM (vM bc PySem.F.slot_list_extend PySem.F.type_list_extend WM (pv 2) (za (cl0 oq hr .nil rfl (za (kj (xz (zw ix_tup (pv 3) zg (λ_ _=>rfl)) (λ_=>rfl)) (pv 4) (cl0 mj hr .nil rfl (za (pv 4) ze))) (za (zw ix_tup (pv 3) zg (λ_ _=>rfl)) ze))) ze))))))
   (zh (zx (pv 2))))),?_⟩
  have s16:=ym
  have hE':=hE
  have hU':=hU
  simp only[Is] at hE' hU'
  obtain⟨_,xs,e,hX,hI⟩:=hE'
  cases e
  obtain⟨_,ts,e,hTs,hJ⟩:=hU'
  cases e
  have htl:=hJ.len
  rw[ae] at htl
  refine zj (λσ H'=>∃D,H D=sG/\Same H H'/\H' D=sF (.lst [])/\σ=[sF (.ref a),sF (.ref t),sF (.ref D),sG,sG]) ?_ ?_
  ·rfl'
   exact⟨by lia,λp hp=>⟨p,hp,zd hp,zf,rfl⟩⟩
  rintro σ H1 ⟨D,hD,s1,hD1,rfl⟩
  refine zj (λσ H'=>Same H H'/\LsA K H' D ((byL es us).map dSt)/\∃v3 v4,σ=[sF (.ref a),sF (.ref t),sF (.ref D),v3,v4]) ?_ ?_
  ·rfl'
   refine⟨⟨_,s1.seq hTs⟩,ForL.by (xs:=ts) (λi σ H'=>Same H H'/\LsA K H' D ((byL es (us.take i)).map dSt)/\(byL es (us.take i)).length<=i * 600/\∃v3 v4,σ=[sF (.ref a),sF (.ref t),sF (.ref D),v3,v4]) ⟨s1,⟨[],hD1,by simp only[bA,byL,List.flatMap_nil,aN,Iss]⟩,by simp [byL],_,_,rfl⟩ (λi σ H' _ h=>h.1.seq hTs) ?_ ?_⟩
   ·rintro i x σ H' hx ⟨hs,hL,hl,v3,v4,rfl⟩
    obtain⟨u,pu,hui,rfl,hqu⟩:=w6 hJ hx
    have hil:=(List.getElem?_eq_some_iff.mp hui).1
    obtain⟨u0,u1⟩:=hub u (af hui)
    obtain⟨pe,se,g1,g2,g3,g4⟩:=zc6 hI u0 u1
    have hle:=hel _ (af g2)
    have hby:byL es (us.take (i+1))=byL es (us.take i) ++ XJ es u:=by
     unfold byL
     rw[zW hui,cY]
     simp
    simp only[xy,bj,bi]
    refine zj (λσ H''=>H''=H'/\σ=[sF (.ref a),sF (.ref t),sF (.ref D),sF (.ref pu),sF (.ref se)]) ?_ ?_
    ·rfl'
     exact⟨_,zl hs hqu,_,rfl,_,_,rfl,hs.seq hX,_,g1,_,rfl,_,zl hs g3,rfl⟩
    rintro σ G ⟨rfl,rfl⟩
    obtain⟨zs,hZ,hZI⟩:=id hL
    have hzl:=hZI.len
    rw[ae] at hzl
    have hse:=Is.same hs _ _ g4
    have fin:∀(ws:List Stp) (M:oP) (G2:Hp),XJ es u=ws->ws.length<=600->Same G G2->LsA K G2 M (ws.map dSt)->V1 (V.ref D) [V.ref M] G2 λx H1=>Same H H1/\LsA K H1 D ((byL es (us.take (i+1))).map dSt)/\(byL es (us.take (i+1))).length<=(i+1) * 600:=λws M G2 ew hwl sg hM=>by
     obtain⟨ys,hY,hYI⟩:=hM
     have hyl:=hYI.len
     rw[ae] at hyl
     have hZ2:=sg _ _ hZ
     refine⟨D,M,zs,ys,rfl,rfl,hZ2,hY,by lia,zG (hs.trans sg) hD,⟨_,zf,?_⟩,?_⟩
     ·rw[hby,ew,aH]
      exact Iss.append (Iss.updL hZ2 _ _ (wn _) (Iss.same sg _ _ hZI)) (Iss.updL hZ2 _ _ (wn _) hYI)
     ·rw[hby,ew,am]
      lia
    rfl'
    refine⟨.inl ⟨_,SqL.of hZ⟩,_,zl hs hqu,_,rfl,_,rfl,xh (λhf=>⟨_,zl hs hqu,_,rfl,Zj hse (by lia) λM G2 _ sg hM=>fin _ M G2 (by unfold XJ;rw[if_pos hf]) (by rw[YV];lia) sg hM⟩) λhf=>kK hse (by lia) λM0 G1 _ sg0 hM0=>⟨_,zl (hs.trans sg0) hqu,_,rfl,Zj hM0.is (by rw[xQ];lia) λM G2 _ sg hM=>fin _ M G2 (by unfold XJ;rw[if_neg hf]) (by rw[YV,xQ];lia) (sg0.trans sg) hM⟩⟩
   ·rintro σ H' ⟨hs,hL,hl,v3,v4,rfl⟩
    rw[htl,aQ] at hL
    exact⟨hs,hL,_,_,rfl⟩
  rintro σ H2 ⟨s2,hL2,v3,v4,rfl⟩
  rfl'
  exact q D H2 hD s2 hL2
noncomputable def yd(rs:List zr):List Nat->List Stp->Option (List Nat)
 | w,[]=>sF w
 | w,s::ss=>(yn rs w s).bind λw'=>yd rs w' ss
theorem wu(rs:List zr):∀(ss ts:List Stp) (w:List Nat),yd rs w (ss ++ ts)=(yd rs w ss).bind λw'=>yd rs w' ts
 | [],ts,w=>rfl
 | s::ss,ts,w=>by
  simp only[bF,yd]
  cases yn rs w s with
  | none=>rfl
  | some w1=>exact wu rs ss ts w1
theorem vD{s:Stp}{w w':List Nat}(h:yd rs w (s::ss)=sF w'):∃w1,yn rs w s=sF w1/\yd rs w1 ss=sF w':=by
 simp only[yd] at h
 obtain⟨w1,h1,h2⟩:=Option.bind_eq_some_iff.mp h
 exact⟨w1,h1,h2⟩
theorem qK{s:Stp}{w w1 w2:List Nat}(h:yd rs w ss=sF w1)(h2:yn rs w1 s=sF w2):yd rs w (ss ++ [s])=sF w2:=by
 rw[wu,h]
 simp only[yd,bU]
 rw[h2]
 rfl
theorem WP(s:Stp)(ss:List Stp):yX (s::ss)=yX ss ++ [bk s]:=by simp [yX]
theorem vO:∀{ss:List Stp} {w w':List Nat},yd rs w ss=sF w'->yd rs w' (yX ss)=sF w
 | [],w,w',h=>by cases h;rfl
 | s::ss,w,w',h=>by
  obtain⟨w1,h1,h2⟩:=vD h
  rw[WP]
  exact qK (vO h2) (jU h1)
theorem qI(a b:List Nat):∀{ss:List Stp} {w w':List Nat},yd rs w ss=sF w'->yd rs (a ++ w ++ b) (mvL ss (a.length:Int))=sF (a ++ w' ++ b)
 | [],w,w',h=>by cases h;rfl
 | s::ss,w,w',h=>by
  obtain⟨w1,h1,h2⟩:=vD h
  have e:mvL (s::ss) (a.length:Int)=(s.1,s.2.1+(a.length:Int),s.2.2)::mvL ss (a.length:Int):=rfl
  rw[e]
  simp only[yd]
  rw[uD a b h1]
  exact qI a b h2
def EOk(rs:List zr)(e:Ent):Prop:=yd rs e.1 e.2.2=sF e.2.1
noncomputable def zc(es:List Ent):List zr:=es.map λe=>(e.1,e.2.1)
theorem U6(hE:∀e ∈ es,EOk rs e){u:Stp}{w w':List Nat}(h:yn (zc es) w u=sF w'):yd rs w (XJ es u)=sF w':=by
 have hb:0<=u.1/\u.1<(zc es).length:=bw λhb=>by rw[y8 hb] at h;cases h
 rw[yF hb] at h
 have hl:(zc es).length=es.length:=by unfold zc;rw[ae]
 rw[hl] at hb
 have hg:es[u.1.toNat]? = sF (es.getD u.1.toNat ([],[],[])):=by
  rw[ac,al (by lia)]
  rfl
 have hp:(zc es).getD u.1.toNat ([],[])=((es.getD u.1.toNat ([],[],[])).1,(es.getD u.1.toNat ([],[],[])).2.1):=by
  unfold zc
  rw[ac,aG,hg]
  rfl
 rw[hp] at h
 have he:=hE _ (af hg)
 unfold XJ
 generalize es.getD u.1.toNat ([],[],[])=e at *
 have key:∀(o n:List Nat) (ss:List Stp),sdl (e.1,e.2.1) u.2.2=(o,n)->yd rs o ss=sF n->yd rs w (mvL ss u.2.1)=sF w':=λo n ss hs hw=>by
  rw[hs] at h
  by_cases hst:zu w u.2.1 o=sH
  ·rw[if_pos hst] at h
   cases h
   obtain⟨e1,e2,h0,h1⟩:=xl hst
   have:=qI (w.take u.2.1.toNat) (w.drop (u.2.1.toNat+o.length)) hw
   rw[e1,e2,show ((u.2.1.toNat:Nat):Int)=u.2.1 by lia] at this
   exact this
  ·rw[if_neg hst] at h
   cases h
 cases hf:u.2.2 with
 | true =>
  rw[if_pos rfl]
  exact key e.1 e.2.1 e.2.2 (by rw[hf];rfl) he
 | false =>
  rw[if_neg (by decide)]
  exact key e.2.1 e.1 (yX e.2.2) (by rw[hf];rfl) (vO he)
theorem kX(hE:∀e ∈ es,EOk rs e):∀{us:List Stp} {w w':List Nat},yd (zc es) w us=sF w'->yd rs w (byL es us)=sF w'
 | [],w,w',h=>by cases h;rfl
 | u::us,w,w',h=>by
  obtain⟨w1,h1,h2⟩:=vD h
  have e:byL es (u::us)=XJ es u ++ byL es us:=by simp [byL]
  rw[e,wu,U6 hE h1]
  exact kX hE h2
theorem WV(ok:jj rs){w w':List Nat}{s:Stp}(h:yn rs w s=sF w'):w'.length<=w.length+100:=by
 have hb:0<=s.1/\s.1<rs.length:=bw λhb=>by rw[y8 hb] at h;cases h
 rw[yF hb] at h
 have g:=YH ok s.1.toNat
 generalize rs.getD s.1.toNat ([],[])=r at *
 by_cases hs:zu w s.2.1 (sdl r s.2.2).1=sH
 ·rw[if_pos hs] at h
  cases h
  have:=Xw (n:=(sdl r s.2.2).2) hs
  have h2:(sdl r s.2.2).2.length<=100:=by
   cases s.2.2
   ·exact g.1
   ·exact g.2
  lia
 ·rw[if_neg hs] at h
  cases h
noncomputable def jt(D:oP)(H:Hp):Hp:=λb=>if b=D then sG else H b
theorem wK{D b:oP}(h:b≠D):jt D H b=H b:=by unfold jt;rw[if_neg h]
theorem qR{D:oP}:jt D H D=sG:=by unfold jt;rw[if_pos rfl]
theorem wL{D:oP}:Same (jt D H) H:=λb o e=>by
 by_cases hb:b=D
 ·rw[hb,qR] at e;cases e
 ·rw[wK hb] at e;exact e
theorem V5{D:oP}{H H':Hp}(hD:H D=sG)(s:Same H H'):Same H (jt D H'):=λb o e=>by
 have hb:b≠D:=λz=>by rw[z,hD] at e;cases e
 rw[wK hb]
 exact s _ _ e
theorem wQ{D:oP}{H H':Hp}(s:Same H H'):Same (jt D H) (jt D H'):=λb o e=>by
 by_cases hb:b=D
 ·rw[hb,qR] at e;cases e
 ·rw[wK hb] at e ⊢;exact s _ _ e
theorem xR{D:oP}{o:HO}:Same (jt D H) (jt D (upd H D o)):=λb o' e=>by
 by_cases hb:b=D
 ·rw[hb,qR] at e;cases e
 ·rw[wK hb] at e ⊢;rw[zo hb];exact e
theorem WA{D a:oP}{xs ys:List V}(hD:H D=sF (.lst ys))(h:SqT K H a xs):SqT K (jt D H) a xs:=by
 rcases h with (h | ⟨o,h⟩) | h
 ·exact .inl (.inl (by rw[wK (λe=>by rw[e,hD] at h;cases h)];exact h))
 ·exact .inl (.inr ⟨o,by rw[wK (λe=>by rw[e,hD] at h;cases h)];exact h⟩)
 ·exact .inr h
theorem Xk{D:oP}{ys:List V}(hD:H D=sF (.lst ys)):∀(ss:List Stp) (vs:List V),Iss K H (ss.map dSt) vs->Iss K (jt D H) (ss.map dSt) vs
 | [],vs,h=>by simp only[aN,Iss] at h ⊢;exact h
 | s::ss,vs,h=>by
  simp only[aC,Iss] at h ⊢
  obtain⟨v,r,rfl,h1,h2⟩:=h
  obtain⟨p,rfl,h3⟩:=Ji h1
  exact⟨_,r,rfl,jE (WA hD h3),Xk hD ss r h2⟩
theorem zcg{p s:oP}(h1:SqT K H p [.str (tx e.1),.str (tx e.2.1),.ref s])(h2:Is K H (.lst (e.2.2.map dSt)) (.ref s)):Is K H (dE e) (.ref p):=by
 simp only[dE,Is,Iss]
 simp only[Is] at h2
 exact⟨p,_,rfl,h1,_,_,rfl,rfl,_,_,rfl,rfl,_,_,rfl,h2,rfl⟩
theorem Y9{vs:List V}{j:Nat}{v:V}(h:Iss K H (es.map dE) vs)(q:vs[j]? = sF v):∃e p s,es[j]? = sF e/\v=.ref p/\SqT K H p [.str (tx e.1),.str (tx e.2.1),.ref s]/\Is K H (.lst (e.2.2.map dSt)) (.ref s):=by
 obtain⟨d,e,i⟩:=h.get q
 rw[aG] at e
 obtain⟨r,hr,rfl⟩:=Option.map_eq_some_iff.mp e
 obtain⟨p,s,e1,e2,e3⟩:=zbo i
 exact⟨r,p,s,hr,e1,e2,e3⟩
theorem Us{d:L3.D}{v:V}(h:Is K H d v):Iss K H [d] [v]:=by
 simp only[Iss]
 exact⟨v,[],rfl,h,rfl⟩
def EnA(K:oO)(H:Hp)(e:Ent)(v:V):Prop:=∃p s,v=.ref p/\SqT K H p [.str (tx e.1),.str (tx e.2.1),.ref s]/\LsA K H s (e.2.2.map dSt)
def EnsA(K:oO)(H:Hp):List Ent->List V->Prop
 | [],vs=>vs=[]
 | e::es,vs=>∃v r,vs=v::r/\EnA K H e v/\EnsA K H es r
def EnsL(K:oO)(H:Hp)(a:oP)(es:List Ent):Prop:=∃xs,SqL K H a xs/\EnsA K H es xs
def EnsM(K:oO)(H:Hp)(a:oP)(es:List Ent):Prop:=∃xs,H a=sF (.lst xs)/\EnsA K H es xs
theorem EnA.is{v:V}(h:EnA K H e v):Is K H (dE e) v:=by
 obtain⟨p,s,rfl,h1,h2⟩:=h
 exact zcg h1 h2.is
theorem EnA.same{H H':Hp}{v:V}(h:EnA K H e v)(q:Same H H'):EnA K H' e v:=by
 obtain⟨p,s,e0,h1,h2⟩:=h
 exact⟨p,s,e0,zl q h1,h2.same q⟩
theorem EnsA.iss:∀{es:List Ent} {vs:List V},EnsA K H es vs->Iss K H (es.map dE) vs
 | [],vs,h=>by simp only[EnsA] at h;simp only[aN,Iss];exact h
 | e::es,vs,h=>by
  simp only[EnsA] at h
  obtain⟨v,r,rfl,h1,h2⟩:=h
  simp only[aC,Iss]
  exact⟨v,r,rfl,h1.is,h2.iss⟩
theorem EnsA.len{vs:List V}(h:EnsA K H es vs):vs.length=es.length:=by
 have:=h.iss.len
 rw[ae] at this
 exact this
theorem EnsA.same{H H':Hp}(q:Same H H'):∀{es:List Ent} {vs:List V},EnsA K H es vs->EnsA K H' es vs
 | [],vs,h=>by simp only[EnsA] at h ⊢;exact h
 | e::es,vs,h=>by
  simp only[EnsA] at h ⊢
  obtain⟨v,r,e0,h1,h2⟩:=h
  exact⟨v,r,e0,h1.same q,h2.same q⟩
theorem EnsA.snoc{v:V}(hv:EnA K H e v):∀{es:List Ent} {vs:List V},EnsA K H es vs->EnsA K H (es ++ [e]) (vs ++ [v])
 | [],vs,h=>by
  simp only[EnsA] at h
  subst h
  simp only[bv,EnsA]
  exact⟨v,[],rfl,hv,rfl⟩
 | e'::es,vs,h=>by
  simp only[EnsA] at h
  obtain⟨x,r,rfl,hx,hr⟩:=h
  simp only[bF,EnsA]
  exact⟨x,r ++ [v],rfl,hx,hr.snoc hv⟩
theorem EnsA.get:∀{es:List Ent} {vs:List V} {j:Nat} {v:V},EnsA K H es vs->vs[j]? = sF v->∃e p s,es[j]? = sF e/\v=.ref p/\SqT K H p [.str (tx e.1),.str (tx e.2.1),.ref s]/\LsA K H s (e.2.2.map dSt)
 | [],vs,j,v,h,q=>by
  simp only[EnsA] at h
  subst h
  simp at q
 | e::es,vs,0,v,h,q=>by
  simp only[EnsA] at h
  obtain⟨x,r,rfl,⟨p,s,rfl,h1,h2⟩,_⟩:=h
  cases q
  exact⟨e,p,s,rfl,rfl,h1,h2⟩
 | e::es,vs,j+1,v,h,q=>by
  simp only[EnsA] at h
  obtain⟨x,r,rfl,_,hr⟩:=h
  exact hr.get (j:=j) (by simpa using q)
theorem EnsL.is{a:oP}(h:EnsL K H a es):Is K H (.lst (es.map dE)) (.ref a):=by
 obtain⟨xs,h1,h2⟩:=h
 simp only[Is]
 exact⟨a,xs,rfl,h1,h2.iss⟩
theorem EnsL.same{H H':Hp}{a:oP}(h:EnsL K H a es)(q:Same H H'):EnsL K H' a es:=by
 obtain⟨xs,h1,h2⟩:=h
 exact⟨xs,q.seq h1,h2.same q⟩
theorem EnsM.l{a:oP}(h:EnsM K H a es):EnsL K H a es:=by
 obtain⟨xs,h1,h2⟩:=h
 exact⟨xs,SqL.of h1,h2⟩
theorem EnsM.same{H H':Hp}{a:oP}(h:EnsM K H a es)(q:Same H H'):EnsM K H' a es:=by
 obtain⟨xs,h1,h2⟩:=h
 exact⟨xs,q _ _ h1,h2.same q⟩
theorem EnA.new{D p s:oP}{ys:List V}(hD:H D=sF (.lst ys))(hp:H p=sF (.tup [.str (tx e.1),.str (tx e.2.1),.ref s]))(hs:LsA K H s (e.2.2.map dSt))(hsD:s≠D):EnA K (jt D H) e (.ref p):=by
 obtain⟨zs,hz,hi⟩:=hs
 have hpD:p≠D:=λz=>by rw[z,hD] at hp;cases hp
 exact⟨p,s,rfl,SqT.of (by rw[wK hpD];exact hp),zs,by rw[wK hsD];exact hz,Xk hD _ _ hi⟩
theorem vR(es:List Ent):(zc es).length=es.length:=by unfold zc;rw[ae]
def wx(K:oO):Sp:=λvs H Q _=>∃(a:oP) (es:List Ent),vs=[.ref a]/\Is K H (.lst (es.map dE)) (.ref a)/\es.length<=1000/\∀(D:oP) (H':Hp),H D=sG->Same H H'->LsA K H' D ((zc es).map dR)->Q (.ref D) H'
theorem wJ{a:oP}(h1:Is K H (.lst (es.map dE)) (.ref a))(h2:es.length<=1000)(h:∀(D:oP) (H':Hp),H D=sG->Same H H'->LsA K H' D ((zc es).map dR)->Q (.ref D) H'):wx K [.ref a] H Q E:=⟨a,es,rfl,h1,h2,h⟩
theorem YC:zq ["entries"] ["entries"] (zb yZ):=⟨rfl,rfl,rfl,by decide +kernel,rfl,by decide +kernel,by decide +kernel⟩
theorem Yj(B:Bt mg)(F:Fun K "pairs_of" "pairs_of" yZ f fd) : FnOk P w K mg base CX0 1 f fd ["entries"] (wx K):=by
 refine F.ok YC (λvs H Q E h=>?_) (λcdv A outer s H vs Q E hr h=>?_)
 ·obtain⟨a,es,rfl,_⟩:=h
  rfl
 ·obtain⟨a,es,rfl,hA,hl,q⟩:=h
  refine⟨_,(zh (zx (xY (own:=["entry"]) (caps:=[]) (ix:=[]) (tt:=vS) (te:=(UA (zP (tOp (uM K) (xw 0) (tC (.int 0))) (zP (tOp (uM K) (xw 0) (tC (.int 1))) vd)))) rfl (yb (sc:=zb yZ) rfl (by decide +kernel) (by decide +kernel) (by decide +kernel) rfl (by decide +kernel) (by decide +kernel) rfl) (yC (pv 0)) (λ_ _ _ _ _ _=>zC (i:=0) (show List.Nodup [_] by decide) rfl (Or.inl rfl)) (λ_ _ _ _ _ _=>xu) (λ_ _ _ _ _ _=>(ya (za (zw ix_tup (pv 0) zg (λ_ _=>rfl)) (za (zw ix_tup (pv 0) zg (λ_ _=>rfl)) ze))))))),?_⟩
  have s16:=ym
  rfl'
  simp only[Is] at hA
  obtain⟨_,xs,e,hX,hI⟩:=hA
  cases e
  have hxl:=hI.len
  rw[ae] at hxl
  have hpl:=vR es
  refine⟨⟨xs,hX⟩,λD hD=>CompL.by (xs:=xs) (λi sL H'=>Same H H'/\H' D=sF (.lst sL)/\Iss K H' (((zc es).take i).map dR) sL) ⟨zd hD,zf,by simp only[bA,aN,Iss]⟩ (λi sL H' _ h=>h.1.seq hX) ?_ ?_⟩
  ·rintro i x sL H' hx ⟨hs,hH,hA⟩
   have hi:=(List.getElem?_eq_some_iff.mp hx).1
   obtain⟨e,pe,se,hei,rfl,hqe,_⟩:=Y9 hI hx
   have hm:(zc es)[i]? = sF (e.1,e.2.1):=by unfold zc;rw[aG,hei];rfl
   have hal:=hA.len
   rw[ae,aK] at hal
   simp only[vS]
   rfl'
   refine⟨wD,_,zl hs hqe,_,rfl,_,zl hs hqe,_,rfl,by lia,λp hp=>⟨zd hp _ _ hH,by lia,CNx.mk hi ⟨zG (hs.trans (zd hp)) hD,zf,?_⟩⟩⟩
   rw[zW hm,aH]
   exact vc hH hA hp Qh (yV _) (by simp only[zQ,xq,and_self])
  ·rintro sL H' ⟨hs,hH,hA⟩
   rw[hxl,<- hpl,aQ] at hA
   exact q D H' hD hs ⟨sL,hH,hA⟩
noncomputable def yy(k:Nat)(l:List Nat)(ns:List Int)(e:Ent):Ent:=if zL k l ns e.2.1 e.1=sH then e else (e.2.1,e.1,yX e.2.2)
structure EB(l:List Nat)(e:Ent):Prop where
 a:e.1.length<=60
 b:e.2.1.length<=60
 s:e.2.2.length<=600
 ma:∀c ∈ e.1,c ∈ l
 mb:∀c ∈ e.2.1,c ∈ l
theorem EB.rule{l:List Nat}(h:EB l e):EB l (yy k l ns e):=by
 unfold yy
 split
 ·exact h
 ·exact⟨h.b,h.a,by rw[xQ];exact h.s,h.mb,h.ma⟩
def wl(K:oO)(CO CR CW:oP):Sp:=λvs H Q _=>∃(o p s:oP) (k:Nat) (l:List Nat) (ns:List Int) (e:Ent),vs=[.ref o,.ref p]/\OrdAt CO CR CW H o k l ns/\OG l ns k/\SqT K H p [.str (tx e.1),.str (tx e.2.1),.ref s]/\Is K H (.lst (e.2.2.map dSt)) (.ref s)/\EB l e /\
 (yy k l ns e=e->∀H',Same H H'->Q (.ref p) H') /\
 (∀(p' s':oP) (H':Hp),Same H H'->H s'=sG->H' p'=sF (.tup [.str (tx (yy k l ns e).1),.str (tx (yy k l ns e).2.1),.ref s'])->LsA K H' s' ((yy k l ns e).2.2.map dSt)->Q (.ref p') H')
theorem jQ{CO CR CW o p s:oP}{l:List Nat}(h1:OrdAt CO CR CW H o k l ns)(h2:OG l ns k)(h3:SqT K H p [.str (tx e.1),.str (tx e.2.1),.ref s])(h4:Is K H (.lst (e.2.2.map dSt)) (.ref s))(h5:EB l e)
  (h6:yy k l ns e=e->∀H',Same H H'->Q (.ref p) H') (h7:∀(p' s':oP) (H':Hp),Same H H'->H s'=sG->H' p'=sF (.tup [.str (tx (yy k l ns e).1),.str (tx (yy k l ns e).2.1),.ref s'])->LsA K H' s' ((yy k l ns e).2.2.map dSt)->Q (.ref p') H'):wl K CO CR CW [.ref o,.ref p] H Q E :=
 ⟨o,p,s,k,l,ns,e,rfl,h1,h2,h3,h4,h5,h6,h7⟩
theorem Wm:zq ["order","entry"] ["order","entry"] (zb wc):=⟨rfl,rfl,rfl,by decide +kernel,rfl,by decide +kernel,by decide +kernel⟩
theorem Wq{f CO CR CW:oP}(B:Bt mg)(DBk:DB P w K mg base CO CR CW)(F:Fun K "as_rule" "as_rule" wc f fd)(mj:Df P w K mg base CX0 1 "back" ["steps"] [] (uc K)):FnOk P w K mg base CX0 4 f fd ["order","entry"] (wl K CO CR CW):=by
 refine F.ok Wm (λvs H Q E h=>?_) (λcdv A outer s H vs Q E hr h=>?_)
 ·obtain⟨o,p,s,k,l,ns,e,rfl,_⟩:=h
  rfl
 ·obtain⟨o,p,s,k,l,ns,e,rfl,ho,hG,hp,hs,hE,q1,q2⟩:=h
  refine⟨_,(zN (z9 (xz (K8 DBk hr (pv 0) (za (zw ix_tup (pv 1) zg (λ_ _=>rfl)) (za (zw ix_tup (pv 1) zg (λ_ _=>rfl)) ze))) (λ_=>rfl))
    (zh (zx (pv 1)))
    zD)
   (zh (zx (ya (za (zw ix_tup (pv 1) zg (λ_ _=>rfl)) (za (zw ix_tup (pv 1) zg (λ_ _=>rfl)) (za (cl0 mj hr .nil rfl (za (zw ix_tup (pv 1) zg (λ_ _=>rfl)) ze)) ze))))))),?_⟩
  have s16:=ym
  ac_rfl
  obtain⟨C,dx,fs,hf,ho1,hn,_⟩:=ho.fam
  have h1:fs.lookup ("before" : oW)=sG:=hn _ (by decide) (by decide)
  refine⟨C,hf,dx,fs,ho1,h1,_,hp,_,rfl,_,hp,_,rfl,o,k,l,ns,e.2.1,e.1,rfl,ho,hG,by have:=hE.b;lia,by have:=hE.a;lia,hE.mb,hE.ma,λH1 s1=>⟨_,rfl,xh (λh=>?_) λh=>?_⟩⟩
  ·exact q1 (by unfold yy;rw[if_pos h]) H1 s1
  ·have er:yy k l ns e=(e.2.1,e.1,yX e.2.2):=by unfold yy;rw[if_neg h]
   rw[er] at q2
   have hp1:=zl s1 hp
   refine⟨_,hp1,_,rfl,_,hp1,_,rfl,_,hp1,_,rfl,kK (Is.same s1 _ _ hs) (by have:=hE.s;lia) λD H2 hD s2 hL=>⟨by lia,λt ht=>?_⟩⟩
   exact q2 t D _ (s1.trans (s2.trans (zd ht))) (s1.free hD) zf (hL.same (zd ht))
theorem Z9{l:List Nat}{w:List Nat}(hb:∀n ∈ ns,1<=n/\n<=1000000):0<=Wv l ns w:=by
 unfold Wv
 have key:∀xs:List Int,(∀x ∈ xs,0<=x)->0<=xs.sum:=by
  intro xs
  induction xs with
  | nil=>intro _;simp
  | cons x xs ih =>
   intro h
   rw[bt]
   have h1:=h x az
   have h2:=ih λy hy=>h y (aw _ hy)
   lia
 refine key _ λx hx=>?_
 obtain⟨p,hp,rfl⟩:=List.mem_map.mp hx
 have h1:=(hb p.2 (da (show (p.1,p.2) ∈ l.zip ns from hp)).2).1
 exact Int.mul_nonneg (by lia) (by lia)
theorem Vj{l:List Nat}{u v:List Nat}(hb:∀n ∈ ns,1<=n/\n<=1000000)(h:zL k l ns u v=sH):v≠[]:=by
 intro e
 subst e
 have h0:zv k l ns []=0:=by
  unfold zv
  split
  ·unfold Wv
   have z:∀xs:List (Nat × Int),(xs.map λp=>(([]:List Nat).count p.1:Int) * p.2).sum=0:=by
    intro xs
    induction xs with
    | nil=>rfl
    | cons x xs ih=>rw[aC,bt,ih];simp
   exact z _
  ·rfl
 have h1:0<=zv k l ns u:=by
  unfold zv
  split
  ·exact Z9 hb
  ·lia
 have h2:qV k l []=[]:=by
  unfold qV xI
  split <;> rfl
 unfold zL at h
 rw[h0,h2] at h
 split at h
 ·cases hr:qV k l u with
  | nil=>rw[hr] at h;cases h
  | cons a r=>rw[hr] at h;cases h
 ·have:=of_decide_eq_true h
  lia
theorem jc{k:Nat}{l:List Nat}{ns:List Int}(hE:EB l e)(hne:e.1≠e.2.1):zL k l ns (yy k l ns e).2.1 (yy k l ns e).1=sH:=by
 unfold yy
 by_cases h:zL k l ns e.2.1 e.1=sH
 ·rw[if_pos h]
  exact h
 ·rw[if_neg h]
  have:=qp (k:=k) (ns:=ns) hE.ma hE.mb hne
  show zL k l ns e.1 e.2.1=sH
  rw[this]
  simpa using h
noncomputable def qS(k:Nat)(l:List Nat)(ns:List Int)(es:List Ent):List Ent:=(es.filter λe=>!decide (e.1=e.2.1)).map (yy k l ns)
theorem Kp(k:Nat)(l:List Nat)(ns:List Int)(es fs:List Ent):qS k l ns (es ++ fs)=qS k l ns es ++ qS k l ns fs:=by
 unfold qS
 rw[cN,aH]
theorem Z7(k:Nat)(l:List Nat)(ns:List Int)(es:List Ent):(qS k l ns es).length<=es.length:=by
 unfold qS
 rw[ae]
 exact cQ _ _
noncomputable def Wo(k:Nat)(l:List Nat)(ns:List Int)(a b:Ent):Bool:=if a.1=b.1 then zL k l ns a.2.1 b.2.1 else zL k l ns a.1 b.1
structure Lined(k:Nat)(l:List Nat)(ns:List Int)(es zs:List Ent):Prop where
 perm:zs.Perm (qS k l ns es)
 srt:zs.Pairwise λa b=>Wo k l ns b a=sI
structure zS(ps:List zr)(w:List Nat)(i:Nat):Prop where
 live:Wa ps w i
 end_:zF (wAt ps w i) ps=sG
 most:i<=40
theorem Ke(ps:List zr)(w:List Nat):(∃i,zS ps w i)\/(Wa ps w 40/\zF (wAt ps w 40) ps≠sG):=by
 have key:∀n,n<=41->(∃i,zS ps w i)\/Wa ps w n:=by
  intro n
  induction n with
  | zero=>intro _;exact .inr λi h=>absurd h (cL i)
  | succ n ih =>
   intro hn
   rcases ih (by lia) with h | h
   ·exact .inl h
   ·cases e:zF (wAt ps w n) ps with
    | none=>exact .inl ⟨n,h,e,by lia⟩
    | some u =>
     refine .inr λi hi=>?_
     by_cases hin:i=n
     ·rw[hin,e]
      intro z
      cases z
     ·exact h i (by lia)
 rcases key 41 (au _) with h | h
 ·exact .inl h
 ·exact .inr ⟨λi hi=>h i (by lia),h 40 (by decide)⟩
noncomputable def stS(us:List (Nat × Nat)):List Stp:=us.map λu=>((u.1:Int),(u.2:Int),sH)
noncomputable def yW(bs:List Ent)(e:Ent)(i j:Nat):Ent:=(wAt (zc bs) e.1 i,wAt (zc bs) e.2.1 j,byL bs (yX (stS (sAt (zc bs) e.1 i))) ++ e.2.2 ++ byL bs (stS (sAt (zc bs) e.2.1 j)))
def jl(e:Ent):Prop:=240<e.2.2.length\/60<e.1.length\/60<e.2.1.length
inductive xL(k:Nat)(l:List Nat)(ns:List Int):List Ent->List Ent->Option (List Ent)->Prop where
 | nil (bs:List Ent):xL k l ns bs [] (sF bs)
 | same {bs es:List Ent} {e:Ent} {i j:Nat} {r:Option (List Ent)} (h1:zS (zc bs) e.1 i) (h2:zS (zc bs) e.2.1 j) (h3:wAt (zc bs) e.1 i=wAt (zc bs) e.2.1 j) (h4:xL k l ns bs es r):xL k l ns bs (e::es) r
 | new {bs es:List Ent} {e:Ent} {i j:Nat} {r:Option (List Ent)} (h1:zS (zc bs) e.1 i) (h2:zS (zc bs) e.2.1 j) (h3:wAt (zc bs) e.1 i≠wAt (zc bs) e.2.1 j) (h4:¬ jl (yW bs e i j)) (h5:xL k l ns (bs ++ [yy k l ns (yW bs e i j)]) es r):xL k l ns bs (e::es) r
 | far {bs es:List Ent} {e:Ent} {i j:Nat} (h1:zS (zc bs) e.1 i) (h2:zS (zc bs) e.2.1 j) (h3:wAt (zc bs) e.1 i≠wAt (zc bs) e.2.1 j) (h4:jl (yW bs e i j)):xL k l ns bs (e::es) sG
 | stuck {bs es:List Ent} {e:Ent} (h:(∀i,¬ zS (zc bs) e.1 i)\/(∀j,¬ zS (zc bs) e.2.1 j)):xL k l ns bs (e::es) sG
inductive vW(k:Nat)(l:List Nat)(ns:List Int):Nat->List Ent->Option (List Ent)->Prop where
 | out (es:List Ent):vW k l ns 0 es sG
 | bad {n:Nat} {es zs:List Ent} (h1:Lined k l ns es zs) (h2:xL k l ns [] zs sG):vW k l ns (n+1) es sG
 | done {n:Nat} {es zs bs:List Ent} (h1:Lined k l ns es zs) (h2:xL k l ns [] zs (sF bs)) (h3:zc bs=zc zs):vW k l ns (n+1) es (sF bs)
 | more {n:Nat} {es zs bs:List Ent} {r:Option (List Ent)} (h1:Lined k l ns es zs) (h2:xL k l ns [] zs (sF bs)) (h3:zc bs≠zc zs) (h4:vW k l ns n bs r):vW k l ns (n+1) es r
theorem xm{w:List Nat}{u:Nat × Nat}(h:zF w ps=sF u):∃p,ps[u.1]? = sF p/\zu w (u.2:Int) p.1=sH:=by
 have hm:u ∈ xP w ps w.length:=eR (by unfold zF at h;rw[h];rfl)
 exact (wU (usesK_mem.mp hm).2).2
theorem vZ{l w:List Nat}(hw:∀c ∈ w,c ∈ l)(hp:∀p ∈ ps,∀c ∈ p.2,c ∈ l):∀j,∀c ∈ wAt ps w j,c ∈ l
 | 0=>hw
 | j+1=>by
  have ih:=vZ hw hp j
  cases e:zF (wAt ps w j) ps with
  | none =>
   show ∀c ∈ Xb ps (wAt ps w j),c ∈ l
   unfold Xb
   rw[e]
   exact ih
  | some u =>
   obtain⟨p,h1,h2⟩:=xm e
   rw[wq e]
   unfold Z6 yR
   rw[xJ h1]
   intro c hc
   rcases List.mem_append.mp hc with hc | hc
   ·rcases List.mem_append.mp hc with hc | hc
    ·exact ih c (bu hc)
    ·exact hp p (af h1) c hc
   ·exact ih c (cf hc)
structure Ww(R:List Nat->List Nat->Prop):Prop where
 refl:∀u,R u u
 symm:∀{u v},R u v->R v u
 trans:∀{u v w},R u v->R v w->R u w
 ctx:∀{u v} (a b:List Nat),R u v->R (a ++ u ++ b) (a ++ v ++ b)
def vx(R:List Nat->List Nat->Prop)(es:List Ent):Prop:=∀e ∈ es,R e.1 e.2.1
theorem Kh{R:List Nat->List Nat->Prop}(hR:Ww R)(hk:∀p ∈ ps,R p.1 p.2)(w:List Nat):∀j,R w (wAt ps w j)
 | 0=>hR.refl w
 | j+1=>by
  have ih:=Kh hR hk w j
  cases e:zF (wAt ps w j) ps with
  | none =>
   show R w (Xb ps (wAt ps w j))
   unfold Xb
   rw[e]
   exact ih
  | some u =>
   obtain⟨p,h1,h2⟩:=xm e
   rw[wq e]
   refine hR.trans ih ?_
   obtain⟨e1,_⟩:=xl h2
   unfold Z6 yR
   rw[xJ h1]
   have:=hR.ctx ((wAt ps w j).take ((u.2:Int)).toNat) ((wAt ps w j).drop (((u.2:Int)).toNat+p.1.length)) (hk p (af h1))
   rw[e1] at this
   exact this
theorem qN{R:List Nat->List Nat->Prop}(h:vx R bs):∀p ∈ zc bs,R p.1 p.2:=λp hp=>by
 unfold zc at hp
 obtain⟨e,he,rfl⟩:=List.mem_map.mp hp
 exact h e he
theorem wZ{R:List Nat->List Nat->Prop}(hR:Ww R){l:List Nat}:R (yy k l ns e).1 (yy k l ns e).2.1 ↔ R e.1 e.2.1:=by
 unfold yy
 split
 ·exact Iff.rfl
 ·exact⟨hR.symm,hR.symm⟩
theorem WH{R:List Nat->List Nat->Prop}(hR:Ww R){i j:Nat}(h:vx R bs):R (wAt (zc bs) e.1 i) (wAt (zc bs) e.2.1 j) ↔ R e.1 e.2.1:=by
 have h1:=Kh hR (qN h) e.1 i
 have h2:=Kh hR (qN h) e.2.1 j
 exact⟨λx=>hR.trans h1 (hR.trans x (hR.symm h2)),λx=>hR.trans (hR.symm h1) (hR.trans x h2)⟩
theorem Ul{R:List Nat->List Nat->Prop}(hR:Ww R){l:List Nat}{bs es:List Ent}{r:Option (List Ent)}(h:xL k l ns bs es r):∀fs,r=sF fs->(vx R fs ↔ vx R bs/\vx R es):=by
 induction h with
 | nil bs =>
  intro fs e
  cases e
  exact⟨λh=>⟨h,λe he=>(nomatch he)⟩,λh=>h.1⟩
 | @same bs es e i j r h1 h2 h3 h4 ih =>
  intro fs er
  rw[ih fs er]
  refine⟨λ⟨a,b⟩=>⟨a,λx hx=>?_⟩,λ⟨a,b⟩=>⟨a,λx hx=>b x (aw _ hx)⟩⟩
  rcases List.mem_cons.mp hx with rfl | hx
  ·refine (WH hR a (i:=i) (j:=j)).mp ?_
   rw[h3]
   exact hR.refl _
  ·exact b x hx
 | @new bs es e i j r h1 h2 h3 h4 h5 ih =>
  intro fs er
  rw[ih fs er]
  constructor
  ·rintro⟨a,b⟩
   have a':vx R bs:=λx hx=>a x (aR _ hx)
   refine⟨a',λx hx=>?_⟩
   rcases List.mem_cons.mp hx with rfl | hx
   ·have:=a _ (aA bs (List.mem_singleton.mpr rfl))
    exact (WH hR a' (i:=i) (j:=j)).mp ((wZ hR).mp this)
   ·exact b x hx
  ·rintro⟨a,b⟩
   refine⟨λx hx=>?_,λx hx=>b x (aw _ hx)⟩
   rcases List.mem_append.mp hx with hx | hx
   ·exact a x hx
   ·rw[List.mem_singleton.mp hx]
    exact (wZ hR).mpr ((WH hR a (i:=i) (j:=j)).mpr (b e az))
 | far=>intro fs e;cases e
 | stuck=>intro fs e;cases e
theorem VP{R:List Nat->List Nat->Prop}(hR:Ww R){l:List Nat}{es zs:List Ent}(h:Lined k l ns es zs):vx R zs ↔ vx R es:=by
 have h1:vx R zs ↔ vx R (qS k l ns es):=⟨λa x hx=>a x (h.perm.mem_iff.mpr hx),λa x hx=>a x (h.perm.mem_iff.mp hx)⟩
 rw[h1]
 unfold qS
 constructor
 ·intro a x hx
  by_cases e:x.1=x.2.1
  ·rw[e]
   exact hR.refl _
  ·exact (wZ hR).mp (a _ (List.mem_map.mpr ⟨x,List.mem_filter.mpr ⟨hx,by simpa using e⟩,rfl⟩))
 ·intro a x hx
  obtain⟨y,hy,rfl⟩:=List.mem_map.mp hx
  exact (wZ hR).mpr (a y ((List.mem_filter.mp hy).1))
theorem QW{R:List Nat->List Nat->Prop}(hR:Ww R){k n:Nat}{l:List Nat}{r:Option (List Ent)}(h:vW k l ns n es r):∀fs,r=sF fs->(vx R fs ↔ vx R es):=by
 have nilk:vx R []:=λe he=>(nomatch he)
 induction h with
 | out=>intro fs e;cases e
 | bad=>intro fs e;cases e
 | done h1 h2 h3 =>
  intro fs e
  rw[Ul hR h2 fs e,VP hR h1]
  exact⟨λh=>h.2,λh=>⟨nilk,h⟩⟩
 | more h1 h2 h3 h4 ih =>
  intro fs e
  rw[ih fs e,Ul hR h2 _ rfl,VP hR h1]
  exact⟨λh=>h.2,λh=>⟨nilk,h⟩⟩
def Within(p w:List Nat):Prop:=∃a b:List Nat,w=a ++ p ++ b
theorem Uc{w p:List Nat}(h:Within p w):∃q:Nat,zu w (q:Int) p=sH:=by
 obtain⟨a,b,rfl⟩:=h
 refine⟨a.length,?_⟩
 unfold zu
 refine decide_eq_true ⟨by lia,by simp only[am];lia,?_⟩
 rw[aX,ax,cD,cS]
theorem Vp{w:List Nat}(hN:NeL ps)(h:zF w ps=sG):∀p ∈ ps,¬ Within p.1 w:=λp hp hw=>by
 obtain⟨q,hq⟩:=Uc hw
 obtain⟨j,hj⟩:=List.mem_iff_getElem?.mp hp
 have hlt:=je (hN p hp) hq
 have hs:stJ w ps q j=sH:=by rw[jv hj];exact hq
 have:(j,q) ∈ xP w ps w.length:=usesK_mem.mpr ⟨hlt,hs⟩
 unfold zF at h
 rw[List.head?_eq_none_iff] at h
 rw[h] at this
 cases this
structure RL(k:Nat)(l:List Nat)(ns:List Int)(bs:List Ent):Prop where
 e:∀e ∈ bs,EB l e
 lt:∀e ∈ bs,zL k l ns e.2.1 e.1=sH
theorem Qi{l:List Nat}{w:List Nat}{u:Nat × Nat}(G:OG l ns k)(hp:∀p ∈ ps,zL k l ns p.2 p.1=sH/\(∀c ∈ p.1,c ∈ l)/\∀c ∈ p.2,c ∈ l)(hw:∀c ∈ w,c ∈ l)(h:zF w ps=sF u):zL k l ns (Z6 w ps u) w=sH:=by
 obtain⟨p,h1,h2⟩:=xm h
 obtain⟨e1,_⟩:=xl h2
 obtain⟨p1,p2,p3⟩:=hp p (af h1)
 unfold Z6 yR
 rw[xJ h1]
 have ha:∀c ∈ w.take ((u.2:Int)).toNat,c ∈ l:=λc hc=>hw c (bu hc)
 have hb:∀c ∈ w.drop (((u.2:Int)).toNat+p.1.length),c ∈ l:=λc hc=>hw c (cf hc)
 generalize w.take ((u.2:Int)).toNat=a at *
 generalize w.drop (((u.2:Int)).toNat+p.1.length)=b at *
 rw[<- e1]
 have ap:∀x:List Nat,(∀c ∈ x,c ∈ l)->∀c ∈ a ++ x,c ∈ l:=λx hx c hc=>(List.mem_append.mp hc).elim (ha c) (hx c)
 rw[(vK G hb (ap p.2 p3) (ap p.1 p2)).2,(vK G ha p3 p2).1]
 exact p1
theorem Q0{l:List Nat}{w:List Nat}(G:OG l ns k)(hp:∀p ∈ ps,zL k l ns p.2 p.1=sH/\(∀c ∈ p.1,c ∈ l)/\∀c ∈ p.2,c ∈ l)(hw:∀c ∈ w,c ∈ l):∀j,wAt ps w j=w\/zL k l ns (wAt ps w j) w=sH
 | 0=>.inl rfl
 | j+1=>by
  have ih:=Q0 G hp hw j
  have hm:=vZ hw (λp hp'=>(hp p hp').2.2) j
  cases e:zF (wAt ps w j) ps with
  | none =>
   show Xb ps (wAt ps w j)=w\/zL k l ns (Xb ps (wAt ps w j)) w=sH
   unfold Xb
   rw[e]
   exact ih
  | some u =>
   rw[wq e]
   have h:=Qi G hp hm e
   rcases ih with h' | h'
   ·rw[h'] at h ⊢
    exact .inr h
   ·exact .inr (yI h h')
theorem RL.pairs{l:List Nat}(h:RL k l ns bs):∀p ∈ zc bs,zL k l ns p.2 p.1=sH/\(∀c ∈ p.1,c ∈ l)/\∀c ∈ p.2,c ∈ l:=λp hp=>by
 unfold zc at hp
 obtain⟨e,he,rfl⟩:=List.mem_map.mp hp
 exact⟨h.lt e he,(h.e e he).ma,(h.e e he).mb⟩
theorem RL.ne{l:List Nat}(h:RL k l ns bs)(G:OG l ns k):NeL (zc bs):=λp hp=>Vj G.nb (h.pairs p hp).1
theorem RL.snoc{l:List Nat}{d:Ent}(h:RL k l ns bs)(hd:EB l d)(hne:d.1≠d.2.1):RL k l ns (bs ++ [yy k l ns d]):=by
 refine⟨λe he=>?_,λe he=>?_⟩
 ·rcases List.mem_append.mp he with he | he
  ·exact h.e e he
  ·rw[List.mem_singleton.mp he]
   exact hd.rule
 ·rcases List.mem_append.mp he with he | he
  ·exact h.lt e he
  ·rw[List.mem_singleton.mp he]
   exact jc hd hne
theorem J9{l:List Nat}{i j:Nat}(hB:RL k l ns bs)(hE:EB l e)(hF:¬ jl (yW bs e i j)):EB l (yW bs e i j):=by
 unfold jl at hF
 exact⟨by lia,by lia,by lia,vZ hE.ma (λp hp=>(hB.pairs p hp).2.2) i,vZ hE.mb (λp hp=>(hB.pairs p hp).2.2) j⟩
theorem Wg{l:List Nat}{i j:Nat}(G:OG l ns k)(hB:RL k l ns bs)(hE:EB l e)(hlt:zL k l ns e.2.1 e.1=sH)(h1:zS (zc bs) e.1 i)(h2:zS (zc bs) e.2.1 j)
  (hp1:(yy k l ns (yW bs e i j)).1=e.1) (hp2:(yy k l ns (yW bs e i j)).2.1=e.2.1):zF e.1 (zc bs)=sG/\zF e.2.1 (zc bs)=sG:=by
 unfold yy at hp1 hp2
 by_cases h:zL k l ns (yW bs e i j).2.1 (yW bs e i j).1=sH
 ·rw[if_pos h] at hp1 hp2
  have a1:wAt (zc bs) e.1 i=e.1:=hp1
  have a2:wAt (zc bs) e.2.1 j=e.2.1:=hp2
  have b1:=h1.end_
  have b2:=h2.end_
  rw[a1] at b1
  rw[a2] at b2
  exact⟨b1,b2⟩
 ·rw[if_neg h] at hp1 hp2
  have a1:wAt (zc bs) e.2.1 j=e.1:=hp1
  rcases Q0 G hB.pairs hE.mb j with h' | h'
  ·rw[a1] at h'
   rw[h',yj] at hlt
   cases hlt
  ·rw[a1] at h'
   rw[YE h'] at hlt
   cases hlt
theorem jG{l:List Nat}(G:OG l ns k){bs es:List Ent}{r:Option (List Ent)}(h:xL k l ns bs es r):∀fs,r=sF fs->RL k l ns bs->RL k l ns es->∃gs,fs=bs ++ gs/\gs.length<=es.length/\RL k l ns fs /\
  (zc gs=zc es->∀i e,es[i]? = sF e->zF e.1 (zc (bs ++ gs.take i))=sG/\zF e.2.1 (zc (bs ++ gs.take i))=sG):=by
 induction h with
 | nil bs =>
  intro fs er hb he
  cases er
  exact⟨[],by simp,au _,hb,λ_ i e h=>by simp at h⟩
 | @same bs es e i j r h1 h2 h3 h4 ih =>
  intro fs er hb he
  obtain⟨gs,g1,g2,g3,g4⟩:=ih fs er hb ⟨λx hx=>he.e x (aw _ hx),λx hx=>he.lt x (aw _ hx)⟩
  refine⟨gs,g1,by rw[aM];lia,g3,λhp=>?_⟩
  have:=congrArg eJ hp
  unfold zc at this
  rw[ae,ae,aM] at this
  lia
 | @new bs es e i j r h1 h2 h3 h4 h5 ih =>
  intro fs er hb he
  have hEe:=he.e e az
  have hd:=J9 hb hEe h4
  obtain⟨gs,g1,g2,g3,g4⟩:=ih fs er (hb.snoc hd h3) ⟨λx hx=>he.e x (aw _ hx),λx hx=>he.lt x (aw _ hx)⟩
  refine⟨yy k l ns (yW bs e i j)::gs,by rw[g1,ax];rfl,by rw[aM,aM];lia,g3,λhp n x hx=>?_⟩
  unfold zc at hp
  rw[aC,aC] at hp
  injection hp with hp1 hp2
  have hp1a:=(Prod.ext_iff.mp hp1).1
  have hp1b:=(Prod.ext_iff.mp hp1).2
  cases n with
  | zero =>
   have e0:e=x:=by simpa using hx
   subst e0
   rw[bA,aS]
   exact Wg G hb hEe (he.lt _ az) h1 h2 hp1a hp1b
  | succ n =>
   have:=g4 hp2 n x (by simpa using hx)
   rw[ax] at this
   rw[dF]
   exact this
 | far=>intro fs e;cases e
 | stuck=>intro fs e;cases e
theorem uF{l:List Nat}(G:OG l ns k){p w:List Nat}(hw:∀c ∈ w,c ∈ l)(h:Within p w):p=w\/zL k l ns p w=sH:=by
 obtain⟨a,b,rfl⟩:=h
 by_cases e:a ++ p ++ b=p
 ·exact .inl e.symm
 ·refine .inr (Qn G (λc hc=>hw c ?_) (λc hc=>hw c ?_) (λc hc=>hw c ?_) e).1
  ·exact aR _ (aR _ hc)
  ·exact aR _ (aA _ hc)
  ·exact aA _ hc
structure ThinL(k:Nat)(l:List Nat)(ns:List Int)(zs:List Ent):Prop where
 rl:RL k l ns zs
 up:∀(i j:Nat) (a b:Ent),zs[i]? = sF a->zs[j]? = sF b->i<j->zL k l ns a.1 b.1=sH
 no1:∀(i j:Nat) (a b:Ent),zs[i]? = sF a->zs[j]? = sF b->i≠j->¬ Within b.1 a.1
 no2:∀(i j:Nat) (a b:Ent),zs[i]? = sF a->zs[j]? = sF b->¬ Within b.1 a.2.1
theorem JG{k:Nat}{l:List Nat}{ns:List Int}(G:OG l ns k){zs bs:List Ent}(hz:RL k l ns zs)(hs:zs.Pairwise λa b=>Wo k l ns b a=sI)(h:xL k l ns [] zs (sF bs))(hp:zc bs=zc zs):ThinL k l ns zs:=by
 obtain⟨gs,g1,g2,g3,g4⟩:=jG G h bs rfl ⟨λe he=>(nomatch he),λe he=>(nomatch he)⟩ hz
 rw[bv] at g1
 subst g1
 have irr:=g4 hp
 simp only[bv] at irr
 have early:∀(i j:Nat) (a b:Ent),zs[i]? = sF a->zs[j]? = sF b->j<i->¬ Within b.1 a.1/\¬ Within b.1 a.2.1:=λi j a b ha hb hj=>by
  have hm:(b.1,b.2.1) ∈ zc (bs.take i):=by
   have e1:zc (bs.take i)=(zc zs).take i:=by
    rw[<- hp]
    unfold zc
    rw[List.map_take]
   rw[e1]
   refine List.mem_iff_getElem?.mpr ⟨j,?_⟩
   rw[bx hj]
   unfold zc
   rw[aG,hb]
   rfl
  have hN:NeL (zc (bs.take i)):=λp hp'=>by
   refine (g3.ne G) p ?_
   unfold zc at hp' ⊢
   obtain⟨x,hx,rfl⟩:=List.mem_map.mp hp'
   exact List.mem_map.mpr ⟨x,bu hx,rfl⟩
  obtain⟨f1,f2⟩:=irr i a ha
  exact⟨Vp hN f1 _ hm,Vp hN f2 _ hm⟩
 have later:∀(i j:Nat) (a b:Ent),zs[i]? = sF a->zs[j]? = sF b->i<j->zL k l ns b.1 a.1=sI:=λi j a b ha hb hij=>by
  have hi:=(List.getElem?_eq_some_iff.mp ha)
  have hj:=(List.getElem?_eq_some_iff.mp hb)
  have:=List.pairwise_iff_getElem.mp hs i j hi.1 hj.1 hij
  rw[hi.2,hj.2] at this
  unfold Wo at this
  by_cases e:b.1=a.1
  ·rw[e,yj]
  ·rw[if_neg e] at this
   exact this
 have memz:∀{i:Nat} {a:Ent},zs[i]? = sF a->EB l a/\zL k l ns a.2.1 a.1=sH:=λ{i a} ha=>⟨hz.e _ (af ha),hz.lt _ (af ha)⟩
 have up:∀(i j:Nat) (a b:Ent),zs[i]? = sF a->zs[j]? = sF b->i<j->zL k l ns a.1 b.1=sH:=λi j a b ha hb hij=>by
  have hne:a.1≠b.1:=λe=>(early j i b a hb ha hij).1 ⟨[],[],by rw[e];simp⟩
  have t:=qp (k:=k) (ns:=ns) (memz ha).1.ma (memz hb).1.ma hne
  rw[later i j a b ha hb hij] at t
  simpa using t
 refine⟨hz,up,λi j a b ha hb hij=>?_,λi j a b ha hb hw=>?_⟩
 ·rcases Nat.lt_or_gt_of_ne hij with h1 | h1
  ·intro hw
   rcases uF G (memz ha).1.ma hw with e | e
   ·have:=up i j a b ha hb h1
    rw[e,yj] at this
    cases this
   ·rw[later i j a b ha hb h1] at e
    cases e
  ·exact (early i j a b ha hb h1).1
 ·have hle:zL k l ns b.1 a.1=sH:=by
   rcases uF G (memz ha).1.mb hw with e | e
   ·rw[e]
    exact (memz ha).2
   ·exact yI e (memz ha).2
  rcases dU i j with h1 | h1 | h1
  ·rw[later i j a b ha hb h1] at hle
   cases hle
  ·subst h1
   rw[ha] at hb
   cases hb
   rw[yj] at hle
   cases hle
  ·exact (early i j a b ha hb h1).2 hw
theorem jZ{w:List Nat}:∀{i:Nat},Wa ps w i->yd ps w (stS (sAt ps w i))=sF (wAt ps w i)
 | 0,_=>rfl
 | i+1,h=>by
  have ih:=jZ (i:=i) λj hj=>h j (by lia)
  have hne:=h i (by lia)
  cases e:zF (wAt ps w i) ps with
  | none=>exact absurd e hne
  | some u =>
   rw[Xe,wq e,e]
   unfold stS at ih ⊢
   rw[aH]
   refine qK ih ?_
   obtain⟨p,h1,h2⟩:=xm e
   have hl:=(List.getElem?_eq_some_iff.mp h1).1
   show yn ps (wAt ps w i) ((u.1:Int),(u.2:Int),sH)=_
   rw[yF (by show (0:Int)<=(u.1:Int)/\(u.1:Int)<ps.length;lia)]
   have e2:ps.getD ((u.1:Int)).toNat ([],[])=p:=by rw[aX,ac,h1];rfl
   show (if zu (wAt ps w i) (u.2:Int) (sdl (ps.getD ((u.1:Int)).toNat ([],[])) sH).1=sH then _ else sG)=_
   rw[e2,if_pos (show zu (wAt ps w i) (u.2:Int) (sdl p sH).1=sH from h2)]
   unfold Z6
   rw[xJ h1]
   rfl
theorem WQ{l:List Nat}(h:EOk rs e):EOk rs (yy k l ns e):=by
 unfold yy
 split
 ·exact h
 ·exact vO h
theorem JK{i j:Nat}(hb:∀e ∈ bs,EOk rs e)(he:EOk rs e)(h1:zS (zc bs) e.1 i)(h2:zS (zc bs) e.2.1 j):EOk rs (yW bs e i j):=by
 have w1:=kX hb (vO (jZ h1.live))
 have w2:=kX hb (jZ h2.live)
 have he':yd rs e.1 e.2.2=sF e.2.1:=he
 show yd rs (wAt (zc bs) e.1 i) (byL bs (yX (stS (sAt (zc bs) e.1 i))) ++ e.2.2 ++ byL bs (stS (sAt (zc bs) e.2.1 j)))=sF (wAt (zc bs) e.2.1 j)
 rw[wu,wu,w1,bU,he',bU]
 exact w2
theorem Y7{l:List Nat}{bs es:List Ent}{r:Option (List Ent)}(h:xL k l ns bs es r):∀fs,r=sF fs->(∀e ∈ bs,EOk rs e)->(∀e ∈ es,EOk rs e)->∀e ∈ fs,EOk rs e:=by
 induction h with
 | nil bs=>intro fs er hb _;cases er;exact hb
 | @same bs es e i j r h1 h2 h3 h4 ih=>intro fs er hb he;exact ih fs er hb λx hx=>he x (aw _ hx)
 | @new bs es e i j r h1 h2 h3 h4 h5 ih =>
  intro fs er hb he
  refine ih fs er (λx hx=>?_) λx hx=>he x (aw _ hx)
  rcases List.mem_append.mp hx with hx | hx
  ·exact hb x hx
  ·rw[List.mem_singleton.mp hx]
   exact WQ (JK hb (he e az) h1 h2)
 | far=>intro fs e;cases e
 | stuck=>intro fs e;cases e
theorem Y1{l:List Nat}{es zs:List Ent}(h:Lined k l ns es zs)(he:∀e ∈ es,EOk rs e):∀e ∈ zs,EOk rs e:=λe hz=>by
 have hm:=h.perm.mem_iff.mp hz
 unfold qS at hm
 obtain⟨y,hy,rfl⟩:=List.mem_map.mp hm
 exact WQ (he y (List.mem_filter.mp hy).1)
theorem YX{l:List Nat}{es zs:List Ent}(h:Lined k l ns es zs)(he:∀e ∈ es,EB l e):RL k l ns zs:=by
 have key:∀e ∈ zs,∃y,EB l y/\y.1≠y.2.1/\e=yy k l ns y:=λe hz=>by
  have hm:=h.perm.mem_iff.mp hz
  unfold qS at hm
  obtain⟨y,hy,rfl⟩:=List.mem_map.mp hm
  obtain⟨h1,h2⟩:=List.mem_filter.mp hy
  exact⟨y,he y h1,by simpa using h2,rfl⟩
 refine⟨λe hz=>?_,λe hz=>?_⟩
 ·obtain⟨y,h1,_,rfl⟩:=key e hz
  exact h1.rule
 ·obtain⟨y,h1,h2,rfl⟩:=key e hz
  exact jc h1 h2
theorem UT{l:List Nat}(G:OG l ns k){zs bs:List Ent}(hz:RL k l ns zs)(h:xL k l ns [] zs (sF bs)):RL k l ns bs:=by
 obtain⟨gs,g1,g2,g3,g4⟩:=jG G h bs rfl ⟨λe he=>(nomatch he),λe he=>(nomatch he)⟩ hz
 exact g3
theorem Y0{k n:Nat}{l:List Nat}(G:OG l ns k){r:Option (List Ent)}(h:vW k l ns n es r):∀fs,r=sF fs->(∀e ∈ es,EB l e)->(∀e ∈ es,EOk rs e)->(∀e ∈ fs,EOk rs e)/\∃zs,ThinL k l ns zs/\zc fs=zc zs:=by
 induction h with
 | out=>intro fs e;cases e
 | bad=>intro fs e;cases e
 | @done n es zs bs h1 h2 h3 =>
  intro fs er he ho
  cases er
  have hz:=YX h1 he
  exact⟨Y7 h2 bs rfl (λe h=>(nomatch h)) (Y1 h1 ho),zs,JG G hz h1.srt h2 h3,h3⟩
 | @more n es zs bs r h1 h2 h3 h4 ih =>
  intro fs er he ho
  have hz:=YX h1 he
  exact ih fs er (UT G hz h2).e (Y7 h2 bs rfl (λe h=>(nomatch h)) (Y1 h1 ho))
noncomputable def rankF:KeyFam (Int × List Int):=⟨λr=>[.int r.1,.lst (r.2.map L3.D.int)],λa b=>if a.1=b.1 then ltI a.2 b.2 else decide (a.1<b.1),sH,(0,[])⟩
theorem QE{x y:List Int}(h:ltI x y=sH):ltI y x=sI:=by
 by_cases e:x=y
 ·subst e
  rw[xF] at h
  cases h
 ·have:=wH e
  rw[h] at this
  simpa using this.symm
theorem Km{x y z:List Int}(h1:ltI y x=sI)(h2:ltI z y=sI):ltI z x=sI:=by
 cases h:ltI z x with
 | false=>rfl
 | true =>
  by_cases e:y=x
  ·subst e
   rw[h2] at h
   cases h
  ·have h3:=wH e
   rw[h1] at h3
   have h4:ltI x y=sH:=by simpa using h3.symm
   rw[qo h h4] at h2
   cases h2
theorem rankF_ok:rankF.Ok where
 w:=⟨λa b h=>by
   simp only[rankF] at h ⊢
   by_cases e:a.1=b.1
   ·rw[if_pos e] at h
    rw[if_pos e.symm]
    exact QE h
   ·rw[if_neg e] at h
    rw[if_neg (λz=>e z.symm)]
    have:=of_decide_eq_true h
    exact decide_eq_false (by lia),
  λa b c h1 h2=>by
   simp only[rankF] at h1 h2 ⊢
   by_cases e:b.1=a.1
   ·rw[if_pos e] at h1
    rw[e] at h2
    by_cases f:c.1=a.1
    ·rw[if_pos f] at h2 ⊢
     exact Km h1 h2
    ·rw[if_neg f] at h2 ⊢
     exact h2
   ·rw[if_neg e] at h1
    have h1':=of_decide_eq_false h1
    by_cases f:c.1=b.1
    ·rw[if_neg (by lia)]
     exact decide_eq_false (by lia)
    ·rw[if_neg f] at h2
     have h2':=of_decide_eq_false h2
     rw[if_neg (by lia)]
     exact decide_eq_false (by lia)⟩
 eq:=λa b=>by
  have:=Vs a.1 b.1 a.2 b.2
  simp only[ltD] at this
  exact this
 ok:=λa b=>by simp only[rankF,kL,okD];exact⟨trivial,qD _ _,trivial⟩
 dp:=λa=>by simp only[rankF,dpD,uO,Ys];decide
 sh:=λa=>⟨_,_,rfl,.inl ⟨rfl,_,rfl⟩⟩
noncomputable def K5(k:Nat)(l:List Nat)(ns:List Int)(w:List Nat):Int × List Int:=(zv k l ns w,qV k l w)
theorem Xc{d:L3.D}{v:V}:∀{ds:List L3.D} {vs:List V},Iss K H ds vs->Is K H d v->Iss K H (ds ++ [d]) (vs ++ [v])
 | [],vs,h,hv=>by
  simp only[Iss] at h
  subst h
  simp only[bv,Iss]
  exact⟨v,[],rfl,hv,rfl⟩
 | e::ds,vs,h,hv=>by
  simp only[Iss] at h
  obtain⟨x,r,rfl,hx,hr⟩:=h
  simp only[bF,Iss]
  exact⟨x,r ++ [v],rfl,hx,Xc hr hv⟩
theorem OrdAt.samT{T CO CR CW:oP}{H H':Hp}{ps:Array oQ}{o:oP}{l:List Nat}(h:OrdAt CO CR CW H o k l ns)(s:SamT T H H')(hT:H T=sF (.tbl ps)):OrdAt CO CR CW H' o k l ns:=by
 obtain⟨dx,⟨h1,h2⟩ | ⟨h1,h2⟩ | ⟨h1,h2,w,h3,h4⟩⟩:=h
 ·exact⟨dx,.inl ⟨h1,s.at hT h2 λ_ z=>by cases z⟩⟩
 ·exact⟨dx,.inr (.inl ⟨h1,s.at hT h2 λ_ z=>by cases z⟩)⟩
 ·exact⟨dx,.inr (.inr ⟨h1,h2,w,s.at hT h3 (λ_ z=>by cases z),s.at hT h4 λ_ z=>by cases z⟩)⟩
theorem EnsA.samT{T:oP}{H H':Hp}{ps:Array oQ}(s:SamT T H H')(hT:H T=sF (.tbl ps)):∀{es:List Ent} {vs:List V},EnsA K H es vs->EnsA K H' es vs
 | [],vs,h=>by simp only[EnsA] at h ⊢;exact h
 | e::es,vs,h=>by
  simp only[EnsA] at h ⊢
  obtain⟨v,r,e0,⟨p,s',e1,h1,h2⟩,h3⟩:=h
  exact⟨v,r,e0,⟨p,s',e1,s.seqT hT h1,h2.samT s hT⟩,EnsA.samT s hT h3⟩
theorem YD{a b:Int × List Int}(h:a≠b):rankF.lt a b=!rankF.lt b a:=by
 simp only[rankF]
 by_cases e:a.1=b.1
 ·rw[if_pos e,if_pos e.symm]
  exact wH λq=>h (Prod.ext e q)
 ·rw[if_neg e,if_neg λq=>e q.symm]
  by_cases c:a.1<b.1
  ·rw[decide_eq_true c,decide_eq_false (by lia)]
   rfl
  ·rw[decide_eq_false c,decide_eq_true (by lia)]
   rfl
theorem W2(a b:Int × List Int):eqD (.tup (rankF.dec a)) (.tup (rankF.dec b))=decide (a=b):=by
 obtain⟨a1,a2⟩:=a
 obtain⟨b1,b2⟩:=b
 simp only[rankF,eqD,jm,Z1]
 by_cases h:a1=b1
 ·by_cases h2:a2=b2
  ·simp [h,h2]
  ·simp [h,h2]
 ·simp [h]
theorem Xp(a b:Int × List Int):ltD (.tup (rankF.dec a)) (.tup (rankF.dec b))=rankF.lt a b:=by
 simp only[ltD]
 exact rankF_ok.eq a b
theorem Z3(a:Int × List Int):rankF.lt a a=sI:=by
 simp only[rankF]
 rw[if_pos trivial]
 exact xF _
noncomputable def pairF:KeyFam ((Int × List Int) × (Int × List Int)):=⟨λr=>[.tup (rankF.dec r.1),.tup (rankF.dec r.2)],λa b=>if a.1=b.1 then rankF.lt a.2 b.2 else rankF.lt a.1 b.1,sI,((0,[]),(0,[]))⟩
theorem qi(a b:(Int × List Int) × (Int × List Int)):pairF.lt a b=if a.1=b.1 then rankF.lt a.2 b.2 else rankF.lt a.1 b.1:=rfl
theorem Qd:pairF.Ok where
 w:=⟨λa b h=>by
   rw[qi] at h ⊢
   by_cases e:a.1=b.1
   ·rw[if_pos e] at h
    rw[if_pos e.symm]
    exact rankF_ok.w.asym _ _ h
   ·rw[if_neg e] at h
    rw[if_neg λq=>e q.symm]
    exact rankF_ok.w.asym _ _ h,
  λa b c h1 h2=>by
   rw[qi] at h1 h2 ⊢
   by_cases e:b.1=a.1
   ·rw[if_pos e] at h1
    rw[e] at h2
    by_cases f:c.1=a.1
    ·rw[if_pos f] at h2 ⊢
     exact rankF_ok.w.ntr _ _ _ h1 h2
    ·rw[if_neg f] at h2 ⊢
     exact h2
   ·rw[if_neg e] at h1
    by_cases g:c.1=b.1
    ·rw[g,if_neg e]
     exact h1
    ·rw[if_neg g] at h2
     by_cases f:c.1=a.1
     ·rw[f] at h2
      have:=YD (a:=b.1) (b:=a.1) e
      rw[h1,h2] at this
      cases this
     ·rw[if_neg f]
      exact rankF_ok.w.ntr _ _ _ h1 h2⟩
 eq:=λa b=>by
  show vY [.tup (rankF.dec a.1),.tup (rankF.dec a.2)] [.tup (rankF.dec b.1),.tup (rankF.dec b.2)]=_
  rw[qi,vY,W2,vY,W2,Xp,Xp,vY]
  by_cases e:a.1=b.1
  ·rw[if_pos (decide_eq_true e),if_pos e]
   by_cases f:a.2=b.2
   ·rw[if_pos (decide_eq_true f),f,Z3]
   ·rw[if_neg (by simpa using f)]
  ·rw[if_neg (by simpa using e),if_neg e]
 ok:=λa b=>by
  show kL [.tup (rankF.dec a.1),.tup (rankF.dec a.2)] [.tup (rankF.dec b.1),.tup (rankF.dec b.2)]
  simp only[kL,okD]
  exact⟨rankF_ok.ok _ _,rankF_ok.ok _ _,trivial⟩
 dp:=λa=>by simp only[pairF,rankF,dpD,uO,Ys];decide
 sh:=λa=>⟨_,_,rfl,.inr ⟨rfl,_,rfl⟩⟩
noncomputable def rkE(k:Nat)(l:List Nat)(ns:List Int)(e:Ent):(Int × List Int) × (Int × List Int):=(K5 k l ns e.1,K5 k l ns e.2.1)
theorem zaS{l:List Nat}{u v:List Nat}(hu:∀c ∈ u,c ∈ l)(hv:∀c ∈ v,c ∈ l):K5 k l ns u=K5 k l ns v ↔ u=v :=
 ⟨λh=>YZ hu hv (Prod.ext_iff.mp h).2,λh=>by rw[h]⟩
theorem Kl{l:List Nat}{a b:Ent}(ha:EB l a)(hb:EB l b):pairF.lt (rkE k l ns a) (rkE k l ns b)=Wo k l ns a b:=by
 rw[qi]
 unfold Wo
 have h:(rkE k l ns a).1=(rkE k l ns b).1 ↔ a.1=b.1:=zaS ha.ma hb.ma
 by_cases e:a.1=b.1
 ·rw[if_pos (h.mpr e),if_pos e]
  rfl
 ·rw[if_neg λq=>e (h.mp q),if_neg e]
  rfl
theorem ZV{α β:Type}(g:α->β){us ys:List β}(h:us.Perm ys):∀ts:List α,us=ts.map g->∃ts':List α,ts'.Perm ts/\ys=ts'.map g:=by
 induction h with
 | nil =>
  intro ts e
  exact⟨ts,List.Perm.refl _,e⟩
 | @cons x us ys _ ih =>
  intro ts e
  match ts,e with
  | t::ts,e =>
   rw[aC] at e
   injection e with e1 e2
   obtain⟨ts',p,rfl⟩:=ih ts e2
   exact⟨t::ts',p.cons t,by rw[e1];rfl⟩
 | swap x y us =>
  intro ts e
  match ts,e with
  | t::t2::ts,e =>
   rw[aC,aC] at e
   injection e with e1 e2
   injection e2 with e2 e3
   exact⟨t2::t::ts,List.Perm.swap t t2 ts,by rw[e1,e2,e3];rfl⟩
 | trans _ _ ih1 ih2 =>
  intro ts e
  obtain⟨ts',p1,e1⟩:=ih1 ts e
  obtain⟨ts'',p2,e2⟩:=ih2 ts' e1
  exact⟨ts'',p2.trans p1,e2⟩
theorem V6:∀{es:List Ent} {vs:List V},EnsA K H es vs->∀t ∈ es.zip vs,EnA K H t.1 t.2
 | [],_,_,t,ht=>by simp at ht
 | e::es,vs,h,t,ht=>by
  simp only[EnsA] at h
  obtain⟨v,r,rfl,h1,h2⟩:=h
  rw[dg] at ht
  rcases List.mem_cons.mp ht with rfl | ht
  ·exact h1
  ·exact V6 h2 t ht
theorem QU:∀{ts:List (Ent × V)},(∀t ∈ ts,EnA K H t.1 t.2)->EnsA K H (ts.map (·.1)) (ts.map (·.2))
 | [],_=>by simp only[aN,EnsA]
 | t::ts,h=>by
  simp only[aC,EnsA]
  exact⟨_,_,rfl,h t az,QU λu hu=>h u (aw _ hu)⟩
theorem Yz{l:List Nat}{vs:List V}{ys:List (((Int × List Int) × (Int × List Int)) × V)}(hI:EnsA K H es vs)(hE:∀e ∈ es,EB l e)(h1:ys.Perm ((es.map (rkE k l ns)).zip vs))(h2:ys.Pairwise λp q=>pairF.lt q.1 p.1=sI) :
  ∃zs:List Ent,zs.Perm es/\zs.Pairwise (λa b=>Wo k l ns b a=sI)/\EnsA K H zs (ys.map (·.2)):=by
 have hl:=hI.len
 have e0:(es.map (rkE k l ns)).zip vs=(es.zip vs).map λt=>(rkE k l ns t.1,t.2):=by
  rw[List.zip_map_left]
  rfl
 obtain⟨ts,p,rfl⟩:=ZV (λt:Ent × V=>(rkE k l ns t.1,t.2)) h1.symm (es.zip vs) e0
 have hm:∀t ∈ ts,t.1 ∈ es:=λt ht=>(da (show (t.1,t.2) ∈ es.zip vs from p.mem_iff.mp ht)).1
 refine⟨ts.map (·.1),?_,?_,?_⟩
 ·have:=p.map (·.1)
  rw[List.map_fst_zip (by lia)] at this
  exact this
 ·rw[dQ] at h2 ⊢
  refine h2.imp_of_mem λ{a b} ha hb h=>?_
  rw[<- Kl (hE _ (hm _ hb)) (hE _ (hm _ ha))]
  exact h
 ·have e1:(ts.map λt=>(rkE k l ns t.1,t.2)).map (·.2)=ts.map (·.2):=by
   rw[dw]
   rfl
  rw[e1]
  exact QU λt ht=>V6 hI t (p.mem_iff.mp ht)
def tbE(K:oO)(CO CR CW:oP):TE:=UA (zP (zy (zbf CO CR CW) "rank" (λ_=>qY CO CR CW) [] E0 (xw 1) (zP (tOp (uM K) (xw 0) (tC (.int 0))) vd)) (zP (zy (zbf CO CR CW) "rank" (λ_=>qY CO CR CW) [] E0 (xw 1) (zP (tOp (uM K) (xw 0) (tC (.int 1))) vd)) vd))
theorem zaJ{CO CR CW o p s:oP}{l:List Nat}(hG:OG l ns k)(ho:OrdAt CO CR CW H o k l ns)(hE:EB l e)(hp:SqT K H p [.str (tx e.1),.str (tx e.2.1),.ref s])(q:∀(t:oP) (H':Hp),Same H H'->Is K H' (.tup (pairF.dec (rkE k l ns e))) (.ref t)->Q (.ref t) H'):tbE K CO CR CW [sF (.ref p),sF (.ref o)] H Q:=by
 have s16:=ym
 obtain⟨C,dx,fs,hf,ho1,hn,_⟩:=ho.fam
 have h1:fs.lookup ("rank" : oW)=sG:=hn _ (by decide) (by decide)
 unfold tbE
 ac_rfl
 refine⟨C,hf,dx,fs,ho1,h1,_,hp,_,rfl,o,k,l,ns,e.1,rfl,ho,hG,by have:=hE.a;lia,hE.ma,λp1 q1 H1 s1 hp1 hq1=>⟨C,hf,dx,fs,s1 _ _ ho1,h1,_,zl s1 hp,_,rfl,o,k,l,ns,e.2.1,rfl,ho.same s1,hG,by have:=hE.b;lia,hE.mb,λp2 q2 H2 s2 hp2 hq2=>⟨by lia,λt ht=>?_⟩⟩⟩
 refine q t _ (s1.trans (s2.trans (zd (o:=.tup [.ref p1,.ref p2]) ht))) ?_
 show Is K _ (.tup [.tup (rankF.dec (K5 k l ns e.1)),.tup (rankF.dec (K5 k l ns e.2.1))]) (.ref t)
 refine Is.tup ht ?_
 simp only[Iss]
 exact⟨_,_,rfl,kW (s2 _ _ hp1) (s2 _ _ hq1),_,_,rfl,kW hp2 hq2,rfl⟩
theorem Q6{CO CR CW o:oP}{l:List Nat}{LA:Hp->Prop}{Qf:List V->Hp->Prop}(hG:OG l ns k)(hLA:∀H H',LA H->Same H H'->LA H'):∀(es:List Ent) (vs sL:List V) (rs:List ((Int × List Int) × (Int × List Int))) (H:Hp),LA H->OrdAt CO CR CW H o k l ns->(∀e ∈ es,EB l e)->EnsA K H es vs ->
  Iss K H (rs.map λa=>.tup (pairF.dec a)) sL->(∀acc' H',Same H H'->Iss K H' ((rs ++ es.map (rkE k l ns)).map λa=>.tup (pairF.dec a)) acc'->Qf acc' H')->uC (λx H Q=>LA H/\tbE K CO CR CW [sF x,sF (.ref o)] H Q) vs sL H Qf
 | [],vs,sL,rs,H,hL,ho,hw,hV,hI,h=>by
  simp only[EnsA] at hV
  subst hV
  exact h sL H (Same.refl _) (by simpa using hI)
 | e::es,vs,sL,rs,H,hL,ho,hw,hV,hI,h=>by
  have s16:=ym
  simp only[EnsA] at hV
  obtain⟨v,r,rfl,⟨p,s,rfl,hp,_⟩,hV⟩:=hV
  refine⟨hL,zaJ hG ho (hw e az) hp λt H' s3 hIs=>?_⟩
  refine Q6 hG hLA es r (sL ++ [.ref t]) (rs ++ [rkE k l ns e]) _ (hLA _ _ hL s3) (ho.same s3) (λx hx=>hw x (aw _ hx)) (hV.same s3) ?_ λacc' H' s' hI'=>h acc' H' (s3.trans s') (by simpa using hI')
  rw[aH]
  exact Xc (Iss.same s3 _ _ hI) hIs
noncomputable def zaO:oZ->pS
 | .Lambda _ _ _ p=>p
 | _=>default
noncomputable def zdq:List pc->pS
 | _::.Return (sF (.Call _ _ (k::_) _)) _::_=>zaO k.value
 | _=>default
noncomputable def lp:pS:=zdq (zk yN)
noncomputable def lq:oW:="in_order.<locals>.<lambda>"
def u8(K:oO)(CO CR CW T:oP):Sp:=λvs H Q _=>∃(o a:oP) (k:Nat) (l:List Nat) (ns:List Int) (es:List Ent),vs=[.ref o,.ref a]/\OrdAt CO CR CW H o k l ns/\OG l ns k/\EnsL K H a es/\es.length<64/\(∀e ∈ es,EB l e)/\TabOk H T lp lq /\
 ∀(D:oP) (zs:List Ent) (H':Hp),SamT T H H'->TabOk H' T lp lq->H D=sG->Lined k l ns es zs->EnsM K H' D zs->Q (.ref D) H'
theorem V7{CO CR CW T o a:oP}{l:List Nat}(h1:OrdAt CO CR CW H o k l ns)(h2:OG l ns k)(h3:EnsL K H a es)(h4:es.length<64)(h5:∀e ∈ es,EB l e)(h6:TabOk H T lp lq)
  (h:∀(D:oP) (zs:List Ent) (H':Hp),SamT T H H'->TabOk H' T lp lq->H D=sG->Lined k l ns es zs->EnsM K H' D zs->Q (.ref D) H'):u8 K CO CR CW T [.ref o,.ref a] H Q E:=⟨o,a,k,l,ns,es,rfl,h1,h2,h3,h4,h5,h6,h⟩
abbrev JC(mg:oW->Option oQ):Prop:=mg "sorted" = sG
theorem mN:zq ["order","entries","unlike"] ["order","entries"] (zb yN):=⟨rfl,rfl,rfl,by decide +kernel,rfl,by decide +kernel,by decide +kernel⟩
theorem Yl{f CO CR CW CC TB:oP}(B:Bt mg)(DRk:DR P w K mg base CO CR CW)(hsorted:JC mg)(hCd:PySem.W.CodeHd base CC TB)(hBt:base.BuiltinsAt mg TB)(hgT:oK≠TB)(F:Fun K "in_order" "in_order" yN f fd)(HC:fd.code=.ref CC)(ml:Df P w K mg base CX0 4 "as_rule" ["order","entry"] [] (wl K CO CR CW)):FnOk P w K mg base CX0 6 f fd ["order","entries"] (u8 K CO CR CW TB):=by
 refine KB F HC mN (λvs H Q E h=>?_) (λA outer s H vs Q E hr h=>?_)
 ·obtain⟨o,a,k,l,ns,es,rfl,_⟩:=h
  rfl
 ·obtain⟨o,a,k,l,ns,es,rfl,ho,hG,hA,hz,hE,hTab,q⟩:=h
  refine⟨_,(zi (vz (i:=2) mN.nd rfl (Or.inl rfl) (Or.inl rfl) (own:=["entry"]) (caps:=["order"]) (ix:=[0]) (tt:=(tBl (tOp rNe (tOp (uM K) (xw 0) (tC (.int 0))) (tOp (uM K) (xw 0) (tC (.int 1)))))) (te:=(jr (wl K CO CR CW) [] E0 (zP (xw 1) (zP (xw 0) vd)))) rfl (yb (sc:=zb yN) rfl (by decide +kernel) (by decide +kernel) (by decide +kernel) rfl (by decide +kernel) (by decide +kernel) rfl) (yC (pv 1)) (λ_ _ _ _ _ _=>zC (i:=0) (show List.Nodup [_,_] by decide) rfl (Or.inl rfl)) (λ_ _ _ _ _ _=>(V4 (zI X9 (zw ix_tup (pv 0) zg (λ_ _=>rfl)) (zw ix_tup (pv 0) zg (λ_ _=>rfl)) (zK _)))) (λ_ _ _ _ _ _=>(cl0 ml hr .nil rfl (za (pv 1) (za (pv 0) ze)))))
   (zh (zx (QJ (k:=2) (p:="entry") (y:="order") (iy:=0) (c:=s.heap.objs.size+1) (tb:=tbE K CO CR CW) Qd ⟨rfl,rfl,rfl,by decide,rfl,rfl,by decide,by decide⟩ (hr.mono (by decide)) rfl hsorted PyProof.Rows.boot_sorted (za (pv 2) ze) rfl hCd hBt hgT rfl rfl (by intro _ _ _ _;exact rfl) rfl rfl rfl (λs H f cv hr'=>ya (za (K8 DRk hr' (pv 1) (za (zw ix_tup (pv 0) zg (λ_ _=>rfl)) ze)) (za (K8 DRk hr' (pv 1) (za (zw ix_tup (pv 0) zg (λ_ _=>rfl)) ze)) ze))))))),?_⟩
  have s16:=ym
  obtain⟨xs,hX,hI⟩:=id hA
  have hxl:=hI.len
  have hEr:∀e ∈ qS k l ns es,EB l e:=λe he=>by
   unfold qS at he
   obtain⟨y,hy,rfl⟩:=List.mem_map.mp he
   exact (hE y (List.mem_filter.mp hy).1).rule
  have hrl:=Z7 k l ns es
  refine zj (λσ H'=>Same H H'/\∃(D0:oP) (sL:List V),H D0=sG/\H' D0=sF (.lst sL)/\EnsA K (jt D0 H') (qS k l ns es) sL/\σ=[sF (.ref o),sF (.ref a),sF (.ref D0)]) ?_ ?_
  ·ac_rfl
   refine⟨⟨xs,hX⟩,λD hD=>CompL.by (xs:=xs) (λi sL H'=>Same H H'/\H' D=sF (.lst sL)/\EnsA K (jt D H') (qS k l ns (es.take i)) sL) ⟨zd hD,zf,by simp only[bA,qS,dc,aN,EnsA]⟩ (λi sL H' _ h=>h.1.seq hX) ?_ ?_⟩
   ·rintro i x sL H' hx ⟨hs,hH,hA⟩
    have hi:=(List.getElem?_eq_some_iff.mp hx).1
    obtain⟨e,pe,se,hei,rfl,hqe,hse⟩:=hI.get hx
    have hEe:=hE e (af hei)
    have hal:=hA.len
    have hal2:=Z7 k l ns (es.take i)
    rw[aK] at hal2
    have hq1:=zl hs hqe
    have hraw:qS k l ns (es.take (i+1))=qS k l ns (es.take i) ++ if e.1=e.2.1 then [] else [yy k l ns e]:=by
     rw[zW hei,Kp]
     congr 1
     unfold qS
     by_cases hne:e.1=e.2.1
     ·rw[if_pos hne,eD (by simp [hne])]
      rfl
     ·rw[if_neg hne,eC (by simp [hne])]
      rfl
    ac_rfl
    refine⟨wD,_,hq1,_,rfl,_,hq1,_,rfl,rfl,xh (λhne=>?_) λheq=>?_⟩
    ·have hne':¬ e.1=e.2.1:=λz=>hne (by rw[z])
     rw[if_neg hne'] at hraw
     have fin:∀(v:V) (H2:Hp),Same H' H2->EnA K (jt D H2) (yy k l ns e) v->H2 D=sF (.lst sL)/\sL.length<oN/\CNx xs.length i (λi sL H'=>Same H H'/\H' D=sF (.lst sL)/\EnsA K (jt D H') (qS k l ns (es.take i)) sL) (sL ++ [v]) (upd H2 D (.lst (sL ++ [v]))):=λv H2 s2 hv=>by
      refine⟨s2 _ _ hH,by lia,CNx.mk hi ⟨zG (hs.trans s2) hD,zf,?_⟩⟩
      rw[hraw]
      exact (hA.same ((wQ s2).trans xR)).snoc (hv.same xR)
     refine jQ (ho.same hs) hG hq1 (hse.same hs).is hEe (λer H2 s2=>fin _ _ s2 ?_) λp' s' H2 s2 hsn hp' hL=>fin _ _ s2 ?_
     ·rw[er]
      exact EnA.same ⟨pe,se,rfl,hqe,hse⟩ (V5 hD (hs.trans s2))
     ·exact EnA.new (s2 _ _ hH) hp' hL (λz=>by rw[z,hH] at hsn;cases hsn)
    ·have heq':e.1=e.2.1:=by
      have:=Classical.not_not.mp heq
      injection this with this
      exact jK this
     rw[if_pos heq',aS] at hraw
     exact CNx.mk hi ⟨hs,hH,by rw[hraw];exact hA⟩
   ·rintro sL H' ⟨hs,hH,hA⟩
    rw[hxl,aQ] at hA
    exact⟨hs,D,hD,sL,hH,hA,rfl⟩
  rintro σ H1 ⟨s1,D0,sL,hD0,hH1,hI1,rfl⟩
  have hal:=hI1.len
  have hT1:=hTab.same s1
  obtain⟨ps1,hps1,_⟩:=id hT1
  ac_rfl
  unfold Q2
  refine⟨_,rfl,hT1,λf H2 hf hLA hT2 sT=>?_⟩
  obtain⟨ps2,hps2,_⟩:=id hT2
  have hI2:=EnsA.samT sT hps1 (hI1.same wL)
  refine⟨D0,sL,.ref o,rfl,SqL.of (sT.at hps1 hH1 λ_ z=>by cases z),by lia,rfl,?_⟩
  refine Q6 hG (λA A' h1 h2=>LamAt.same h1 h2) (qS k l ns es) sL [] [] H2 hLA ((ho.same s1).samT sT hps1) hEr hI2 (by simp only[aN,Iss]) λacc' H3 s3 hI3=>⟨(qS k l ns es).map (rkE k l ns),by simpa using hI3,λys p1 p2 D hD=>?_⟩
  obtain⟨zs,z1,z2,z3⟩:=Yz (hI2.same s3) hEr p1 p2
  have sD:=zd (o:=.lst (ys.map (·.2))) hD
  refine q D zs _ ((SamT.of s1).trans (sT.trans (SamT.of (s3.trans sD)))) (hT2.same (s3.trans sD)) ?_ ⟨z1,z2⟩ ⟨_,zf,z3.same sD⟩
  exact ((SamT.of s1).trans (sT.trans (SamT.of s3))).free (s3 _ _ hps2) hD
structure TMo(mg:oW->Option oQ):Prop where
 u:∃t,mg "MOST_USES_thinning" = sF (.int 40 t)
 s:∃t,mg "MOST_STEPS" = sF (.int 240 t)
 d:∃t,mg "MOST_SIDE_thinning" = sF (.int 60 t)
 p:∃t,mg "MOST_PASSES" = sF (.int 20 t)
structure BG(k:Nat)(l:List Nat)(ns:List Int)(bs:List Ent):Prop where
 n:bs.length<64
 e:∀e ∈ bs,EB l e
 lt:∀e ∈ bs,zL k l ns e.2.1 e.1=sH
theorem BG.ne{l:List Nat}(h:BG k l ns bs)(G:OG l ns k):NeL (zc bs):=λp hp=>by
 unfold zc at hp
 obtain⟨e,he,rfl⟩:=List.mem_map.mp hp
 exact Vj G.nb (h.lt e he)
theorem BG.le{l:List Nat}(h:BG k l ns bs):∀p ∈ zc bs,p.1.length<=60/\p.2.length<=60:=λp hp=>by
 unfold zc at hp
 obtain⟨e,he,rfl⟩:=List.mem_map.mp hp
 exact⟨(h.e e he).a,(h.e e he).b⟩
theorem BG.mem{l:List Nat}(h:BG k l ns bs):∀p ∈ zc bs,∀c ∈ p.2,c ∈ l:=λp hp=>by
 unfold zc at hp
 obtain⟨e,he,rfl⟩:=List.mem_map.mp hp
 exact (h.e e he).mb
theorem jT{CF a:oP}{w:List Nat}(hA:LsA K H a (ps.map dR))(hN:NeL ps)(hpl:ps.length<=100)(hP:∀p ∈ ps,p.1.length<=60/\p.2.length<=60)(hw:w.length<=60)
  (h1:∀(i:Nat) (p S:oP) (H':Hp),zS ps w i->Same H H'->H' p=sF (.tup [.ref S,.str (tx (wAt ps w i))])->LsA K H' S ((sAt ps w i).map dG)->H S=sG->Q (.ref p) H') (h2:(∀i,¬ zS ps w i)->∀H',Same H H'->E (.ref CF) sG H'):wT K CF [.ref a,.str (tx w),.int 40] H Q E:=by
 have hP':∀p ∈ ps,p.1.length<=1000/\p.2.length<=1000:=λp hp=>by
  have:=hP p hp
  lia
 have len:∀j,j<=40->(wAt ps w j).length<=10000:=λj hj=>by
  have:=qF (l:=w) (m:=60) hN (λp hp=>(hP p hp).2) j
  lia
 rcases Ke ps w with ⟨i,hi⟩ | ⟨hL,hf⟩
 ·have hm:=hi.most
  exact⟨a,w,ps,40,i,rfl,hA,hN,hpl,hP',⟨hi.live,λj hj=>len j (by lia),by lia⟩,.inl ⟨hi.end_,by lia,λp S H' s' hp hL hS=>h1 i p S H' hi s' hp hL hS⟩⟩
 ·refine⟨a,w,ps,40,40,rfl,hA,hN,hpl,hP',⟨hL,λj hj=>len j hj,by decide⟩,.inr ⟨hf,rfl,h2 λi hi=>?_⟩⟩
  have hm:=hi.most
  by_cases e:i=40
  ·subst e
   exact hf hi.end_
  ·exact hL i (by lia) hi.end_
theorem Ks(us:List (Nat × Nat)):us.map dG=(stS us).map dSt:=by
 unfold stS
 rw[dw]
 rfl
theorem Ur(us:List (Nat × Nat)):(stS us).length=us.length:=by unfold stS;rw[ae]
theorem zaW{w:List Nat}{i:Nat}(h:Wa ps w i):∀u ∈ sAt ps w i,u.1<ps.length:=λu hu=>by
 unfold sAt at hu
 obtain⟨j,hj,rfl⟩:=List.mem_map.mp hu
 cases e:zF (wAt ps w j) ps with
 | none=>exact absurd e (h j (List.mem_range.mp hj))
 | some v =>
  obtain⟨p,h1,_⟩:=xm e
  exact (List.getElem?_eq_some_iff.mp h1).1
theorem Jv{w:List Nat}{i:Nat}(h:Wa ps w i):∀u ∈ stS (sAt ps w i),0<=u.1/\u.1<ps.length:=λu hu=>by
 unfold stS at hu
 obtain⟨v,hv,rfl⟩:=List.mem_map.mp hu
 have:=zaW h v hv
 show 0<=(v.1:Int)/\(v.1:Int)<ps.length
 lia
theorem Kw{n:Int}(h:∀u ∈ ss,0<=u.1/\u.1<n):∀u ∈ yX ss,0<=u.1/\u.1<n:=λu hu=>by
 unfold yX at hu
 obtain⟨v,hv,rfl⟩:=List.mem_map.mp hu
 exact h v (List.mem_reverse.mp hv)
theorem zaP(h:∀e ∈ es,e.2.2.length<=600)(u:Stp):(XJ es u).length<=600:=by
 have hg:(es.getD u.1.toNat ([],[],[])).2.2.length<=600:=by
  rw[ac]
  cases e:es[u.1.toNat]? with
  | none=>exact aJ _
  | some r=>exact h r (af e)
 unfold XJ
 rw[YV]
 split
 ·exact hg
 ·rw[xQ]
  exact hg
theorem KL(h:∀e ∈ es,e.2.2.length<=600):∀us:List Stp,(byL es us).length<=us.length * 600
 | []=>by simp [byL]
 | u::us=>by
  have e:byL es (u::us)=XJ es u ++ byL es us:=by simp [byL]
  have h1:=zaP h u
  have h2:=KL h us
  rw[e,am,aM,d5]
  lia
def j0(K:oO)(CF:oP):Sp:=λvs H Q E=>∃(a p s:oP) (k:Nat) (l:List Nat) (ns:List Int) (bs:List Ent) (e:Ent),vs=[.ref a,.ref p]/\OG l ns k/\Is K H (.lst (bs.map dE)) (.ref a)/\BG k l ns bs/\SqT K H p [.str (tx e.1),.str (tx e.2.1),.ref s]/\LsA K H s (e.2.2.map dSt)/\EB l e /\
 (∀i j H',zS (zc bs) e.1 i->zS (zc bs) e.2.1 j->wAt (zc bs) e.1 i=wAt (zc bs) e.2.1 j->Same H H'->Q .non H') /\
 (∀i j p' s' H',zS (zc bs) e.1 i->zS (zc bs) e.2.1 j->wAt (zc bs) e.1 i≠wAt (zc bs) e.2.1 j->Same H H'->H s'=sG->H' p'=sF (.tup [.str (tx (yW bs e i j).1),.str (tx (yW bs e i j).2.1),.ref s'])->LsA K H' s' ((yW bs e i j).2.2.map dSt)->Q (.ref p') H') /\
 ((∀i,¬ zS (zc bs) e.1 i)\/(∀j,¬ zS (zc bs) e.2.1 j)->∀H',Same H H'->E (.ref CF) sG H')
theorem W3{a t:oP}{us:List Stp}(h1:Is K H (.lst (es.map dE)) (.ref a))(h2:Is K H (.lst (us.map dSt)) (.ref t))(h3:us.length<=100)(h4:∀e ∈ es,e.2.2.length<=600)(h5:∀u ∈ us,0<=u.1/\u.1<es.length)(h:∀(D:oP) (H':Hp),H D=sG->Same H H'->LsA K H' D ((byL es us).map dSt)->Q (.ref D) H'):Vl K [.ref a,.ref t] H Q E:=⟨a,t,es,us,rfl,h1,h2,h3,h4,h5,h⟩
theorem gf:zq ["entries","entry","rules","one","other","steps"] ["entries","entry"] (zb yq):=⟨rfl,rfl,rfl,by decide +kernel,rfl,by decide +kernel,by decide +kernel⟩
theorem jb{f CF:oP}{lr:rD}(B:Bt mg)(TM:TMo mg)(F:Fun K "brought_down" "brought_down" yq f fd)(gg:Df P w K mg base CX0 1 "pairs_of" ["entries"] [] (wx K))(ng:Df P w K mg base (CXx P w) 4 "gone" ["rules","word","most"] [] (wT K CF))(DD_gone:Df P w K mg base (CXx P w) 4 "gone" ["rules","word","most"] [.int 4000 lr] (wT K CF))(lm:Df P w K mg base CX0 2 "by_pacts" ["entries","steps"] [] (Vl K))(mj:Df P w K mg base CX0 1 "back" ["steps"] [] (uc K)):FnOk P w K mg base (CXx P w) 5 f fd ["entries","entry"] (j0 K CF):=by
 obtain⟨t9,g9⟩:=TM.u
 refine Fun.okX F gf (λvs H Q E h=>?_) (λcdv A outer s H vs Q E hr hx h=>?_)
 ·obtain⟨a,p,s,k,l,ns,bs,e,rfl,_⟩:=h
  rfl
 ·obtain⟨a,p,s,k,l,ns,bs,e,rfl,hG,hA,hB,hp,hs,hE,q1,q2,q3⟩:=h
  refine⟨_,(zi (zt (i:=2) gf.nd rfl (Or.inl rfl) (cl0 gg hr .nil rfl (za (pv 0) ze)))
   (zi (zt (i:=3) gf.nd rfl (Or.inl rfl) (clP hx ng hr .nil rfl (za (pv 2) (za (zw ix_tup (pv 1) zg (λ_ _=>rfl)) (za (xg (v:=.int 40) rfl g9 ⟨t9,rfl⟩) ze)))))
   (zi (zt (i:=4) gf.nd rfl (Or.inl rfl) (clP hx ng hr .nil rfl (za (pv 2) (za (zw ix_tup (pv 1) zg (λ_ _=>rfl)) (za (xg (v:=.int 40) rfl g9 ⟨t9,rfl⟩) ze)))))
   (zi (z9 (zI qG (zw ix_tup (pv 3) zg (λ_ _=>rfl)) (zw ix_tup (pv 4) zg (λ_ _=>rfl)) (zK _))
    (zh (zx wj))
    zD)
   (zi (zt (i:=5) gf.nd rfl (Or.inl rfl) (zB Wx (zB Wx (cl0 lm hr .nil rfl (za (pv 0) (za (cl0 mj hr .nil rfl (za (zw ix_tup (pv 3) zg (λ_ _=>rfl)) ze)) ze))) (zw ix_tup (pv 1) zg (λ_ _=>rfl))) (cl0 lm hr .nil rfl (za (pv 0) (za (zw ix_tup (pv 4) zg (λ_ _=>rfl)) ze)))))
   (zh (zx (ya (za (zw ix_tup (pv 3) zg (λ_ _=>rfl)) (za (zw ix_tup (pv 4) zg (λ_ _=>rfl)) (za (pv 5) ze))))))))))),?_⟩
  have s16:=ym
  have hbl:=hB.n
  have hN:=hB.ne hG
  have hpl:=vR bs
  have hst:∀e ∈ bs,e.2.2.length<=600:=λe he=>(hB.e e he).s
  have hst3:∀e ∈ bs,e.2.2.length<=600:=λe he=>by have:=hst e he;lia
  refine zj (λσ H'=>Same H H'/\∃R:oP,LsA K H' R ((zc bs).map dR)/\σ=[sF (.ref a),sF (.ref p),sF (.ref R),sG,sG,sG]) ?_ ?_
  ·ac_rfl
   exact wJ hA (by lia) λD H' _ s' hL=>⟨s',D,hL,rfl⟩
  rintro σ H1 ⟨s1,R,hR,rfl⟩
  refine zj (λσ H'=>Same H1 H'/\∃(i:Nat),zS (zc bs) e.1 i/\∃p1:oP,(∃S1:oP,H' p1=sF (.tup [.ref S1,.str (tx (wAt (zc bs) e.1 i))])/\LsA K H' S1 ((sAt (zc bs) e.1 i).map dG))/\σ=[sF (.ref a),sF (.ref p),sF (.ref R),sF (.ref p1),sG,sG]) ?_ ?_
  ·ac_rfl
   refine⟨_,zl s1 hp,_,rfl,jT hR hN (by lia) hB.le hE.a (λi p1 S1 H' hi s' hp1 hL _=>⟨s',i,hi,p1,⟨S1,hp1,hL⟩,rfl⟩) λhno H' s'=>q3 (.inl hno) H' (s1.trans s')⟩
  rintro σ H2 ⟨s2,i,hi,p1,⟨S1,hp1,hS1⟩,rfl⟩
  have s12:=s1.trans s2
  refine zj (λσ H'=>Same H2 H'/\∃(j:Nat),zS (zc bs) e.2.1 j/\∃p2:oP,(∃S2:oP,H' p2=sF (.tup [.ref S2,.str (tx (wAt (zc bs) e.2.1 j))])/\LsA K H' S2 ((sAt (zc bs) e.2.1 j).map dG))/\σ=[sF (.ref a),sF (.ref p),sF (.ref R),sF (.ref p1),sF (.ref p2),sG]) ?_ ?_
  ·ac_rfl
   refine⟨_,zl s12 hp,_,rfl,jT (hR.same s2) hN (by lia) hB.le hE.b (λj p2 S2 H' hj s' hp2 hL _=>⟨s',j,hj,p2,⟨S2,hp2,hL⟩,rfl⟩) λhno H' s'=>q3 (.inr hno) H' (s12.trans s')⟩
  rintro σ H3 ⟨s3,j,hj,p2,⟨S2,hp2,hS2⟩,rfl⟩
  have s13:=s12.trans s3
  have hp1':=s3 _ _ hp1
  have hS1':=hS1.same s3
  refine zj (λσ H'=>H'=H3/\wAt (zc bs) e.1 i≠wAt (zc bs) e.2.1 j/\σ=[sF (.ref a),sF (.ref p),sF (.ref R),sF (.ref p1),sF (.ref p2),sG]) ?_ ?_
  ·ac_rfl
   refine⟨_,SqT.of hp1',_,rfl,_,SqT.of hp2,_,rfl,rfl,xh (λh=>?_) λh=>?_⟩
   ·exact q1 i j H3 hi hj (jK (by injection h)) s13
   ·exact λz=>h (by rw[z])
  rintro σ H4 ⟨rfl,hne,rfl⟩
  have him:=hi.most
  have hjm:=hj.most
  have hl1:(stS (sAt (zc bs) e.1 i)).length=i:=by rw[Ur,Yb]
  have hl2:(stS (sAt (zc bs) e.2.1 j)).length=j:=by rw[Ur,Yb]
  rw[Ks] at hS1' hS2
  have hA4:=Is.same s13 _ _ hA
  have hb1:=KL hst (yX (stS (sAt (zc bs) e.1 i)))
  have hb2:=KL hst (stS (sAt (zc bs) e.2.1 j))
  rw[xQ,hl1] at hb1
  rw[hl2] at hb2
  have hes:=hE.s
  refine zj (λσ H'=>Same H4 H'/\∃S:oP,H4 S=sG/\LsA K H' S ((yW bs e i j).2.2.map dSt)/\σ=[sF (.ref a),sF (.ref p),sF (.ref R),sF (.ref p1),sF (.ref p2),sF (.ref S)]) ?_ ?_
  ·ac_rfl
   refine⟨_,SqT.of hp1',_,rfl,kK hS1'.is (by lia) λB1 G1 _ t1 hB1=>W3 (Is.same t1 _ _ hA4) hB1.is (by rw[xQ];lia) hst3 (by rw[<- hpl];exact Kw (Jv hi.live)) λC1 G2 hC1n t2 hC1=>?_⟩
   have t12:=t1.trans t2
   obtain⟨c1,hc1,ic1⟩:=id hC1
   obtain⟨es0,hs0,is0⟩:=hs.same (s13.trans t12)
   have lc1:=ic1.len
   have ls0:=is0.len
   rw[ae] at lc1 ls0
   refine⟨_,zl (s13.trans t12) hp,_,rfl,C1,rfl,s,rfl,c1,hc1,es0,hs0,by lia,λM hM=>?_⟩
   have t3:=zd (o:=.lst (c1 ++ es0)) hM
   have t13:=t12.trans t3
   refine⟨_,SqT.of (t13 _ _ hp2),_,rfl,W3 (Is.same t13 _ _ hA4) (hS2.same t13).is (by lia) hst3 (by rw[<- hpl];exact Jv hj.live) λC2 G3 hC2n t4 hC2=>?_⟩
   obtain⟨c2,hc2,ic2⟩:=id hC2
   have lc2:=ic2.len
   rw[ae] at lc2
   refine⟨C2,rfl,c1 ++ es0,t4 _ _ zf,c2,hc2,by rw[am];lia,λS hS=>?_⟩
   have t5:=zd (o:=.lst (c1 ++ es0 ++ c2)) hS
   refine⟨t13.trans (t4.trans t5),S,(t13.trans t4).free hS,⟨_,zf,?_⟩,rfl⟩
   show Iss K _ ((byL bs (yX (stS (sAt (zc bs) e.1 i))) ++ e.2.2 ++ byL bs (stS (sAt (zc bs) e.2.1 j))).map dSt) _
   rw[aH,aH]
   exact Iss.append (Iss.append (Iss.same (t3.trans (t4.trans t5)) _ _ ic1) (Iss.same (t3.trans (t4.trans t5)) _ _ is0)) (Iss.same t5 _ _ ic2)
  rintro σ H5 ⟨s5,S,hSn,hS,rfl⟩
  ac_rfl
  refine⟨_,SqT.of (s5 _ _ hp1'),_,rfl,_,SqT.of (s5 _ _ hp2),_,rfl,by lia,λt ht=>?_⟩
  have st:=zd (o:=.tup [.str (tx (wAt (zc bs) e.1 i)),.str (tx (wAt (zc bs) e.2.1 j)),.ref S]) ht
  exact q2 i j t S _ hi hj hne (s13.trans (s5.trans st)) (s13.free hSn) zf (hS.same st)
def vI(K:oO)(CF:oP):Sp:=λvs H Q E=>∃(p s:oP) (e:Ent),vs=[.ref p]/\SqT K H p [.str (tx e.1),.str (tx e.2.1),.ref s]/\Is K H (.lst (e.2.2.map dSt)) (.ref s)/\e.1.length<=10000/\e.2.1.length<=10000/\(¬ jl e->Q .non H)/\(jl e->E (.ref CF) sG H)
theorem X7{CF p s:oP}(h1:SqT K H p [.str (tx e.1),.str (tx e.2.1),.ref s])(h2:Is K H (.lst (e.2.2.map dSt)) (.ref s))(h3:e.1.length<=10000)(h4:e.2.1.length<=10000)(h5:¬ jl e->Q .non H)(h6:jl e->E (.ref CF) sG H):vI K CF [.ref p] H Q E:=⟨p,s,e,rfl,h1,h2,h3,h4,h5,h6⟩
theorem uL:zq ["entry"] ["entry"] (zb yg):=⟨rfl,rfl,rfl,by decide +kernel,rfl,by decide +kernel,by decide +kernel⟩
theorem uI{f CF:oP}(B:Bt mg)(T:K9 K mg CF)(TM:TMo mg)(F:Fun K "refuse_beyond" "refuse_beyond" yg f fd) : FnOk P w K mg base (CXx P w) 1 f fd ["entry"] (vI K CF):=by
 obtain⟨⟨t9,g9⟩,⟨t8,g8⟩⟩:=And.intro TM.s TM.d
 refine Fun.okX F uL (λvs H Q E h=>?_) (λcdv A outer s H vs Q E hr hx h=>?_)
 ·obtain⟨p,s,e,rfl,_⟩:=h
  rfl
 ·obtain⟨p,s,e,rfl,hp,hs,ha,hb,q1,q2⟩:=h
  refine⟨_,(zi (z9 (zI op_gt (zp zX rfl B.len aB (za (zw ix_tup (pv 0) zg (λ_ _=>rfl)) ze)) (xg (v:=.int 240) rfl g9 ⟨t9,rfl⟩) (zK _))
    (zh (yS hx rfl T.xi.toXC T.ini rfl T.g (za xS ze)))
    zD)
   (zh (z9 (zI op_gt (zp (Uw rfl) rfl B.max uT (za (zp zX rfl B.len aB (za (zw ix_tup (pv 0) zg (λ_ _=>rfl)) ze)) (za (zp zX rfl B.len aB (za (zw ix_tup (pv 0) zg (λ_ _=>rfl)) ze)) ze))) (xg (v:=.int 60) rfl g8 ⟨t8,rfl⟩) (zK _))
    (zh (yS hx rfl T.xi.toXC T.ini rfl T.g (za xS ze)))
    zD))),?_⟩
  have s16:=ym
  simp only[Is] at hs
  obtain⟨_,zs,e0,hZ,hI⟩:=hs
  cases e0
  have hzl:=hI.len
  rw[ae] at hzl
  refine zj (λσ H'=>H'=H/\e.2.2.length<=240/\σ=[sF (.ref p)]) ?_ ?_
  ·ac_rfl
   refine⟨_,hp,_,rfl,_,.inl ⟨_,hZ,rfl⟩,xh (λh=>⟨by lia,q2 (.inl (by lia))⟩) λh=>by lia⟩
  rintro σ H1 ⟨rfl,h1,rfl⟩
  ac_rfl
  refine⟨_,hp,_,rfl,_,⟨by rw[ye];lia,rfl⟩,_,hp,_,rfl,_,⟨by rw[ye];lia,rfl⟩,?_⟩
  rw[ye,ye]
  refine xh (λh=>⟨by lia,q2 ?_⟩) λh=>q1 ?_
  ·unfold jl
   split at h <;> lia
  ·unfold jl
   split at h <;> lia
theorem QM{l:List Nat}{i j:Nat}(hB:BG k l ns bs)(hE:EB l e)(hF:¬ jl (yW bs e i j)):EB l (yW bs e i j):=by
 unfold jl at hF
 exact⟨by lia,by lia,by lia,vZ hE.ma hB.mem i,vZ hE.mb hB.mem j⟩
theorem BG.snoc{l:List Nat}{d:Ent}(h:BG k l ns bs)(hn:bs.length+1<64)(hd:EB l d)(hne:d.1≠d.2.1):BG k l ns (bs ++ [yy k l ns d]):=by
 refine⟨by rw[am];exact hn,λe he=>?_,λe he=>?_⟩
 ·rcases List.mem_append.mp he with he | he
  ·exact h.e e he
  ·rw[List.mem_singleton.mp he]
   exact hd.rule
 ·rcases List.mem_append.mp he with he | he
  ·exact h.lt e he
  ·rw[List.mem_singleton.mp he]
   exact jc hd hne
theorem QD{CF a p s:oP}{l:List Nat}(h1:OG l ns k)(h2:Is K H (.lst (bs.map dE)) (.ref a))(h3:BG k l ns bs)(h4:SqT K H p [.str (tx e.1),.str (tx e.2.1),.ref s])(h5:LsA K H s (e.2.2.map dSt))(h6:EB l e)
  (q1:∀i j H',zS (zc bs) e.1 i->zS (zc bs) e.2.1 j->wAt (zc bs) e.1 i=wAt (zc bs) e.2.1 j->Same H H'->Q .non H')
  (q2:∀i j p' s' H',zS (zc bs) e.1 i->zS (zc bs) e.2.1 j->wAt (zc bs) e.1 i≠wAt (zc bs) e.2.1 j->Same H H'->H s'=sG->H' p'=sF (.tup [.str (tx (yW bs e i j).1),.str (tx (yW bs e i j).2.1),.ref s'])->LsA K H' s' ((yW bs e i j).2.2.map dSt)->Q (.ref p') H')
  (q3:(∀i,¬ zS (zc bs) e.1 i)\/(∀j,¬ zS (zc bs) e.2.1 j)->∀H',Same H H'->E (.ref CF) sG H'):j0 K CF [.ref a,.ref p] H Q E:=⟨a,p,s,k,l,ns,bs,e,rfl,h1,h2,h3,h4,h5,h6,q1,q2,q3⟩
theorem U7{l:List Nat}{i j:Nat}(hB:BG k l ns bs)(hG:OG l ns k)(hE:EB l e)(hi:i<=40)(hj:j<=40):(yW bs e i j).1.length<=10000/\(yW bs e i j).2.1.length<=10000:=by
 have h1:=qF (l:=e.1) (m:=60) (hB.ne hG) (λp hp=>(hB.le p hp).2) i
 have h2:=qF (l:=e.2.1) (m:=60) (hB.ne hG) (λp hp=>(hB.le p hp).2) j
 have h3:=hE.a
 have h4:=hE.b
 show (wAt (zc bs) e.1 i).length<=10000/\(wAt (zc bs) e.2.1 j).length<=10000
 lia
def qg(K:oO)(CO CR CW CF:oP):Sp:=λvs H Q E=>∃(o a:oP) (k:Nat) (l:List Nat) (ns:List Int) (zs:List Ent),vs=[.ref o,.ref a]/\OrdAt CO CR CW H o k l ns/\OG l ns k/\EnsL K H a zs/\zs.length<64/\(∀e ∈ zs,EB l e) /\
 (∀(bs:List Ent) (D:oP) (H':Hp),xL k l ns [] zs (sF bs)->BG k l ns bs->Same H H'->H D=sG->EnsM K H' D bs->Q (.ref D) H')/\(xL k l ns [] zs sG->∀H',Same H H'->E (.ref CF) sG H')
theorem W0{CO CR CW CF o a:oP}{l:List Nat}{zs:List Ent}(h1:OrdAt CO CR CW H o k l ns)(h2:OG l ns k)(h3:EnsL K H a zs)(h4:zs.length<64)(h5:∀e ∈ zs,EB l e)
  (q1:∀(bs:List Ent) (D:oP) (H':Hp),xL k l ns [] zs (sF bs)->BG k l ns bs->Same H H'->H D=sG->EnsM K H' D bs->Q (.ref D) H') (q2:xL k l ns [] zs sG->∀H',Same H H'->E (.ref CF) sG H'):qg K CO CR CW CF [.ref o,.ref a] H Q E:=⟨o,a,k,l,ns,zs,rfl,h1,h2,h3,h4,h5,q1,q2⟩
def zcm(K:oO)(H1 H':Hp)(bs:List Ent)(e:Ent)(v:V):Prop:=∃i j,zS (zc bs) e.1 i/\zS (zc bs) e.2.1 j/\((wAt (zc bs) e.1 i=wAt (zc bs) e.2.1 j/\v=.non) \/
 (wAt (zc bs) e.1 i≠wAt (zc bs) e.2.1 j/\∃p s:oP,v=.ref p/\H1 s=sG/\H' p=sF (.tup [.str (tx (yW bs e i j).1),.str (tx (yW bs e i j).2.1),.ref s])/\LsA K H' s ((yW bs e i j).2.2.map dSt)))
def zcq(K:oO)(H:Hp)(D:oP)(k:Nat)(l:List Nat)(ns:List Int)(zs:List Ent)(i:Nat)(H':Hp):Prop:=∃(bs:List Ent) (sL:List V),Same H H'/\H' D=sF (.lst sL)/\EnsA K (jt D H') bs sL/\BG k l ns bs/\bs.length<=i/\∀r,xL k l ns bs (zs.drop i) r->xL k l ns [] zs r
theorem ie:zq ["order","entries","built","entry","lower"] ["order","entries"] (zb yL):=⟨rfl,rfl,rfl,by decide +kernel,rfl,by decide +kernel,by decide +kernel⟩
theorem j6{f CO CR CW CF:oP}(B:Bt mg)(F:Fun K "built_anew" "built_anew" yL f fd)(ny:Df P w K mg base (CXx P w) 5 "brought_down" ["entries","entry"] [] (j0 K CF))(nh:Df P w K mg base (CXx P w) 1 "refuse_beyond" ["entry"] [] (vI K CF))(ml:Df P w K mg base CX0 4 "as_rule" ["order","entry"] [] (wl K CO CR CW)):FnOk P w K mg base (CXx P w) 6 f fd ["order","entries"] (qg K CO CR CW CF):=by
 refine Fun.okX F ie (λvs H Q E h=>?_) (λcdv A outer s H vs Q E hr hx h=>?_)
 ·obtain⟨o,a,k,l,ns,zs,rfl,_⟩:=h
  rfl
 ·obtain⟨o,a,k,l,ns,zs,rfl,ho,hG,hA,hz,hE,q1,q2⟩:=h
  refine⟨_,(zi (zt (i:=2) ie.nd rfl (Or.inl rfl) (xU ze))
   (zi (yE PassesOwn.leaving rfl (yC (pv 1)) (zC (i:=3) ie.nd rfl (Or.inl rfl))
    (zi (zt (i:=4) ie.nd rfl (Or.inl rfl) (clP hx ny hr .nil rfl (za (pv 2) (za (pv 3) ze))))
    (zh (z9 (zI op_notN' (pv 4) wj (zK _))
     (zi (xM (clP hx nh hr .nil rfl (za (pv 4) ze)))
     (zh (xM (vM bc bB bC yU (pv 2) (za (cl0 ml hr .nil rfl (za (pv 0) (za (pv 4) ze))) ze)))))
     zD))))
   (zh (zx (pv 2))))),?_⟩
  have s16:=ym
  obtain⟨xs,hX,hI⟩:=id hA
  have hxl:=hI.len
  refine zj (λσ H'=>Same H H'/\∃D:oP,H D=sG/\H' D=sF (.lst [])/\σ=[sF (.ref o),sF (.ref a),sF (.ref D),sG,sG]) ?_ ?_
  ·ac_rfl
   exact⟨by lia,λp hp=>⟨zd hp,p,hp,zf,rfl⟩⟩
  rintro σ H0 ⟨s0,D,hD,hD0,rfl⟩
  refine zj (λσ H'=>zcq K H D k l ns zs zs.length H'/\∃(v3 v4:Option V),σ=[sF (.ref o),sF (.ref a),sF (.ref D),v3,v4]) ?_ ?_
  ·ac_rfl
   refine⟨⟨_,s0.seq hX⟩,ForL.by (xs:=xs) (λi σ H'=>zcq K H D k l ns zs i H'/\∃(v3 v4:Option V),σ=[sF (.ref o),sF (.ref a),sF (.ref D),v3,v4]) ⟨⟨[],[],s0,hD0,by simp only[EnsA],⟨by decide,λe he=>(nomatch he),λe he=>(nomatch he)⟩,au _,λr h=>h⟩,sG,sG,rfl⟩ (λi σ H' _ ⟨⟨_,_,h,_⟩,_⟩=>h.seq hX) ?_ ?_⟩
   ·rintro i x σ H1 hx ⟨⟨bs,sL,s1,hH1,hI1,hB,hbi,hr⟩,v3,v4,rfl⟩
    have hix:=(List.getElem?_eq_some_iff.mp hx).1
    obtain⟨e,pe,se,hei,rfl,hqe,hse⟩:=hI.get hx
    have hEe:=hE e (af hei)
    have hdrop:zs.drop i=e::zs.drop (i+1):=by
     obtain⟨h1,h2⟩:=List.getElem?_eq_some_iff.mp hei
     rw[aV h1,h2]
    rw[hdrop] at hr
    have hal:=hI1.len
    have hbn:=hB.n
    have hIs:Is K H1 (.lst (bs.map dE)) (.ref D):=by
     simp only[Is]
     exact⟨D,sL,rfl,SqL.of hH1,(hI1.same wL).iss⟩
    simp only[xy,bj,bi]
    refine zj (λσ H'=>Same H1 H'/\∃v:V,zcm K H1 H' bs e v/\σ=[sF (.ref o),sF (.ref a),sF (.ref D),sF (.ref pe),sF (v)]) ?_ ?_
    ·ac_rfl
     exact QD hG hIs hB (zl s1 hqe) (hse.same s1) hEe (λi' j' H' a1 a2 a3 s'=>⟨s',i',j',a1,a2,.inl ⟨a3,rfl⟩⟩) (λi' j' p' s' H' a1 a2 a3 t' a4 a5 a6=>⟨t',i',j',a1,a2,.inr ⟨a3,p',s',rfl,a4,a5,a6⟩⟩) λh H' s'=>q2 (hr _ (.stuck h)) H' (s1.trans s')
    rintro σ H2 ⟨s2,v,⟨i',j',hi',hj',hc⟩,rfl⟩
    rcases hc with ⟨hw,rfl⟩ | ⟨hw,p',s',rfl,hsn,hp',hL'⟩
    ·ac_rfl
     exact⟨bs,sL,s1.trans s2,s2 _ _ hH1,hI1.same (wQ s2),hB,by lia,λr h=>hr r (.same hi' hj' hw h)⟩
    ·ac_rfl
     rw[if_pos not_false]
     have hdl:=U7 hB hG hEe hi'.most hj'.most
     refine zj (λσ H'=>H'=H2/\¬ jl (yW bs e i' j')/\σ=[sF (.ref o),sF (.ref a),sF (.ref D),sF (.ref pe),sF (.ref p')]) ?_ ?_
     ·ac_rfl
      exact X7 (SqT.of hp') hL'.is hdl.1 hdl.2 (λh=>⟨rfl,h⟩) λh=>q2 (hr _ (.far hi' hj' hw h)) H2 (s1.trans s2)
     rintro σ H3 ⟨rfl,hF,rfl⟩
     have hEd:=QM hB hEe hF
     have hH3:=s2 _ _ hH1
     have fin:∀(v:V) (H4:Hp),Same H3 H4->EnA K (jt D H4) (yy k l ns (yW bs e i' j')) v->zcq K H D k l ns zs (i+1) (upd H4 D (.lst (sL ++ [v]))):=λv H4 s4 hv=>by
      refine⟨bs ++ [yy k l ns (yW bs e i' j')],sL ++ [v],zG (s1.trans (s2.trans s4)) hD,zf,?_,hB.snoc (by lia) hEd hw,by rw[am];show bs.length+1<=i+1;lia,λr h=>hr r (.new hi' hj' hw hF h)⟩
      exact (hI1.same ((wQ (s2.trans s4)).trans xR)).snoc (hv.same xR)
     ac_rfl
     refine⟨.inl ⟨_,SqL.of hH3⟩,jQ (ho.same (s1.trans s2)) hG (SqT.of hp') hL'.is hEd (λer H4 s4=>⟨sL,s4 _ _ hH3,by lia,fin _ _ s4 ?_⟩) λp2 t2 H4 s4 htn hp2 hL2=>⟨sL,s4 _ _ hH3,by lia,fin _ _ s4 ?_⟩⟩
     ·rw[er]
      exact EnA.new (s4 _ _ hH3) (s4 _ _ hp') (hL'.same s4) (λz=>by rw[z,hH1] at hsn;cases hsn)
     ·exact EnA.new (s4 _ _ hH3) hp2 hL2 (λz=>by rw[z,hH3] at htn;cases htn)
   ·rintro σ H' ⟨h,v3,v4,rfl⟩
    rw[hxl] at h
    exact⟨h,_,_,rfl⟩
  rintro σ H2 ⟨⟨bs,sL,s2,hH2,hI2,hB,hbi,hr⟩,v3,v4,rfl⟩
  rw[d6] at hr
  ac_rfl
  exact q1 bs D H2 (hr _ (.nil bs)) hB s2 hD ⟨sL,hH2,hI2.same wL⟩
theorem UU(rs ss:List zr):jm (rs.map dR) (ss.map dR)=decide (rs=ss):=by
 induction rs generalizing ss with
 | nil=>cases ss with
  | nil=>simp [jm]
  | cons s ss=>simp [jm]
 | cons r rs ih=>cases ss with
  | nil=>simp [jm]
  | cons s ss =>
   rw[aC,aC,jm,ih]
   have h:eqD (dR r) (dR s)=decide (r=s):=by
    obtain⟨a,b⟩:=r
    obtain⟨c,d⟩:=s
    have e1:∀x y:List Nat,eqD (dS x) (dS y)=decide (x=y):=λx y=>by
     have:eqD (dS x) (dS y)=decide (tx x=tx y):=by simp only[dS,eqD];rfl
     rw[this]
     exact decide_eq_decide.mpr ⟨jK,λh=>by rw[h]⟩
    simp only[dR,eqD,jm,e1]
    by_cases h1:a=c <;> by_cases h2:b=d <;> simp [h1,h2]
   rw[h]
   by_cases h1:r=s <;> by_cases h2:rs=ss <;> simp [h1,h2]
theorem Lined.eb{l:List Nat}{es zs:List Ent}(h:Lined k l ns es zs)(hE:∀e ∈ es,EB l e):∀e ∈ zs,EB l e:=λe he=>by
 have hm:=h.perm.mem_iff.mp he
 unfold qS at hm
 obtain⟨y,hy,rfl⟩:=List.mem_map.mp hm
 exact (hE y (List.mem_filter.mp hy).1).rule
theorem Lined.len{l:List Nat}{es zs:List Ent}(h:Lined k l ns es zs):zs.length<=es.length:=by
 rw[h.perm.length_eq]
 exact Z7 k l ns es
def Yt(K:oO)(CO CR CW T CF:oP):Sp:=λvs H Q E=>∃(o a:oP) (k:Nat) (l:List Nat) (ns:List Int) (es:List Ent),vs=[.ref o,.ref a]/\OrdAt CO CR CW H o k l ns/\OG l ns k/\EnsL K H a es/\es.length<64/\(∀e ∈ es,EB l e)/\TabOk H T lp lq /\
 (∀(bs:List Ent) (D:oP) (H':Hp),vW k l ns 20 es (sF bs)->BG k l ns bs->SamT T H H'->TabOk H' T lp lq->EnsM K H' D bs->Q (.ref D) H')/\(vW k l ns 20 es sG->∀H',SamT T H H'->TabOk H' T lp lq->E (.ref CF) sG H')
def zcH(K:oO)(T:oP)(H:Hp)(k:Nat)(l:List Nat)(ns:List Int)(es:List Ent)(n:Nat)(H':Hp)(b:oP):Prop:=∃fs:List Ent,SamT T H H'/\TabOk H' T lp lq/\(∀r,vW k l ns n fs r->vW k l ns 20 es r)/\EnsL K H' b fs/\fs.length<64/\∀e ∈ fs,EB l e
theorem ln:zq ["order","entries","turn","lined_up"] ["order","entries"] (zb wf):=⟨rfl,rfl,rfl,by decide +kernel,rfl,by decide +kernel,by decide +kernel⟩
theorem X6{f CO CR CW TB CF:oP}(B:Bt mg)(T:K9 K mg CF)(TM:TMo mg)(F:Fun K "thinned" "thinned" wf f fd)(nX:Df P w K mg base CX0 6 "in_order" ["order","entries"] [] (u8 K CO CR CW TB))(nM:Df P w K mg base (CXx P w) 6 "built_anew" ["order","entries"] [] (qg K CO CR CW CF))(gg:Df P w K mg base CX0 1 "pairs_of" ["entries"] [] (wx K)):FnOk P w K mg base (CXx P w) 7 f fd ["order","entries"] (Yt K CO CR CW TB CF):=by
 obtain⟨t9,g9⟩:=TM.p
 refine Fun.okX F ln (λvs H Q E h=>?_) (λcdv A outer s H vs Q E hr hx h=>?_)
 ·obtain⟨o,a,k,l,ns,es,rfl,_⟩:=h
  rfl
 ·obtain⟨o,a,k,l,ns,es,rfl,ho,hG,hA,hz,hE,hTab,q1,q2⟩:=h
  refine⟨_,(zi (yE PassesOwn.leaving rfl (xN rfl B.range (za (xg (v:=.int 20) rfl g9 ⟨t9,rfl⟩) ze)) (zC (i:=2) ln.nd rfl (Or.inl rfl))
    (zi (zt (i:=3) ln.nd rfl (Or.inl rfl) (cl0 nX hr .nil rfl (za (pv 0) (za (pv 1) ze))))
    (zi (zt (i:=1) ln.nd rfl (Or.inl rfl) (clP hx nM hr .nil rfl (za (pv 0) (za (pv 3) ze))))
    (zh (z9 (zI (Jp (Yh hr)) (cl0 gg hr .nil rfl (za (pv 1) ze)) (cl0 gg hr .nil rfl (za (pv 3) ze)) (zK _))
     (zh (zx (pv 1)))
     zD)))))
   (zh (yS hx rfl T.xi.toXC T.ini rfl T.g (za xS ze)))),?_⟩
  have s16:=ym
  obtain⟨ps0,hps0,_⟩:=id hTab
  refine zj (λσ H'=>∃b:oP,zcH K TB H k l ns es 0 H' b) ?_ ?_
  ·ac_rfl
   refine⟨by lia,by lia,ForR.by (λi σ H'=>∃(b:oP) (v2 v3:Option V),zcH K TB H k l ns es (20 - i) H' b/\σ=[sF (.ref o),sF (.ref b),v2,v3]) ⟨a,sG,sG,⟨es,SamT.of (Same.refl _),hTab,λr h=>h,hA,hz,hE⟩,rfl⟩ ?_ ?_⟩
   ·rintro i σ H1 hi ⟨b,v2,v3,⟨fs,s1,hT1,hr,hF,hfl,hFE⟩,rfl⟩
    have ho1:=ho.samT s1 hps0
    have hi20:i<20:=hi
    obtain⟨n,hn⟩:∃n,20 - i=n+1:=⟨20 - i - 1,by lia⟩
    rw[hn] at hr
    simp only[xy,bj,bi]
    refine zj (λσ H'=>SamT TB H1 H'/\TabOk H' TB lp lq/\∃(z:oP),(∃zs:List Ent,Lined k l ns fs zs/\EnsM K H' z zs)/\∃v2,σ=[sF (.ref o),sF (.ref b),v2,sF (.ref z)]) ?_ ?_
    ·ac_rfl
     exact V7 ho1 hG hF hfl hFE hT1 λD zs H' s' hT' _ hLn hM=>⟨s',hT',D,⟨zs,hLn,hM⟩,rfl⟩
    rintro σ H2 ⟨s2,hT2,z,⟨zs,hLn,hZ⟩,v2,rfl⟩
    have s12:=s1.trans s2
    have ho2:=ho.samT s12 hps0
    have hzE:=hLn.eb hFE
    have hzl:=hLn.len
    refine zj (λσ H'=>Same H2 H'/\∃(c:oP),(∃bs:List Ent,xL k l ns [] zs (sF bs)/\BG k l ns bs/\EnsM K H' c bs)/\σ=[sF (.ref o),sF (.ref c),v2,sF (.ref z)]) ?_ ?_
    ·ac_rfl
     exact W0 ho2 hG hZ.l (by lia) hzE (λbs D H' hb hB s' _ hM=>⟨s',D,⟨bs,hb,hB,hM⟩,rfl⟩) λhb H' s'=>q2 (hr _ (.bad hLn hb)) H' (s12.trans (SamT.of s')) (hT2.same s')
    rintro σ H3 ⟨s3,c,⟨bs,hb,hB,hM⟩,rfl⟩
    have hbn:=hB.n
    ac_rfl
    refine wJ hM.l.is (by lia) λP1 H4 _ s4 hP1=>wJ ((hZ.same s3).same s4).l.is (by lia) λP2 H5 _ s5 hP2=>Vv (.inl ⟨(hP1.same s5).is,hP2.is⟩) (cp (Jq _) (by decide)) ?_
    rw[UU]
    have s45:=s4.trans s5
    have s15:=s12.trans (SamT.of (s3.trans s45))
    have hT5:=hT2.same (s3.trans s45)
    refine⟨_,rfl,xh (λh=>?_) λh=>?_⟩
    ·exact q1 bs c H5 (hr _ (.done hLn hb (of_decide_eq_true h))) hB s15 hT5 (hM.same s45)
    ·have e:20 - (i+1)=n:=by lia
     rw[e]
     exact⟨bs,s15,hT5,λr h'=>hr r (.more hLn hb (λz=>h (decide_eq_true z)) h'),(hM.same s45).l,hbn,hB.e⟩
   ·rintro σ H' ⟨b,v2,v3,h,rfl⟩
    exact⟨b,h⟩
  rintro σ H2 ⟨b,fs,s2,hT2,hr,_⟩
  ac_rfl
  exact⟨by lia,q2 (hr _ (.out fs)) H2 s2 hT2⟩
def qu(K:oO):Sp:=λvs H Q _=>∃(a:oP) (ns:List Int) (k:Int),vs=[.ref a,.int k]/\SqL K H a (ns.map V.int)/\(∀z ∈ ns,uq z)/\0<=k/\∀c:Int,uq c->Q (.int c) H
theorem vG{a:oP}{k:Int}(hS:SqL K H a (ns.map V.int))(hB:∀z ∈ ns,uq z)(hk:0<=k)(h:∀c:Int,uq c->Q (.int c) H):qu K [.ref a,.int k] H Q E:=⟨a,ns,k,rfl,hS,hB,hk,h⟩
theorem KU:zq ["_law_script","_law_k"] ["_law_script","_law_k"] (zb jC):=⟨rfl,rfl,rfl,by decide +kernel,rfl,by decide +kernel,by decide +kernel⟩
theorem KP(B:Bt mg)(F:Fun K "_law_cell" "_law_cell" jC f fd) : FnOk P w K mg base CX0 1 f fd ["_law_script","_law_k"] (qu K):=by
 refine F.ok KU (λvs H Q E h=>?_) (λcdv A outer s H vs Q E hr h=>?_)
 ·obtain⟨a,ns,k,rfl,_⟩:=h
  rfl
 ·obtain⟨a,ns,k,rfl,hS,hB,hk,q⟩:=h
  refine⟨_,(zN (z9 (zI UR (pv 1) (zp zX rfl B.len aB (za (pv 0) ze)) (zK _))
    (zh (zx (zw zaf (pv 0) (pv 1) (λ_ _=>rfl))))
    zD)
   (zh (zx zg))),?_⟩
  have s16:=ym
  rfl'
  refine⟨_,.inl ⟨_,hS,rfl⟩,xh (λc=>?_) (λc=>q 0 (by unfold uq;decide))⟩
  obtain⟨v,h1,h2⟩:=vF hk c
  rw[aG] at h2
  obtain⟨z,hz,rfl⟩:=Option.map_eq_some_iff.mp h2
  exact .inl ⟨_,hS,_,h1,q z (hB z (af hz))⟩
def xx:Sp:=λvs H Q _=>∃(c t:Int),vs=[.int c,.int t]/\uq c/\0<=t/\t<=100/\∀z:Int,0<=z->Q (.int z) H
theorem xn{c t:Int}(hc:uq c)(h0:0<=t)(h1:t<=100)(q:∀z:Int,0<=z->Q (.int z) H):xx [.int c,.int t] H Q E:=⟨c,t,rfl,hc,h0,h1,q⟩
theorem lS:zq ["_law_cell_here","_law_turn","_law_step","_law_number"] ["_law_cell_here","_law_turn"] (zb uw):=⟨rfl,rfl,rfl,by decide +kernel,rfl,by decide +kernel,by decide +kernel⟩
theorem UB(B:Bt mg)(F:Fun K "_law_mixed" "_law_mixed" uw f fd) : FnOk P w K mg base CX0 1 f fd ["_law_cell_here","_law_turn"] xx:=by
 refine F.ok lS (λvs H Q E h=>?_) (λcdv A outer s H vs Q E hr h=>?_)
 ·obtain⟨c,t,rfl,_⟩:=h
  rfl
 ·obtain⟨c,t,rfl,hc,h0,h1,q⟩:=h
  refine⟨_,(zi (z9 (zI op_ge' (pv 0) (zB VH zg zg) (zK _))
    (zi (yE PassesOwn.never rfl (xN rfl B.range (za (zB op_add zg (zB yJ (pv 1) zg)) ze)) (zC (i:=2) lS.nd rfl (Or.inl rfl))
     (zh (zt (i:=0) lS.nd rfl (Or.inl rfl) (zB yT (pv 0) (zB VH zg zg)))))
    (zh (zx (zB yJ (pv 0) (zB VH zg zg)))))
    zD)
   (zi (zt (i:=3) lS.nd rfl (Or.inl rfl) (zB op_add (zB op_mul (zB UH (pv 0) (pv 0)) zg) (zB op_mul (zB op_mul (pv 0) zg) (zB op_add (pv 1) zg))))
   (zh (zx (zB yT (zB yJ (zB op_mul (zB yJ (zB op_add (pv 3) (zB op_mul (pv 1) zg)) zg) zg) zg) zg))))),?_⟩
  have s16:=ym
  have c6:zbE 10 6:=⟨by decide,by decide,by decide⟩
  have c12:zbE 10 12:=⟨by decide,by decide,by decide⟩
  have p6:(0:Int)<10 ^ Int.toNat 6/\(10:Int) ^ Int.toNat 6<1073741824:=by decide
  refine zj (λσ H'=>H'=H/\σ=[sF (.int c),sF (.int t),sG,sG]) ?_ ?_
  ·rfl'
   refine⟨c12,xh (λ_=>?_) (λ_=>trivial)⟩
   refine zj (λσ H'=>H'=H/\∃(z:Int) (v:Option V),σ=[sF (.int z),sF (.int t),v,sG]) ?_ ?_
   ·rfl'
    have e1:=be t (b:=9) (by decide)
    have e2:=ba t (b:=9) (by decide)
    refine⟨by decide,by lia,by lia,ForR.by (λi σ H'=>H'=H/\∃(z:Int) (v:Option V),σ=[sF (.int z),sF (.int t),v,sG]) ⟨rfl,_,_,rfl⟩ ?_ λσ H' h=>h⟩
    rintro i σ H' hi ⟨rfl,z,v,rfl⟩
    rfl'
    exact⟨c6,p6.1,p6.2⟩
   rintro σ H1 ⟨rfl,z,v,rfl⟩
   rfl'
   exact⟨c6,p6.1,q _ (be _ (by have:=p6.1;lia))⟩
  rintro σ H1 ⟨rfl,rfl⟩
  refine zj (λσ H'=>H'=H1/\∃z:Int,σ=[sF (.int c),sF (.int t),sG,sF (.int z)]) ?_ ?_
  ·rfl'
   exact⟨hc,hc,.inr ⟨by decide,by decide⟩,.inr ⟨by decide,by decide⟩,.inr ⟨by lia,by lia⟩⟩
  rintro σ H2 ⟨rfl,z,rfl⟩
  rfl'
  exact⟨.inr ⟨by decide,by decide⟩,by decide,.inr ⟨by decide,by decide⟩,by decide,⟨by decide,by decide⟩,q _ (Int.ediv_nonneg (be _ (by decide)) (by decide))⟩
def w9:Sp:=λvs H Q _=>∃c m:Int,vs=[.int c,.int m]/\uq c/\0<=m/\m<=26/\∀l:List Nat,(l.length:Int)=m->l.Nodup->YB l->Q (.str (tx l)) H
theorem Yq{c m:Int}(h:uq c)(h0:0<=m)(h1:m<=26)(q:∀l:List Nat,(l.length:Int)=m->l.Nodup->YB l->Q (.str (tx l)) H):w9 [.int c,.int m] H Q E:=⟨c,m,rfl,h,h0,h1,q⟩
def zcN(c m:Int)(i:Nat)(σ:L2.St):Prop:=∃(left found:List Nat) (number:Int) (v5 v6:Option V),found.length=i/\(found ++ left).Perm alpha/\σ=[sF (.int c),sF (.int m),sF (.str (tx left)),sF (.int number),sF (.str (tx found)),v5,v6]
theorem fV:zq ["_law_cell_here","_law_many","_law_left","_law_number","_law_letters_here","_law_k","_law_at"] ["_law_cell_here","_law_many"] (zb we):=⟨rfl,rfl,rfl,by decide +kernel,rfl,by decide +kernel,by decide +kernel⟩
theorem XW(B:Bt mg)(F:Fun K "_law_letters" "_law_letters" we f fd)(fY:Df P w K mg base CX0 1 "_law_mixed" ["_law_cell_here","_law_turn"] [] xx):FnOk P w K mg base CX0 2 f fd ["_law_cell_here","_law_many"] w9:=by
 refine F.ok fV (λvs H Q E h=>?_) (λcdv A outer s H vs Q E hr h=>?_)
 ·obtain⟨c,m,rfl,_⟩:=h
  rfl
 ·obtain⟨c,m,rfl,hc,h0,h1,q⟩:=h
  refine⟨_,(zi (zt (i:=2) fV.nd rfl (Or.inl rfl) xS)
   (zi (zt (i:=3) fV.nd rfl (Or.inl rfl) (cl0 fY hr .nil rfl (za (pv 0) (za zg ze))))
   (zi (zt (i:=4) fV.nd rfl (Or.inl rfl) xS)
   (zi (yE PassesOwn.never rfl (xN rfl B.range (za (pv 1) ze)) (zC (i:=5) fV.nd rfl (Or.inl rfl))
    (zi (zt (i:=6) fV.nd rfl (Or.inl rfl) (zB yJ (pv 3) (zp zX rfl B.len aB (za (pv 2) ze))))
    (zi (zt (i:=3) fV.nd rfl (Or.inl rfl) (zB yT (pv 3) (zp zX rfl B.len aB (za (pv 2) ze))))
    (zi (zt (i:=4) fV.nd rfl (Or.inl rfl) (zB op_add_str (pv 4) (zw VW (pv 2) (pv 6) (λ_ _=>rfl))))
    (zh (zt (i:=2) fV.nd rfl (Or.inl rfl) (zB op_add_str (yk wC (pv 2) xZ (yf (pv 6))) (yk wC (pv 2) (yf (zB op_add (pv 6) zg)) xZ))))))))
   (zh (zx (pv 4))))))),?_⟩
  have s16:=ym
  have ha:alpha.length=26:=rfl
  refine zj (λσ H'=>H'=H/\σ=[sF (.int c),sF (.int m),sF (.str (tx alpha)),sG,sG,sG,sG]) ?_ ?_
  ·rfl'
   exact Vc
  rintro σ H1 ⟨rfl,rfl⟩
  refine zj (λσ H'=>H'=H1/\∃z:Int,σ=[sF (.int c),sF (.int m),sF (.str (tx alpha)),sF (.int z),sG,sG,sG]) ?_ ?_
  ·rfl'
   exact xn hc (by decide) (by decide) λz _=>⟨rfl,z,rfl⟩
  rintro σ H2 ⟨rfl,z,rfl⟩
  refine zj (λσ H'=>H'=H2/\σ=[sF (.int c),sF (.int m),sF (.str (tx alpha)),sF (.int z),sF (.str (tx [])),sG,sG]) ?_ ?_
  ·rfl'
   rfl
  rintro σ H3 ⟨rfl,rfl⟩
  refine zj (λσ H'=>H'=H3/\zcN c m m.toNat σ) ?_ ?_
  ·rfl'
   refine⟨by lia,by lia,ForR.by (λi σ H'=>H'=H3/\zcN c m i σ) ⟨rfl,alpha,[],z,sG,sG,rfl,.refl _,rfl⟩ ?_ λσ H' h=>h⟩
   rintro i σ H' hi ⟨rfl,left,found,number,v5,v6,hf,hp,rfl⟩
   have hpl:=hp.length_eq
   rw[am] at hpl
   have hl:left.length+i=26:=by lia
   have hm0:=be number (b:=(left.length:Int)) (by lia)
   have hm1:=ba number (b:=(left.length:Int)) (by lia)
   generalize hz:number % (left.length:Int)=at_ at hm0 hm1
   obtain⟨v,e1,e2⟩:=vF hm0 hm1
   simp only[xy,bj,bi]
   refine zj (λσ H''=>H''=H'/\∃v5,σ=[sF (.int c),sF (.int m),sF (.str (tx left)),sF (.int number),sF (.str (tx found)),v5,sF (.int at_)]) ?_ ?_
   ·rfl'
    exact⟨by lia,by lia,hz⟩
   rintro σ G1 ⟨rfl,v5',rfl⟩
   refine zj (λσ H''=>H''=G1/\∃n v5,σ=[sF (.int c),sF (.int m),sF (.str (tx left)),sF (.int n),sF (.str (tx found)),v5,sF (.int at_)]) ?_ ?_
   ·rfl'
    exact⟨by lia,⟨by lia,by lia⟩⟩
   rintro σ G2 ⟨rfl,n,v5',rfl⟩
   refine zj (λσ H''=>H''=G2/\∃v5,σ=[sF (.int c),sF (.int m),sF (.str (tx left)),sF (.int n),sF (.str (tx (found ++ [v]))),v5,sF (.int at_)]) ?_ ?_
   ·rfl'
    exact⟨by lia,v,e1,by lia,rfl⟩
   rintro σ G3 ⟨rfl,v5',rfl⟩
   have hc1:=wX left sG (sF at_)
   have hc2:=wX left (sF (at_+1)) sG
   rfl'
   refine⟨by lia,by lia,by lia,_,_,_,_,_,by rw[am,hf];rfl,?_,rfl⟩
   rw[ZB _ hm0,uS _ (by lia),ax]
   have e3:(at_+1).toNat=at_.toNat+1:=by lia
   rw[e3]
   exact ((Um e2).append_left found).trans hp
  rintro σ H4 ⟨rfl,left,found,number,v5,v6,hf,hp,rfl⟩
  rfl'
  have hnd:(found ++ left).Nodup:=hp.nodup_iff.mpr (by decide)
  refine q found (by lia) (List.nodup_append.mp hnd).1 λc hc=>?_
  have h:c ∈ alpha:=hp.mem_iff.mp (aR _ hc)
  exact (by decide:∀c ∈ alpha,97<=c/\c<=122) c h
def qC:Sp:=λvs H Q _=>∃(ls:List Nat) (c m:Int),vs=[.int c,.str (tx ls),.int m]/\0<=c/\1<=ls.length/\ls.length<=26/\0<=m/\m<=100/\∀l:List Nat,(l.length:Int)<=m->(∀x ∈ l,x ∈ ls)->Q (.str (tx l)) H
theorem kg{ls:List Nat}{c m:Int}(h0:0<=c)(h1:1<=ls.length)(h2:ls.length<=26)(h3:0<=m)(h4:m<=100)(h:∀l:List Nat,(l.length:Int)<=m->(∀x ∈ l,x ∈ ls)->Q (.str (tx l)) H):qC [.int c,.str (tx ls),.int m] H Q E :=
 ⟨ls,c,m,rfl,h0,h1,h2,h3,h4,h⟩
theorem iE:zq ["_law_number","_law_letters_here","_law_most","_law_size","_law_word_here","_law_k"] ["_law_number","_law_letters_here","_law_most"] (zb jz):=⟨rfl,rfl,rfl,by decide +kernel,rfl,by decide +kernel,by decide +kernel⟩
theorem JW(B:Bt mg)(F:Fun K "_law_word" "_law_word" jz f fd) : FnOk P w K mg base CX0 1 f fd ["_law_number","_law_letters_here","_law_most"] qC:=by
 refine F.ok iE (λvs H Q E h=>?_) (λcdv A outer s H vs Q E hr h=>?_)
 ·obtain⟨ls,c,m,rfl,_⟩:=h
  rfl
 ·obtain⟨ls,c,m,rfl,h0,h1,h2,h3,h4,q⟩:=h
  refine⟨_,(zN (zt (i:=3) iE.nd rfl (Or.inl rfl) (zB yJ (pv 0) (zB op_add (pv 2) zg)))
   (zN (zt (i:=0) iE.nd rfl (Or.inl rfl) (zB yT (pv 0) (zB op_add (pv 2) zg)))
   (zN (zt (i:=4) iE.nd rfl (Or.inl rfl) xS)
   (zN (yE PassesOwn.never rfl (xN rfl B.range (za (pv 3) ze)) (zC (i:=5) iE.nd rfl (Or.inl rfl))
    (zN (zt (i:=4) iE.nd rfl (Or.inl rfl) (zB op_add_str (pv 4) (zw VW (pv 1) (zB yJ (pv 0) (zp zX rfl B.len aB (za (pv 1) ze))) (λ_ _=>rfl))))
    (zh (zt (i:=0) iE.nd rfl (Or.inl rfl) (zB yT (pv 0) (zp zX rfl B.len aB (za (pv 1) ze)))))))
   (zh (zx (pv 4))))))),?_⟩
  have s16:=ym
  rfl'
  have m0:=be c (b:=m+1) (by lia)
  have m1:=ba c (b:=m+1) (by lia)
  refine⟨by lia,⟨by lia,by lia⟩,by lia,by lia,ForR.by (λi σ H'=>H'=H/\∃(found:List Nat) (number:Int) (v5:Option V),σ=[sF (.int number),sF (.str (tx ls)),sF (.int m),sF (.int (c % (m+1))),sF (.str (tx found)),v5]/\found.length=i/\∀x ∈ found,x ∈ ls)
   ⟨rfl,[],_,sG,rfl,rfl,λx h=>(nomatch h)⟩ ?_ ?_⟩
  ·rintro i σ H' hi ⟨rfl,found,number,v5,rfl,hf,hm⟩
   rfl'
   have hm0:=be number (b:=(ls.length:Int)) (by lia)
   have hm1:=ba number (b:=(ls.length:Int)) (by lia)
   obtain⟨v,e1,e2⟩:=vF hm0 hm1
   repeat (refine And.intro (by first | lia | decide | exact⟨by lia,by lia⟩ | assumption) ?_)
   refine⟨v,e1,?_⟩
   repeat (refine And.intro (by first | lia | decide | exact⟨by lia,by lia⟩ | assumption) ?_)
   refine⟨by rw[am,hf];rfl,λx hx=>?_⟩
   rcases List.mem_append.mp hx with h | h
   ·exact hm x h
   ·rw[List.mem_singleton.mp h]
    exact af e2
  ·rintro σ H' ⟨rfl,found,number,v5,rfl,hf,hm⟩
   rfl'
   exact q found (by lia) hm
def qk:Sp:=λvs H Q _=>∃(ls:List Nat) (c m:Int),vs=[.int c,.str (tx ls),.int m]/\uq c/\1<=ls.length/\ls.length<=26/\0<=m/\m<=100/\∀(o n:List Nat) (p:oP),(o.length:Int)<=m->(n.length:Int)<=m->(∀x ∈ o,x ∈ ls)->(∀x ∈ n,x ∈ ls)->H p=sG->Q (.ref p) (upd H p (.tup [.str (tx o),.str (tx n)]))
theorem Ql{ls:List Nat}{c m:Int}(h0:uq c)(h1:1<=ls.length)(h2:ls.length<=26)(h3:0<=m)(h4:m<=100)(h:∀(o n:List Nat) (p:oP),(o.length:Int)<=m->(n.length:Int)<=m->(∀x ∈ o,x ∈ ls)->(∀x ∈ n,x ∈ ls)->H p=sG->Q (.ref p) (upd H p (.tup [.str (tx o),.str (tx n)]))):qk [.int c,.str (tx ls),.int m] H Q E:=⟨ls,c,m,rfl,h0,h1,h2,h3,h4,h⟩
theorem Ku:zq ["_law_cell_here","_law_letters_here","_law_most"] ["_law_cell_here","_law_letters_here","_law_most"] (zb jy):=⟨rfl,rfl,rfl,by decide +kernel,rfl,by decide +kernel,by decide +kernel⟩
theorem JS(B:Bt mg)(F:Fun K "_law_pair" "_law_pair" jy f fd)(ni:Df P w K mg base CX0 1 "_law_word" ["_law_number","_law_letters_here","_law_most"] [] qC)(fY:Df P w K mg base CX0 1 "_law_mixed" ["_law_cell_here","_law_turn"] [] xx):FnOk P w K mg base CX0 2 f fd ["_law_cell_here","_law_letters_here","_law_most"] qk:=by
 refine F.ok Ku (λvs H Q E h=>?_) (λcdv A outer s H vs Q E hr h=>?_)
 ·obtain⟨ls,c,m,rfl,_⟩:=h
  rfl
 ·obtain⟨ls,c,m,rfl,hc,h1,h2,h3,h4,q⟩:=h
  refine⟨_,(zh (zx (ya (za (cl0 ni hr .nil rfl (za (cl0 fY hr .nil rfl (za (pv 0) (za zg ze))) (za (pv 1) (za (pv 2) ze)))) (za (cl0 ni hr .nil rfl (za (cl0 fY hr .nil rfl (za (pv 0) (za zg ze))) (za (pv 1) (za (pv 2) ze)))) ze))))),?_⟩
  have s16:=ym
  rfl'
  exact xn hc (by decide) (by decide) λz hz=>kg hz h1 h2 h3 h4 λo ho mo=>xn hc (by decide) (by decide) λz hz=>kg hz h1 h2 h3 h4 λn hn mn=>⟨by lia,λp hp=>q o n p ho hn mo mn hp⟩
structure zdp(K:oO):Prop where
 ii:aT K (.type "int") (.type "int")=sF sH
 ib:aT K (.type "int") (.type "bool")=sF sI
def qb:Sp:=λvs H Q _=>∃i:Int,vs=[.int i]/\Q (.bl sH) H
theorem ZJ{i:Int}(h:Q (.bl sH) H):qb [.int i] H Q E:=⟨i,rfl,h⟩
theorem U4:zq ["_law_found"] ["_law_found"] (zb um):=⟨rfl,rfl,rfl,by decide +kernel,rfl,by decide +kernel,by decide +kernel⟩
theorem Qr(B:Bt mg)(T:zdp K)(F:Fun K "_law_whole" "_law_whole" um f fd):FnOk P w K mg base CX0 1 f fd ["_law_found"] qb:=by
 refine F.ok U4 (λvs H Q E h=>?_) (λcdv A outer s H vs Q E hr h=>?_)
 ·obtain⟨a,rfl,_⟩:=h
  rfl
 ·obtain⟨i,rfl,q⟩:=h
  refine⟨_,(zh (zx (za3 (xG rfl B.isi (pv 0) rfl B.int PySem.Pv.boot_int) (zao (Jf (xG rfl B.isi (pv 0) rfl B.bool PySem.Pv.boot_bool)))))),?_⟩
  rfl'
  exact⟨_,.inl (.int _),sH,T.ii,zdm ⟨_,.inl (.int _),sI,T.ib,q⟩⟩
structure TLs(K:oO):Prop where
 ll:aT K (.type "list") (.type "list")=sF sH
 tt:aT K (.type "tuple") (.type "tuple")=sF sH
 bb:aT K (.type "bool") (.type "bool")=sF sH
def jW(K:oO):Sp:=λvs H Q _=>∃(t:oP) (ss:List Stp),vs=[.ref t]/\Is K H (.lst (ss.map dSt)) (.ref t)/\Q (.bl sH) H
theorem nN:zq ["_law_found","_law_step"] ["_law_found"] (zb ur):=⟨rfl,rfl,rfl,by decide +kernel,rfl,by decide +kernel,by decide +kernel⟩
theorem UD(B:Bt mg)(T:TLs K)(F:Fun K "_law_steps" "_law_steps" ur f fd)(nW:Df P w K mg base CX0 1 "_law_whole" ["_law_found"] [] qb):FnOk P w K mg base CX0 2 f fd ["_law_found"] (jW K):=by
 refine F.ok nN (λvs H Q E h=>?_) (λcdv A outer s H vs Q E hr h=>?_)
 ·obtain⟨t,ss,rfl,_⟩:=h
  rfl
 ·obtain⟨t,ss,rfl,hT,q⟩:=h
  refine⟨_,(zi (z9 (yo (xz (xG rfl B.isi (pv 0) rfl B.list PySem.Pv.boot_list) (λ_=>rfl)))
    (zh (zx xO))
    zD)
   (zi (yE PassesOwn.never rfl (yC (pv 0)) (zC (i:=1) nN.nd rfl (Or.inl rfl))
    (zi (z9 (PW.pt (ub (yo (xz (xG rfl B.isi (pv 1) rfl B.tuple PySem.Pv.boot_tuple) (λ_=>rfl))) (ub (zI X9 (zp zX rfl B.len aB (za (pv 1) ze)) zg (zK _)) (vH (yo (xz (xG rfl B.isi (zw ix_tup (pv 1) zg (λ_ _=>rfl)) rfl B.bool PySem.Pv.boot_bool) (λ_=>rfl)))))))
     (zh (zx xO))
     zD)
    (zh (z9 (PW.pt (ub (yo (xz (cl0 nW hr .nil rfl (za (zw ix_tup (pv 1) zg (λ_ _=>rfl)) ze)) (λ_=>rfl))) (vH (yo (xz (cl0 nW hr .nil rfl (za (zw ix_tup (pv 1) zg (λ_ _=>rfl)) ze)) (λ_=>rfl))))))
     (zh (zx xO))
     zD))))
   (zh (zx xO)))),?_⟩
  have s16:=ym
  simp only[Is] at hT
  obtain⟨_,ts,e,hTs,hJ⟩:=hT
  cases e
  refine zj (λσ H'=>H'=H/\σ=[sF (.ref t),sG]) ?_ ?_
  ·rfl'
   exact⟨_,.inr (.inr (.inl ⟨_,_,rfl,rfl,hTs⟩)),sH,T.ll,Uy trivial⟩
  rintro σ H1 ⟨rfl,rfl⟩
  refine zj (λσ H'=>H'=H1/\∃v1,σ=[sF (.ref t),v1]) ?_ ?_
  ·rfl'
   refine⟨⟨_,hTs⟩,ForL.by (xs:=ts) (λi σ H'=>H'=H1/\∃v1,σ=[sF (.ref t),v1]) ⟨rfl,_,rfl⟩ (λi σ H' _ h=>by rw[h.1];exact hTs) ?_ λσ H' h=>h⟩
   rintro i x σ H' hx ⟨rfl,v1,rfl⟩
   obtain⟨u,pu,hui,rfl,hqu⟩:=w6 hJ hx
   simp only[xy,bj,bi]
   refine zj (λσ H''=>H''=H'/\σ=[sF (.ref t),sF (.ref pu)]) ?_ ?_
   ·rfl'
    exact⟨_,.inr (.inr (.inr ⟨_,_,rfl,rfl,hqu⟩)),sH,T.tt,Uy ⟨_,.inr ⟨_,hqu,rfl⟩,xh (λh=>absurd rfl h) λ_=>⟨_,hqu,_,rfl,_,.inl (.bl _),sH,T.bb,Uy trivial⟩⟩⟩
   rintro σ G ⟨rfl,rfl⟩
   rfl'
   exact⟨_,hqu,_,rfl,ZJ ⟨sH,rfl,Uy ⟨_,hqu,_,rfl,ZJ ⟨sH,rfl,Uy rfl⟩⟩⟩⟩
  rintro σ H2 ⟨rfl,v1,rfl⟩
  rfl'
  exact q
def w8(K:oO):Sp:=λvs H Q _=>∃(a t:oP) (rs:List zr) (w w':List Nat) (s:Stp),vs=[.ref a,.str (tx w),.ref t]/\Is K H (.lst (rs.map dR)) (.ref a)/\jj rs/\w.length<=100000/\SqT K H t [.int s.1,.int s.2.1,.bl s.2.2]/\yn rs w s=sF w'/\Q (.str (tx w')) H
theorem qt{a t:oP}{w w':List Nat}{s:Stp}(h1:Is K H (.lst (rs.map dR)) (.ref a))(h2:jj rs)(h3:w.length<=100000)(h4:SqT K H t [.int s.1,.int s.2.1,.bl s.2.2])(h5:yn rs w s=sF w')(q:Q (.str (tx w')) H):w8 K [.ref a,.str (tx w),.ref t] H Q E:=⟨a,t,rs,w,w',s,rfl,h1,h2,h3,h4,h5,q⟩
theorem lN:zq ["_law_pacts","_law_word_here","_law_step","_law_old","_law_new"] ["_law_pacts","_law_word_here","_law_step"] (zb jR):=⟨rfl,rfl,rfl,by decide +kernel,rfl,by decide +kernel,by decide +kernel⟩
theorem Kc(B:Bt mg)(F:Fun K "_law_used" "_law_used" jR f fd) : FnOk P w K mg base CX0 1 f fd ["_law_pacts","_law_word_here","_law_step"] (w8 K):=by
 refine F.ok lN (λvs H Q E h=>?_) (λcdv A outer s H vs Q E hr h=>?_)
 ·obtain⟨a,t,rs,w,w',s,rfl,_⟩:=h
  rfl
 ·obtain⟨a,t,rs,w,w',s,rfl,hR,ok,hw,ht,ha,q⟩:=h
  refine⟨_,(zi (zt (i:=3) lN.nd rfl (Or.inl rfl) (zw ix_tup (zw ix_list (pv 0) (zw ix_tup (pv 2) zg (λ_ _=>rfl)) (λ_ _=>rfl)) zg (λ_ _=>rfl)))
   (zi (zt (i:=4) lN.nd rfl (Or.inl rfl) (zw ix_tup (zw ix_list (pv 0) (zw ix_tup (pv 2) zg (λ_ _=>rfl)) (λ_ _=>rfl)) zg (λ_ _=>rfl)))
   (zi (z9 (yo (xz (zw ix_tup (pv 2) zg (λ_ _=>rfl)) (λ_=>rfl)))
    (zN (zt (i:=3) lN.nd rfl (Or.inl rfl) (zw ix_tup (zw ix_list (pv 0) (zw ix_tup (pv 2) zg (λ_ _=>rfl)) (λ_ _=>rfl)) zg (λ_ _=>rfl)))
    (zh (zt (i:=4) lN.nd rfl (Or.inl rfl) (zw ix_tup (zw ix_list (pv 0) (zw ix_tup (pv 2) zg (λ_ _=>rfl)) (λ_ _=>rfl)) zg (λ_ _=>rfl)))))
    zD)
   (zh (zx (zB op_add_str (zB op_add_str (yk wC (pv 1) xZ (yf (zw ix_tup (pv 2) zg (λ_ _=>rfl)))) (pv 4)) (yk wC (pv 1) (yf (zB op_add (zw ix_tup (pv 2) zg (λ_ _=>rfl)) (zp zX rfl B.len aB (za (pv 3) ze)))) xZ))))))),?_⟩
  have s16:=ym
  simp only[Is] at hR
  obtain⟨_,xs,e,hX,hI⟩:=hR
  cases e
  have hb:0<=s.1/\s.1<rs.length:=bw λhb=>by rw[y8 hb] at ha;cases ha
  obtain⟨p,a1,_,hp⟩:=za7 hI hb.1 hb.2
  have gl:=YH ok s.1.toNat
  rw[yF hb] at ha
  generalize rs.getD s.1.toNat ([],[])=r at *
  refine zj (λσ H'=>H'=H/\σ=[sF (.ref a),sF (.str (tx w)),sF (.ref t),sF (.str (tx r.1)),sG]) ?_ ?_
  ·rfl'
   exact⟨_,ht,_,rfl,_,_,rfl,hX,_,a1,_,rfl,_,hp,rfl⟩
  rintro σ H1 ⟨rfl,rfl⟩
  refine zj (λσ H'=>H'=H1/\σ=[sF (.ref a),sF (.str (tx w)),sF (.ref t),sF (.str (tx r.1)),sF (.str (tx r.2))]) ?_ ?_
  ·rfl'
   exact⟨_,ht,_,rfl,_,_,rfl,hX,_,a1,_,rfl,_,hp,rfl⟩
  rintro σ H2 ⟨rfl,rfl⟩
  refine zj (λσ H'=>H'=H2/\σ=[sF (.ref a),sF (.str (tx w)),sF (.ref t),sF (.str (tx (sdl r s.2.2).1)),sF (.str (tx (sdl r s.2.2).2))]) ?_ ?_
  ·rfl'
   refine⟨_,ht,_,rfl,_,rfl,xh (λh=>⟨_,ht,_,rfl,_,_,rfl,hX,_,a1,_,rfl,_,hp,_,rfl,_,ht,_,rfl,_,_,rfl,hX,_,a1,_,rfl,_,hp,_,rfl,?_⟩) λh=>?_⟩
   ·rw[h]
    exact⟨rfl,rfl⟩
   ·rw[Bool.not_eq_false] at h
    rw[h]
    exact⟨rfl,rfl⟩
  rintro σ H3 ⟨rfl,rfl⟩
  have hol:(sdl r s.2.2).1.length<=100:=by
   cases s.2.2
   ·exact gl.2
   ·exact gl.1
  have hnl:(sdl r s.2.2).2.length<=100:=by
   cases s.2.2
   ·exact gl.1
   ·exact gl.2
  generalize sdl r s.2.2=on at *
  have hst:zu w s.2.1 on.1=sH:=bw λhst=>by rw[if_neg hst] at ha;cases ha
  rw[if_pos hst] at ha
  obtain⟨_,_,h0,h1⟩:=xl hst
  have c1:=wX w sG (sF s.2.1)
  have c2:=wX w (sF (s.2.1 + ↑on.1.length)) sG
  rfl'
  refine⟨_,ht,_,rfl,_,rfl,by lia,by lia,_,ht,_,rfl,by lia,_,rfl,by lia,?_,?_⟩
  ·rw[am]
   lia
  ·rw[KS h0]
   cases ha
   exact q
theorem Wc{w o:List Nat}{n:Nat}(h:(n:Int)+o.length<=w.length):zu w (n:Int) o=decide (cut w (sF (n:Int)) (sF ((n:Int)+(o.length:Int)))=o):=by
 unfold zu
 rw[ko _ (by lia) (by lia) (by lia)]
 have e:((n:Int)+(o.length:Int) - (n:Int)).toNat=o.length:=by lia
 rw[e]
 exact decide_eq_decide.mpr ⟨λh=>h.2.2,λh'=>⟨by lia,by lia,h'⟩⟩
theorem qh{a p:oP}{xs:List V}{ys zs:List V}(hp:H p=sF (.lst ys))(h:SqT K H a xs):SqT K (upd H p (.lst zs)) a xs:=by
 rcases h with (h | ⟨o,h⟩) | h
 ·exact .inl (.inl (by rw[zo (λe=>by rw[e,hp] at h;cases h)];exact h))
 ·exact .inl (.inr ⟨o,by rw[zo (λe=>by rw[e,hp] at h;cases h)];exact h⟩)
 ·exact .inr h
def km(K:oO):Sp:=λvs H Q _=>∃(a:oP) (rs:List zr) (w:List Nat) (m:Int),vs=[.ref a,.str (tx w),.int m]/\Is K H (.lst (rs.map dR)) (.ref a)/\jj rs/\w.length<=900/\∀(D:oP) (H':Hp) (us:List Stp),H D=sG->Same H H'->LsA K H' D (us.map dSt)->us.length<=100000->(∀s ∈ us,Fit rs w m s)->Q (.ref D) H'
theorem Qo{a:oP}{w:List Nat}{m:Int}(h1:Is K H (.lst (rs.map dR)) (.ref a))(h2:jj rs)(h3:w.length<=900)(h:∀(D:oP) (H':Hp) (us:List Stp),H D=sG->Same H H'->LsA K H' D (us.map dSt)->us.length<=100000->(∀s ∈ us,Fit rs w m s)->Q (.ref D) H'):km K [.ref a,.str (tx w),.int m] H Q E:=⟨a,rs,w,m,rfl,h1,h2,h3,h⟩
theorem gL:zq ["_law_pacts","_law_word_here","_law_most","_law_found","_law_number","_law_pact","_law_forth","_law_old","_law_place","_law_step"] ["_law_pacts","_law_word_here","_law_most"] (zb jP):=⟨rfl,rfl,rfl,by decide +kernel,rfl,by decide +kernel,by decide +kernel⟩
theorem JO(B:Bt mg)(F:Fun K "_law_uses" "_law_uses" jP f fd)(mm:Df P w K mg base CX0 1 "_law_used" ["_law_pacts","_law_word_here","_law_step"] [] (w8 K)):FnOk P w K mg base CX0 2 f fd ["_law_pacts","_law_word_here","_law_most"] (km K):=by
 refine F.ok gL (λvs H Q E h=>?_) (λcdv A outer s H vs Q E hr h=>?_)
 ·obtain⟨a,rs,w,m,rfl,_⟩:=h
  rfl
 ·obtain⟨a,rs,w,m,rfl,hR,ok,hw,q⟩:=h
  refine⟨_,(zi (zt (i:=3) gL.nd rfl (Or.inl rfl) (xU ze))
   (zi (yE PassesOwn.never rfl (va rfl B.enum (za (pv 0) ze)) (uA (n:=2) rfl (z8 (zC (i:=4) gL.nd rfl (Or.inl rfl)) (z8 (zC (i:=5) gL.nd rfl (Or.inl rfl)) wM)))
    (zh (yE PassesOwn.never rfl (zah (ya (za xO (za xO ze)))) (zC (i:=6) gL.nd rfl (Or.inl rfl))
     (zi (zt (i:=7) gL.nd rfl (Or.inl rfl) (zw ix_tup (pv 5) zg (λ_ _=>rfl)))
     (zi (z9 (yo (xz (pv 6) (λ_=>rfl)))
      (zh (zt (i:=7) gL.nd rfl (Or.inl rfl) (zw ix_tup (pv 5) zg (λ_ _=>rfl))))
      zD)
     (zh (yE PassesOwn.never rfl (xN rfl B.range (za (zB op_add (zB qx (zp zX rfl B.len aB (za (pv 1) ze)) (zp zX rfl B.len aB (za (pv 7) ze))) zg) ze)) (zC (i:=8) gL.nd rfl (Or.inl rfl))
      (zi (zt (i:=9) gL.nd rfl (Or.inl rfl) (ya (za (pv 4) (za (pv 8) (za (pv 6) ze)))))
      (zh (z9 (PW.pt (zaX (zI qG (yk wC (pv 1) (yf (pv 8)) (yf (zB op_add (pv 8) (zp zX rfl B.len aB (za (pv 7) ze))))) (pv 7) (zK _)) (JZ (zI op_le (zp zX rfl B.len aB (za (cl0 mm hr .nil rfl (za (pv 0) (za (pv 1) (za (pv 9) ze)))) ze)) (pv 2) (zK _)))))
       (zh (xM (vM bc bB bC yU (pv 3) (za (pv 9) ze))))
       zD))))))))))
   (zh (zx (pv 3))))),?_⟩
  have s16:=ym
  have hR':=hR
  simp only[Is] at hR'
  obtain⟨_,xs,e,hX,hI⟩:=hR'
  cases e
  have hxl:=hI.len
  rw[ae] at hxl
  have okl:=ok.1
  refine zj (λσ H'=>∃D:oP,H D=sG/\Same H H'/\LsA K H' D []/\σ=[sF (.ref a),sF (.str (tx w)),sF (.int m),sF (.ref D),sG,sG,sG,sG,sG,sG]) ?_ ?_
  ·rfl'
   exact⟨by lia,λD hD=>⟨D,hD,zd hD,LsA.nil,rfl⟩⟩
  rintro σ H1 ⟨D,hD,s1,hL1,rfl⟩
  refine zj (λσ H'=>∃us:List Stp,Same H H'/\LsA K H' D (us.map dSt)/\us.length<=100000/\(∀s ∈ us,Fit rs w m s)/\∃v4 v5 v6 v7 v8 v9,σ=[sF (.ref a),sF (.str (tx w)),sF (.int m),sF (.ref D),v4,v5,v6,v7,v8,v9]) ?_ ?_
  ·rfl'
   refine⟨⟨_,s1.seq hX⟩,ForEL.by (xs:=xs) (λi σ H'=>∃us:List Stp,Same H H'/\LsA K H' D (us.map dSt)/\us.length<=i * 2002/\(∀s ∈ us,Fit rs w m s)/\∃v4 v5 v6 v7 v8 v9,σ=[sF (.ref a),sF (.str (tx w)),sF (.int m),sF (.ref D),v4,v5,v6,v7,v8,v9]) ⟨[],s1,hL1,aJ _,λs h=>(nomatch h),_,_,_,_,_,_,rfl⟩ ?_ ?_ ?_⟩
   ·rintro i σ H' _ ⟨us,hs,_⟩
    exact hs.seq hX
   ·rintro i x σ H' p hx ⟨us,hs,hL,hl,hf,v4,v5,v6,v7,v8,v9,rfl⟩ hp
    obtain⟨r,pr,hri,rfl,hqr⟩:=hI.getR hx
    have hi:=(List.getElem?_eq_some_iff.mp hri).1
    have b:=ok.2 r (af hri)
    have er:rs.getD i ([],[])=r:=by rw[ac,hri];rfl
    rfl'
    refine⟨_,SqT.of zf,rfl,_,_,rfl,_,_,rfl,rfl,?_⟩
    refine⟨by lia,λp2 hp2=>?_⟩
    have hs3:Same H' (upd (upd H' p (.tup [.int (i:Nat),.ref pr])) p2 (.tup [.bl sH,.bl sI])):=(zd hp).trans (zd hp2)
    have hp3:(upd (upd H' p (.tup [.int (i:Nat),.ref pr])) p2 (.tup [.bl sH,.bl sI])) p2=sF (.tup [.bl sH,.bl sI]):=zf
    generalize upd (upd H' p (.tup [.int (i:Nat),.ref pr])) p2 (.tup [.bl sH,.bl sI])=H3 at *
    have hD3:p2≠D:=λe=>by
     obtain⟨ys,hY,_⟩:=hL.same hs3
     rw[e,hY] at hp3
     cases hp3
    refine⟨⟨_,SqT.of hp3⟩,ForT.by (xs:=[.bl sH,.bl sI]) (λj σ H4=>H4 p2=sF (.tup [.bl sH,.bl sI])/\Same H H4/\∃us:List Stp,LsA K H4 D (us.map dSt)/\us.length<=i * 2002+j * 1001/\(∀s ∈ us,Fit rs w m s)/\∃v6 v7 v8 v9,σ=[sF (.ref a),sF (.str (tx w)),sF (.int m),sF (.ref D),sF (.int (i:Nat)),sF (.ref pr),v6,v7,v8,v9]) ⟨hp3,hs.trans hs3,us,hL.same hs3,by lia,hf,_,_,_,_,rfl⟩ (λj σ H4 _ h=>SqT.of h.1) ?_ ?_⟩
    ·rintro j y σ H4 hy ⟨hp4,hs4,us,hL4,hl4,hf4,v6,v7,v8,v9,rfl⟩
     obtain⟨f,rfl⟩:∃f:Bool,y=.bl f:=by
      match j,hy with
      | 0,hy=>exact⟨_,(Option.some.inj hy).symm⟩
      | 1,hy=>exact⟨_,(Option.some.inj hy).symm⟩
      | j+2,hy=>simp at hy
     rfl'
     refine zj (λσ H'=>H'=H4/\σ=[sF (.ref a),sF (.str (tx w)),sF (.int m),sF (.ref D),sF (.int (i:Nat)),sF (.ref pr),sF (.bl f),sF (.str (tx r.1)),v8,v9]) ?_ ?_
     ·rfl'
      exact⟨_,zl hs4 hqr,rfl⟩
     rintro σ H5 ⟨rfl,rfl⟩
     refine zj (λσ H'=>H'=H5/\σ=[sF (.ref a),sF (.str (tx w)),sF (.int m),sF (.ref D),sF (.int (i:Nat)),sF (.ref pr),sF (.bl f),sF (.str (tx (sdl r f).1)),v8,v9]) ?_ ?_
     ·rfl'
      refine xh (λh=>⟨_,zl hs4 hqr,?_⟩) λh=>?_
      ·rw[h]
       rfl
      ·rw[Bool.not_eq_false] at h
       rw[h]
       rfl
     rintro σ H6 ⟨rfl,rfl⟩
     have bo:(sdl r f).1.length<=100/\(sdl r f).2.length<=100:=by
      unfold sdl
      split
      ·exact b
      ·exact⟨b.2,b.1⟩
     have aft:∀n:Nat,(n:Int)+(sdl r f).1.length<=w.length->cut w (sF (n:Int)) (sF ((n:Int)+((sdl r f).1.length:Int)))=(sdl r f).1->∃w',yn rs w (((i:Nat):Int),((n:Nat):Int),f)=sF w'/\w'.length<=1000:=λn hn hc=>by
      have hst:zu w (n:Int) (sdl r f).1=sH:=by
       rw[Wc hn]
       exact decide_eq_true hc
      refine⟨yR w (n:Int) (sdl r f).1 (sdl r f).2,?_,?_⟩
      ·rw[yF (by show (0:Int)<=(i:Int)/\(i:Int)<rs.length;lia)]
       simp only
       rw[show ((i:Nat):Int).toNat=i from rfl,er,if_pos hst]
      ·have:=Xw (n:=(sdl r f).2) hst
       lia
     generalize sdl r f=o at *
     rfl'
     refine⟨by lia,by lia,by lia,by lia,ForR.by (λn σ H4=>H4 p2=sF (.tup [.bl sH,.bl sI])/\Same H H4/\∃us:List Stp,LsA K H4 D (us.map dSt)/\us.length<=i * 2002+j * 1001+n/\(∀s ∈ us,Fit rs w m s)/\∃v8 v9,σ=[sF (.ref a),sF (.str (tx w)),sF (.int m),sF (.ref D),sF (.int (i:Nat)),sF (.ref pr),sF (.bl f),sF (.str (tx o.1)),v8,v9]) ⟨hp4,hs4,us,hL4,hl4,hf4,_,_,rfl⟩ ?_ ?_⟩
     ·rintro n σ H7 hn ⟨hp7,hs7,us,hL7,hl7,hf7,v8,v9,rfl⟩
      rw[show (0:Int)+(n:Int)=(n:Int) by lia]
      obtain⟨ys,hY,hJ⟩:=hL7
      have hyl:=hJ.len
      rw[ae] at hyl
      have hj2:j<2:=(List.getElem?_eq_some_iff.mp hy).1
      simp only[xy,bj,bi]
      refine zj (λσ H''=>∃t:oP,Same H7 H''/\H'' t=sF (.tup [.int (i:Nat),.int (n:Nat),.bl f])/\σ=[sF (.ref a),sF (.str (tx w)),sF (.int m),sF (.ref D),sF (.int (i:Nat)),sF (.ref pr),sF (.bl f),sF (.str (tx o.1)),sF (.int (n:Nat)),sF (.ref t)]) ?_ ?_
      ·rfl'
       exact⟨by lia,λt ht=>⟨zd ht,zf⟩⟩
      rintro σ H8 ⟨t,s8,ht8,rfl⟩
      have hY8:=s8 _ _ hY
      have hJ8:=Iss.same s8 _ _ hJ
      rfl'
      refine⟨by lia,by lia,xh (λhc=>?_) λ_=>⟨s8 _ _ hp7,hs7.trans s8,us,⟨ys,hY8,hJ8⟩,by lia,hf7⟩⟩
      obtain⟨w',ha,hwl⟩:=aft n (by lia) hc
      refine qt (s:=(((i:Nat):Int),((n:Nat):Int),f)) (Is.same (hs7.trans s8) _ _ hR) ok (by lia) (SqT.of ht8) ha ?_
      rfl'
      refine⟨by lia,xh (λhm=>⟨.inl ⟨_,SqL.of hY8⟩,ys,hY8,by lia,?_,zG (hs7.trans s8) hD,us ++ [(((i:Nat):Int),((n:Nat):Int),f)],?_,by rw[am];simp only[aM,cw];lia,λs hs'=>?_⟩) λ_=>⟨s8 _ _ hp7,hs7.trans s8,us,⟨ys,hY8,hJ8⟩,by lia,hf7⟩⟩
      ·rw[zo hD3]
       exact s8 _ _ hp7
      ·rw[aH]
       exact LsA.snoc hY8 hJ8 (wn _) (by simp only[dSt,xq,zQ,and_self]) (jE (SqT.of ht8))
      ·rcases List.mem_append.mp hs' with h | h
       ·exact hf7 s h
       ·rw[List.mem_singleton.mp h]
        exact⟨w',ha,hm⟩
     ·rintro σ H7 ⟨hp7,hs7,us,hL7,hl7,hf7,v8,v9,rfl⟩
      exact⟨hp7,hs7,us,hL7,by lia,hf7,_,_,_,_,rfl⟩
    ·rintro σ H4 ⟨_,hs4,us,hL4,hl4,hf4,v6,v7,v8,v9,rfl⟩
     exact⟨hs4,us,hL4,by simp only[aM,cw] at hl4;lia,hf4,_,_,_,_,_,_,rfl⟩
   ·rintro σ H' ⟨us,hs,hL,hl,hf,v4,v5,v6,v7,v8,v9,rfl⟩
    exact⟨hs,us,hL,by lia,hf,_,_,_,_,_,_,rfl⟩
  rintro σ H2 ⟨us,s2,hL,hl,hf,v4,v5,v6,v7,v8,v9,rfl⟩
  rfl'
  exact q D H2 us hD s2 hL hl hf
def qe(K:oO):Sp:=λvs H Q _=>∃(a c:oP) (rs:List zr) (w:List Nat) (ns:List Int) (m:Int),vs=[.ref a,.str (tx w),.ref c,.int m]/\Is K H (.lst (rs.map dR)) (.ref a)/\jj rs/\w.length<=60/\m<=60/\SqL K H c (ns.map V.int)/\(∀z ∈ ns,uq z)/\ns.length<=63 /\
 ∀(D:oP) (H':Hp) (ss:List Stp) (w':List Nat),H D=sG->Same H H'->LsA K H' D (ss.map dSt)->yd rs w ss=sF w'->w'.length<=60->ss.length<=ns.length->(∀s ∈ ss,0<=s.1/\s.1<rs.length)->Q (.ref D) H'
theorem Va{a c:oP}{w:List Nat}{m:Int}(h1:Is K H (.lst (rs.map dR)) (.ref a))(h2:jj rs)(h3:w.length<=60)(h4:m<=60)(h5:SqL K H c (ns.map V.int))(h5':∀z ∈ ns,uq z)(h6:ns.length<=63)
 (h:∀(D:oP) (H':Hp) (ss:List Stp) (w':List Nat),H D=sG->Same H H'->LsA K H' D (ss.map dSt)->yd rs w ss=sF w'->w'.length<=60->ss.length<=ns.length->(∀s ∈ ss,0<=s.1/\s.1<rs.length)->Q (.ref D) H'):qe K [.ref a,.str (tx w),.ref c,.int m] H Q E:=⟨a,c,rs,w,ns,m,rfl,h1,h2,h3,h4,h5,h5',h6,h⟩
theorem ZQ{w w':List Nat}{s:Stp}(h:yn rs w s=sF w'):0<=s.1/\s.1<rs.length:=bw λhb=>by rw[y8 hb] at h;cases h
theorem iF:zq ["_law_pacts","_law_word_here","_law_cells","_law_most","_law_steps_here","_law_cell_here","_law_some","_law_step"] ["_law_pacts","_law_word_here","_law_cells","_law_most"] (zb vX):=⟨rfl,rfl,rfl,by decide +kernel,rfl,by decide +kernel,by decide +kernel⟩
theorem UY(B:Bt mg)(F:Fun K "_law_chain" "_law_chain" vX f fd)(oB:Df P w K mg base CX0 2 "_law_uses" ["_law_pacts","_law_word_here","_law_most"] [] (km K))(mm:Df P w K mg base CX0 1 "_law_used" ["_law_pacts","_law_word_here","_law_step"] [] (w8 K))(fY:Df P w K mg base CX0 1 "_law_mixed" ["_law_cell_here","_law_turn"] [] xx):FnOk P w K mg base CX0 3 f fd ["_law_pacts","_law_word_here","_law_cells","_law_most"] (qe K):=by
 refine F.ok iF (λvs H Q E h=>?_) (λcdv A outer s H vs Q E hr h=>?_)
 ·obtain⟨a,c,rs,w,ns,m,rfl,_⟩:=h
  rfl
 ·obtain⟨a,c,rs,w,ns,m,rfl,hR,ok,hw,hm,hS,hB,hn,q⟩:=h
  refine⟨_,(zi (zt (i:=4) iF.nd rfl (Or.inl rfl) (xU ze))
   (zi (yE PassesOwn.never rfl (yC (pv 2)) (zC (i:=5) iF.nd rfl (Or.inl rfl))
    (zi (zt (i:=6) iF.nd rfl (Or.inl rfl) (cl0 oB hr .nil rfl (za (pv 0) (za (pv 1) (za (pv 3) ze)))))
    (zh (z9 (zI Xx (zp zX rfl B.len aB (za (pv 6) ze)) zg (zK _))
     (zi (zt (i:=7) iF.nd rfl (Or.inl rfl) (zw ix_list (pv 6) (zB yJ (cl0 fY hr .nil rfl (za (pv 5) (za zg ze))) (zp zX rfl B.len aB (za (pv 6) ze))) (λ_ _=>rfl)))
     (zi (xM (vM bc bB bC yU (pv 4) (za (pv 7) ze)))
     (zh (zt (i:=1) iF.nd rfl (Or.inl rfl) (cl0 mm hr .nil rfl (za (pv 0) (za (pv 1) (za (pv 7) ze))))))))
     zD))))
   (zh (zx (pv 4))))),?_⟩
  have s16:=ym
  refine zj (λσ H'=>∃D:oP,H D=sG/\Same H H'/\LsA K H' D []/\σ=[sF (.ref a),sF (.str (tx w)),sF (.ref c),sF (.int m),sF (.ref D),sG,sG,sG]) ?_ ?_
  ·rfl'
   exact⟨by lia,λD hD=>⟨D,hD,zd hD,LsA.nil,rfl⟩⟩
  rintro σ H1 ⟨D,hD,s1,hL1,rfl⟩
  refine zj (λσ H'=>∃(ss:List Stp) (w2:List Nat),Same H H'/\LsA K H' D (ss.map dSt)/\yd rs w ss=sF w2/\w2.length<=60/\ss.length<=ns.length/\(∀s ∈ ss,0<=s.1/\s.1<rs.length)/\∃v5 v6 v7,σ=[sF (.ref a),sF (.str (tx w2)),sF (.ref c),sF (.int m),sF (.ref D),v5,v6,v7]) ?_ ?_
  ·rfl'
   refine⟨⟨_,s1.seq hS⟩,ForL.by (xs:=ns.map V.int) (λi σ H'=>∃(ss:List Stp) (w2:List Nat),Same H H'/\LsA K H' D (ss.map dSt)/\yd rs w ss=sF w2/\w2.length<=60/\ss.length<=i/\(∀s ∈ ss,0<=s.1/\s.1<rs.length)/\∃v5 v6 v7,σ=[sF (.ref a),sF (.str (tx w2)),sF (.ref c),sF (.int m),sF (.ref D),v5,v6,v7]) ⟨[],w,s1,hL1,rfl,hw,au _,λs h=>(nomatch h),_,_,_,rfl⟩ (λi σ H' _ h=>by obtain⟨ss,w2,hs,_⟩:=h;exact hs.seq hS) ?_ ?_⟩
   ·rintro i x σ H3 hx ⟨ss,w2,s3,hL3,hwk,hw2,hsl,hnum,v5,v6,v7,rfl⟩
    have hi:=(List.getElem?_eq_some_iff.mp hx).1
    rw[ae] at hi
    rw[aG] at hx
    obtain⟨z,hz,rfl⟩:=Option.map_eq_some_iff.mp hx
    have hzB:=hB z (af hz)
    simp only[xy,bj,bi]
    refine zj (λσ H'=>∃(U:oP) (us:List Stp),Same H3 H'/\LsA K H' U (us.map dSt)/\us.length<=100000/\(∀s ∈ us,Fit rs w2 m s)/\σ=[sF (.ref a),sF (.str (tx w2)),sF (.ref c),sF (.int m),sF (.ref D),sF (.int z),sF (.ref U),v7]) ?_ ?_
    ·rfl'
     exact Qo (Is.same s3 _ _ hR) ok (by lia) λU H' us _ s' hU hul hf=>⟨s',U,us,hU,hul,hf,rfl⟩
    rintro σ H4 ⟨U,us,s4,hU,hul,hf,rfl⟩
    obtain⟨ys,hY,hJ⟩:=hU
    rfl'
    refine⟨_,.inl ⟨_,SqL.of hY,rfl⟩,xh (λhpos=>?_) λ_=>?_⟩
    ·refine zj (λσ H'=>∃(st:Stp) (pst:oP) (w3:List Nat),H'=H4/\SqT K H4 pst [.int st.1,.int st.2.1,.bl st.2.2]/\yn rs w2 st=sF w3/\w3.length<=60/\σ=[sF (.ref a),sF (.str (tx w2)),sF (.ref c),sF (.int m),sF (.ref D),sF (.int z),sF (.ref U),sF (.ref pst)]) ?_ ?_
     ·rfl'
      refine xn hzB (by decide) (by decide) λy hy=>⟨_,.inl ⟨_,SqL.of hY,rfl⟩,?_⟩
      have m0:=be y (b:=(ys.length:Int)) (by lia)
      have m1:=ba y (b:=(ys.length:Int)) (by lia)
      obtain⟨v,a1,b1⟩:=vF (xs:=ys) m0 m1
      obtain⟨st,pst,hst,rfl,hqs⟩:=w6 hJ b1
      obtain⟨w3,haf,hw3⟩:=hf st (af hst)
      exact⟨_,rfl,by lia,_,SqL.of hY,_,a1,rfl,st,pst,hqs,w3,haf,by lia,rfl⟩
     rintro σ H5 ⟨st,pst,w3,rfl,hqs,haf,hw3,rfl⟩
     obtain⟨xs3,hX3,hI3⟩:=hL3.same s4
     have hil:=hI3.len
     rw[ae] at hil
     refine zj (λσ H'=>Same H H'/\LsA K H' D ((ss ++ [st]).map dSt)/\SqT K H' pst [.int st.1,.int st.2.1,.bl st.2.2]/\σ=[sF (.ref a),sF (.str (tx w2)),sF (.ref c),sF (.int m),sF (.ref D),sF (.int z),sF (.ref U),sF (.ref pst)]) ?_ ?_
     ·rfl'
      refine⟨.inl ⟨_,SqL.of hX3⟩,xs3,hX3,by lia,zG (s3.trans s4) hD,?_,qh hX3 hqs⟩
      rw[aH]
      exact LsA.snoc hX3 hI3 (wn _) (by simp only[dSt,xq,zQ,and_self]) (jE hqs)
     rintro σ H6 ⟨s6,hL6,hq6,rfl⟩
     rfl'
     refine qt (Is.same s6 _ _ hR) ok (by lia) hq6 haf ?_
     refine⟨s6,ss ++ [st],hL6,w3,qK hwk haf,hw3,by rw[am];exact Nat.succ_le_succ hsl,λs hs=>?_,rfl⟩
     rcases List.mem_append.mp hs with h | h
     ·exact hnum s h
     ·rw[List.mem_singleton.mp h]
      exact ZQ haf
    ·exact⟨s3.trans s4,ss,hL3.same s4,w2,hwk,hw2,by lia,hnum,rfl⟩
   ·rintro σ H' ⟨ss,w2,hs,hL,hwk,hw2,hsl,hnum,v5,v6,v7,rfl⟩
    rw[ae] at hsl
    exact⟨hs,ss,hL,w2,hwk,hw2,hsl,hnum,_,_,_,rfl⟩
  rintro σ H2 ⟨ss,w2,hs,hL,hwk,hw2,hsl,hnum,v5,v6,v7,rfl⟩
  rfl'
  exact q D H2 ss w2 hD hs hL hwk hw2 hsl hnum
def YT(K:oO):Sp:=λvs H Q _=>∃(a t:oP) (rs:List zr) (w w':List Nat) (ss:List Stp),vs=[.ref a,.str (tx w),.ref t]/\Is K H (.lst (rs.map dR)) (.ref a)/\jj rs/\w.length<=60/\Is K H (.lst (ss.map dSt)) (.ref t)/\ss.length<=600/\yd rs w ss=sF w'/\Q (.str (tx w')) H
theorem KY{a t:oP}{w w':List Nat}(h1:Is K H (.lst (rs.map dR)) (.ref a))(h2:jj rs)(h3:w.length<=60)(h4:Is K H (.lst (ss.map dSt)) (.ref t))(h5:ss.length<=600)(h6:yd rs w ss=sF w')(q:Q (.str (tx w')) H):YT K [.ref a,.str (tx w),.ref t] H Q E:=⟨a,t,rs,w,w',ss,rfl,h1,h2,h3,h4,h5,h6,q⟩
theorem Vz{w w':List Nat}(h:yd rs w ss=sF w'){i:Nat}{s:Stp}(hs:ss[i]? = sF s){w1:List Nat}(h1:yd rs w (ss.take i)=sF w1):∃w2,yn rs w1 s=sF w2/\yd rs w (ss.take (i+1))=sF w2:=by
 have e:ss=ss.take (i+1) ++ ss.drop (i+1):=(bK _ _).symm
 rw[e,wu] at h
 obtain⟨w2,h2,_⟩:=Option.bind_eq_some_iff.mp h
 refine⟨w2,?_,h2⟩
 rw[zW hs,wu,h1] at h2
 simp only[yd,bU] at h2
 obtain⟨w3,h3,h4⟩:=Option.bind_eq_some_iff.mp h2
 cases h4
 exact h3
theorem nj:zq ["_law_pacts","_law_word_here","_law_steps_here","_law_step","_law_old"] ["_law_pacts","_law_word_here","_law_steps_here"] (zb XL):=⟨rfl,rfl,rfl,by decide +kernel,rfl,by decide +kernel,by decide +kernel⟩
theorem zaN(B:Bt mg)(F:Fun K "_law_end" "_law_end" XL f fd)(mm:Df P w K mg base CX0 1 "_law_used" ["_law_pacts","_law_word_here","_law_step"] [] (w8 K)):FnOk P w K mg base CX0 2 f fd ["_law_pacts","_law_word_here","_law_steps_here"] (YT K):=by
 refine F.ok nj (λvs H Q E h=>?_) (λcdv A outer s H vs Q E hr h=>?_)
 ·obtain⟨a,t,rs,w,w',ss,rfl,_⟩:=h
  rfl
 ·obtain⟨a,t,rs,w,w',ss,rfl,hR,ok,hw,hT,hsl,hwk,q⟩:=h
  refine⟨_,(zi (yE PassesOwn.never rfl (yC (pv 2)) (zC (i:=3) nj.nd rfl (Or.inl rfl))
    (zi (z9 (PW.pt (ub (zI UR (zw ix_tup (pv 3) zg (λ_ _=>rfl)) zg (zK _)) (ub (zI op_ge' (zw ix_tup (pv 3) zg (λ_ _=>rfl)) (zp zX rfl B.len aB (za (pv 0) ze)) (zK _)) (vH (zI UR (zw ix_tup (pv 3) zg (λ_ _=>rfl)) zg (zK _))))))
     (zh (zx wj))
     zD)
    (zi (zt (i:=4) nj.nd rfl (Or.inl rfl) (zw ix_tup (zw ix_list (pv 0) (zw ix_tup (pv 3) zg (λ_ _=>rfl)) (λ_ _=>rfl)) (zB qx zg (xH W9 rfl B.int PySem.Pv.boot_int (za (zw ix_tup (pv 3) zg (λ_ _=>rfl)) ze))) (λ_ _=>rfl)))
    (zi (z9 (PW.pt (ub (zI op_gt (zB op_add (zw ix_tup (pv 3) zg (λ_ _=>rfl)) (zp zX rfl B.len aB (za (pv 4) ze))) (zp zX rfl B.len aB (za (pv 1) ze)) (zK _)) (vH (zI X9 (yk wC (pv 1) (yf (zw ix_tup (pv 3) zg (λ_ _=>rfl))) (yf (zB op_add (zw ix_tup (pv 3) zg (λ_ _=>rfl)) (zp zX rfl B.len aB (za (pv 4) ze))))) (pv 4) (zK _)))))
     (zh (zx wj))
     zD)
    (zh (zt (i:=1) nj.nd rfl (Or.inl rfl) (cl0 mm hr .nil rfl (za (pv 0) (za (pv 1) (za (pv 3) ze))))))))))
   (zh (zx (pv 1)))),?_⟩
  have s16:=ym
  have hR':=hR
  have hT':=hT
  simp only[Is] at hR' hT'
  obtain⟨_,xs,e,hX,hI⟩:=hR'
  cases e
  obtain⟨_,ts,e,hTs,hJ⟩:=hT'
  cases e
  have htl:=hJ.len
  rw[ae] at htl
  refine zj (λσ H'=>H'=H/\∃v3 v4,σ=[sF (.ref a),sF (.str (tx w')),sF (.ref t),v3,v4]) ?_ ?_
  ·rfl'
   refine⟨⟨_,hTs⟩,ForL.by (xs:=ts) (λi σ H'=>H'=H/\∃w1 v3 v4,yd rs w (ss.take i)=sF w1/\w1.length<=60+i * 100/\σ=[sF (.ref a),sF (.str (tx w1)),sF (.ref t),v3,v4]) ⟨rfl,w,_,_,rfl,by lia,rfl⟩ (λi σ H' _ h=>by rw[h.1];exact hTs) ?_ ?_⟩
   ·rintro i x σ H' hx ⟨rfl,w1,v3,v4,hw1,hl1,rfl⟩
    obtain⟨s,ps,hsi,rfl,hqs⟩:=w6 hJ hx
    have hil:=(List.getElem?_eq_some_iff.mp hsi).1
    obtain⟨w2,haf,hw2⟩:=Vz hwk hsi hw1
    have hl2:=WV ok haf
    have hb:=ZQ haf
    obtain⟨p,a1,_,hp⟩:=za7 hI hb.1 hb.2
    have gl:=YH ok s.1.toNat
    have ha:=haf
    rw[yF hb] at ha
    generalize rs.getD s.1.toNat ([],[])=r at *
    have hst:zu w1 s.2.1 (sdl r s.2.2).1=sH:=bw λhst=>by rw[if_neg hst] at ha;cases ha
    obtain⟨_,_,h0,h1⟩:=xl hst
    simp only[xy,bj,bi]
    refine zj (λσ H''=>H''=H'/\σ=[sF (.ref a),sF (.str (tx w1)),sF (.ref t),sF (.ref ps),v4]) ?_ ?_
    ·rfl'
     exact⟨_,hqs,_,rfl,_,rfl,xh (λh=>absurd hb.1 (by lia)) λ_=>⟨_,hqs,_,rfl,_,.inl ⟨_,hX,rfl⟩,_,rfl,xh (λh=>absurd hb.2 (by have:=hI.len;rw[ae] at this;lia)) λ_=>⟨_,hqs,_,rfl,_,rfl,xh (λh=>absurd h0 (by lia)) λ_=>trivial⟩⟩⟩
    rintro σ G ⟨rfl,rfl⟩
    refine zj (λσ H''=>H''=G/\σ=[sF (.ref a),sF (.str (tx w1)),sF (.ref t),sF (.ref ps),sF (.str (tx (sdl r s.2.2).1))]) ?_ ?_
    ·rfl'
     refine⟨_,hqs,_,rfl,_,_,rfl,hX,_,a1,_,hqs,_,rfl,.inr ⟨_,rfl,_,rfl,_,hp,?_⟩⟩
     cases s.2.2 <;> rfl
    rintro σ G1 ⟨rfl,rfl⟩
    refine zj (λσ H''=>H''=G1/\σ=[sF (.ref a),sF (.str (tx w1)),sF (.ref t),sF (.ref ps),sF (.str (tx (sdl r s.2.2).1))]) ?_ ?_
    ·rfl'
     have hol:(sdl r s.2.2).1.length<=100:=by
      cases s.2.2
      ·exact gl.2
      ·exact gl.1
     refine⟨_,hqs,_,rfl,by lia,_,rfl,by lia,xh (λh=>absurd h1 (by lia)) λ_=>⟨_,hqs,_,rfl,_,rfl,_,hqs,_,rfl,by lia,_,rfl,by lia,xh (λh=>absurd ?_ h) λ_=>trivial⟩⟩
     have hst':=hst
     unfold zu at hst'
     rw[decide_eq_true_eq] at hst'
     rw[ko _ h0 (by lia) (by lia)]
     have e:(s.2.1+((sdl r s.2.2).1.length:Int) - s.2.1).toNat=(sdl r s.2.2).1.length:=by lia
     rw[e]
     exact hst'.2.2
    rintro σ G2 ⟨rfl,rfl⟩
    rfl'
    refine qt hR ok (by lia) hqs haf ⟨rfl,w2,hw2,by lia,rfl⟩
   ·rintro σ H' ⟨rfl,w1,v3,v4,hw1,hl1,rfl⟩
    rw[htl,aQ,hwk] at hw1
    cases hw1
    exact⟨rfl,_,_,rfl⟩
  rintro σ H2 ⟨rfl,v3,v4,rfl⟩
  rfl'
  exact q
theorem zcY{X:Cx}{k j:Nat}{C:oP}{ps:List oW}{sp:Sp}{e:oZ}{es:List oZ}{t:TA}{pos p:pS}{x:oW}(hx:XE X E)(D:DMk X.prog X.w X.K X.mg X.base (CXx X.prog X.w) k C ps sp)(hr:Room j X.A)(hg:Gl X x)(hm:X.mg x=sF (.ref C))(ha:PA X (e::es) t)(hdb:(x == ("__debug__" : oW))=sI:=by decide)(he:oM (e::es) X.env=(sI,eval e X.env)::oM es X.env:=by rfl)
  (hpl:(pj pos (oM es X.env)).any (·.1)=sI:=by rfl) (hj:k+1<=j:=by decide):PE X (.Call (.Name x p) (e::es) [] pos) (UF C sp [] E t):=by
 obtain⟨f,fd,M,F,hb⟩:=D.ex
 exact V3 M F (hr.mono hj) hg hm hb .nil (XF hx) ha hdb he hpl
def kz(K:oO)(CO CR CW:oP):Sp:=λvs H Q _=>∃(z:Int) (l:List Nat) (D:oP) (ws:List Int),vs=[.int z,.str (tx l),.ref D]/\0<=z/\z<3/\kO l=sH/\H D=sF (.lst (ws.map V.int))/\ws.length=l.length/\(∀n ∈ ws,1<=n/\n<=1000000)/\∀(o:oP) (H':Hp),Same H H'->OrdAt CO CR CW H' o z.toNat l ws->Q (.ref o) H'
theorem QF:zq ["_law_kind","_law_letters_here","_law_weights"] ["_law_kind","_law_letters_here","_law_weights"] (zb ui):=⟨rfl,rfl,rfl,by decide +kernel,rfl,by decide +kernel,by decide +kernel⟩
theorem QG{f CO CR CW:oP}(B:Bt mg)(T:TWS P w K mg base CO CR CW)(F:Fun K "_law_order" "_law_order" ui f fd) : FnOk P w K mg base CX0 6 f fd ["_law_kind","_law_letters_here","_law_weights"] (kz K CO CR CW):=by
 refine F.ok QF (λvs H Q E h=>?_) (λcdv A outer s H vs Q E hr h=>?_)
 ·obtain⟨z,l,D,ws,rfl,_⟩:=h
  rfl
 ·obtain⟨z,l,D,ws,rfl,z0,z3,hg,hD,hwl,hwb,q⟩:=h
  refine⟨_,(zN (z9 (zI qG (pv 0) zg (zK _))
    (zh (zx (mkC T.mR hr rfl T.gR (za (pv 1) ze))))
    zD)
   (zN (z9 (zI qG (pv 0) zg (zK _))
    (zh (zx (zcY xe0 T.mW hr rfl T.gW (za (pv 1) (za (xH xo rfl B.list PySem.Pv.boot_list (za (pv 2) ze)) ze)))))
    zD)
   (zh (zx (mkC T.mO hr rfl T.gO (za (pv 1) ze)))))),?_⟩
  have s16:=ym
  ac_rfl
  refine xh (λh1=>?_) λh1=>xh (λh2=>?_) λh2=>?_
  ·intro x dx hx hdx hne
   have sd:=zd (o:=.own x) hdx
   refine⟨x,CR,dx,l,rfl,hg,T.cR,T.lR,zf,rfl,q x _ (λb o' e=>?_) ⟨dx,.inr (.inl ⟨by rw[h1];rfl,zf⟩)⟩⟩
   rw[zo (zH e hx),zo (zH e hx)]
   exact sd _ _ e
  ·refine⟨_,.inl (SqL.of hD),λE1 hE=>?_⟩
   have se:=zd (o:=.lst (ws.map V.int)) hE
   intro x dx hx hdx hne
   have sd:=zd (o:=.own x) hdx
   have k1:∀b o',(upd H E1 (.lst (ws.map V.int))) b=sF o'->(upd (upd (upd H E1 (.lst (ws.map V.int))) dx (.own x)) x (.ins CW dx [])) b=sF o':=λb o' e=>by
    rw[zo (zH e hx)]
    exact sd _ _ e
   exact⟨x,dx,E1,l,ws,rfl,hg,SqL.of (k1 _ _ zf),hwl,hwb,zf,λw H' hw hwx kp ht hx'=>⟨rfl,q x _ (λb o' e=>kp b o' (zH (se _ _ e) hx) (k1 b o' (se _ _ e))) ⟨dx,.inr (.inr ⟨by lia,hwl,w,hx',ht⟩)⟩⟩⟩
  ·intro x dx hx hdx hne
   have sd:=zd (o:=.own x) hdx
   refine⟨x,CO,dx,l,rfl,hg,T.cO,T.lO,zf,rfl,q x _ (λb o' e=>?_) ⟨dx,.inl ⟨by lia,zf⟩⟩⟩
   rw[zo (zH e hx),zo (zH e hx)]
   exact sd _ _ e
def Yp:Sp:=λvs H Q _=>∃(c:Int),vs=[.int c]/\uq c/\∀(k:Int) (l:List Nat) (ws:List Int) (p W:oP) (H':Hp),0<=k->k<3->kO l=sH->ws.length=l.length->(∀n ∈ ws,1<=n/\n<=1000000)->Same H H'->H' p=sF (.tup [.int k,.str (tx l),.ref W])->H' W=sF (.lst (ws.map V.int))->Q (.ref p) H'
theorem nz:zq ["_law_cell_here","_law_letters_here","_law_number"] ["_law_cell_here"] (zb jw):=⟨rfl,rfl,rfl,by decide +kernel,rfl,by decide +kernel,by decide +kernel⟩
theorem J5(B:Bt mg)(F:Fun K "_law_draw" "_law_draw" jw f fd)(oa:Df P w K mg base CX0 2 "_law_letters" ["_law_cell_here","_law_many"] [] w9)(fY:Df P w K mg base CX0 1 "_law_mixed" ["_law_cell_here","_law_turn"] [] xx):FnOk P w K mg base CX0 3 f fd ["_law_cell_here"] Yp:=by
 refine F.ok nz (λvs H Q E h=>?_) (λcdv A outer s H vs Q E hr h=>?_)
 ·obtain⟨c,rfl,_⟩:=h
  rfl
 ·obtain⟨c,rfl,hc,q⟩:=h
  refine⟨_,(zi (zt (i:=1) nz.nd rfl (Or.inl rfl) (cl0 oa hr .nil rfl (za (pv 0) (za (zB op_add zg (zB yJ (zB yT (pv 0) zg) zg)) ze))))
   (zi (zt (i:=2) nz.nd rfl (Or.inl rfl) (cl0 fY hr .nil rfl (za (pv 0) (za zg ze))))
   (zh (zx (ya (za (zB yJ (pv 0) zg) (za (pv 1) (za (yk sl_list (xU (za (zB op_add zg (zB yJ (pv 2) zg)) (za (zB op_add zg (zB yJ (zB yT (pv 2) zg) zg)) (za (zB op_add zg (zB yJ (zB yT (pv 2) zg) zg)) ze)))) xZ (yf (zp zX rfl B.len aB (za (pv 1) ze)))) ze)))))))),?_⟩
  have s16:=ym
  have s16:=ym
  refine zj (λσ H'=>H'=H/\∃l:List Nat,l.length<=3/\kO l=sH/\σ=[sF (.int c),sF (.str (tx l)),sG]) ?_ ?_
  ·rfl'
   have e0:=be (c / 3) (b:=2) (by decide)
   have e1:=ba (c / 3) (b:=2) (by decide)
   exact⟨⟨by decide,by decide⟩,by decide,Yq hc (by lia) (by lia) λl h1 h2 h3=>⟨rfl,l,by lia,decide_eq_true ⟨by lia,by lia,h3,h2⟩,rfl⟩⟩
  rintro σ H1 ⟨rfl,l,l3,hg,rfl⟩
  refine zj (λσ H'=>H'=H1/\∃z:Int,σ=[sF (.int c),sF (.str (tx l)),sF (.int z)]) ?_ ?_
  ·rfl'
   exact xn hc (by decide) (by decide) λz _=>⟨rfl,z,rfl⟩
  rintro σ H2 ⟨rfl,z,rfl⟩
  rfl'
  refine⟨by decide,by decide,⟨by decide,by decide⟩,by decide,⟨by decide,by decide⟩,by decide,by lia,λp hp=>⟨by lia,_,SqL.of zf,λp1 hp1=>⟨by lia,λp2 hp2=>?_⟩⟩⟩
  have l1:=(of_decide_eq_true hg).1
  have e:Jk [V.int (1+z % 3),V.int (1+z / 3 % 3),V.int (1+z / 9 % 3)] sG (sF (l.length:Int))=([1+z % 3,1+z / 3 % 3,1+z / 9 % 3].take l.length).map V.int:=by
   rcases (show l.length=1\/l.length=2\/l.length=3 by lia) with h | h | h <;> rw[h] <;> rfl
  refine q (c % 3) l ([1+z % 3,1+z / 3 % 3,1+z / 9 % 3].take l.length) p2 p1 _ (be _ (by decide)) (ba _ (by decide)) hg ?_ (λn hn=>?_) ((zd hp).trans ((zd hp1).trans (zd hp2))) zf ?_
  ·rw[aK]
   show min l.length 3=l.length
   lia
  ·have hn':=bu hn
   have m:∀y:Int,0<=y % 3/\y % 3<3:=λy=>⟨be _ (by decide),ba _ (by decide)⟩
   have m0:=m z
   have m1:=m (z / 3)
   have m2:=m (z / 9)
   simp only[dm,List.not_mem_nil,or_false] at hn'
   rcases hn' with rfl | rfl | rfl <;> lia
  ·rw[zd hp2 _ _ zf,e]
structure KXs(K:oO):Prop where
 ss:aT K (.type "str") (.type "str")=sF sH
def Yu(K:oO):Sp:=λvs H Q _=>∃(a:oP) (es:List Ent),vs=[.ref a]/\Is K H (.lst (es.map dE)) (.ref a)/\Q (.bl sH) H
theorem nk:zq ["_law_found","_law_entry"] ["_law_found"] (zb wg):=⟨rfl,rfl,rfl,by decide +kernel,rfl,by decide +kernel,by decide +kernel⟩
theorem X5(B:Bt mg)(T:TLs K)(TX:KXs K)(F:Fun K "_law_entries" "_law_entries" wg f fd)(ot:Df P w K mg base CX0 2 "_law_steps" ["_law_found"] [] (jW K)):FnOk P w K mg base CX0 3 f fd ["_law_found"] (Yu K):=by
 refine F.ok nk (λvs H Q E h=>?_) (λcdv A outer s H vs Q E hr h=>?_)
 ·obtain⟨a,es,rfl,_⟩:=h
  rfl
 ·obtain⟨a,es,rfl,hA,q⟩:=h
  refine⟨_,(zi (z9 (yo (xz (xG rfl B.isi (pv 0) rfl B.list PySem.Pv.boot_list) (λ_=>rfl)))
    (zh (zx xO))
    zD)
   (zi (yE PassesOwn.never rfl (yC (pv 0)) (zC (i:=1) nk.nd rfl (Or.inl rfl))
    (zi (z9 (PW.pt (ub (yo (xz (xG rfl B.isi (pv 1) rfl B.tuple PySem.Pv.boot_tuple) (λ_=>rfl))) (ub (zI X9 (zp zX rfl B.len aB (za (pv 1) ze)) zg (zK _)) (vH (yo (xz (cl0 ot hr .nil rfl (za (zw ix_tup (pv 1) zg (λ_ _=>rfl)) ze)) (λ_=>rfl)))))))
     (zh (zx xO))
     zD)
    (zh (z9 (PW.pt (ub (yo (xz (xG rfl B.isi (zw ix_tup (pv 1) zg (λ_ _=>rfl)) rfl B.str PySem.Pv.boot_str) (λ_=>rfl))) (vH (yo (xz (xG rfl B.isi (zw ix_tup (pv 1) zg (λ_ _=>rfl)) rfl B.str PySem.Pv.boot_str) (λ_=>rfl))))))
     (zh (zx xO))
     zD))))
   (zh (zx xO)))),?_⟩
  have s16:=ym
  simp only[Is] at hA
  obtain⟨_,xs,e,hX,hI⟩:=hA
  cases e
  refine zj (λσ H'=>H'=H/\σ=[sF (.ref a),sG]) ?_ ?_
  ·rfl'
   exact⟨_,.inr (.inr (.inl ⟨_,_,rfl,rfl,hX⟩)),sH,T.ll,Uy trivial⟩
  rintro σ H1 ⟨rfl,rfl⟩
  refine zj (λσ H'=>H'=H1/\∃v1,σ=[sF (.ref a),v1]) ?_ ?_
  ·rfl'
   refine⟨⟨_,hX⟩,ForL.by (xs:=xs) (λi σ H'=>H'=H1/\∃v1,σ=[sF (.ref a),v1]) ⟨rfl,_,rfl⟩ (λi σ H' _ h=>by rw[h.1];exact hX) ?_ λσ H' h=>h⟩
   rintro i x σ H' hx ⟨rfl,v1,rfl⟩
   obtain⟨e,pe,se,hei,rfl,hqe,hse⟩:=Y9 hI hx
   simp only[xy,bj,bi]
   refine zj (λσ H''=>H''=H'/\σ=[sF (.ref a),sF (.ref pe)]) ?_ ?_
   ·rfl'
    exact⟨_,.inr (.inr (.inr ⟨_,_,rfl,rfl,hqe⟩)),sH,T.tt,Uy ⟨_,.inr ⟨_,hqe,rfl⟩,xh (λh=>absurd rfl h) λ_=>⟨_,hqe,_,rfl,se,e.2.2,rfl,hse,sH,rfl,Uy rfl⟩⟩⟩
   rintro σ G ⟨rfl,rfl⟩
   rfl'
   exact⟨_,hqe,_,rfl,_,.inl (.str _),sH,TX.ss,Uy ⟨_,hqe,_,rfl,_,.inl (.str _),sH,TX.ss,Uy trivial⟩⟩
  rintro σ H2 ⟨rfl,v1,rfl⟩
  rfl'
  exact q
theorem ThinL.pairs{l:List Nat}{zs bs:List Ent}(h:ThinL k l ns zs)(hp:zc bs=zc zs)(hE:∀e ∈ bs,EB l e):ThinL k l ns bs:=by
 have key:∀(i:Nat) (a:Ent),bs[i]? = sF a->∃z,zs[i]? = sF z/\z.1=a.1/\z.2.1=a.2.1:=λi a ha=>by
  have h1:(zc bs)[i]? = sF (a.1,a.2.1):=by unfold zc;rw[aG,ha];rfl
  rw[hp] at h1
  unfold zc at h1
  rw[aG] at h1
  obtain⟨z,hz,e⟩:=Option.map_eq_some_iff.mp h1
  exact⟨z,hz,(Prod.ext_iff.mp e).1,(Prod.ext_iff.mp e).2⟩
 refine⟨⟨hE,λe he=>?_⟩,λi j a b ha hb hij=>?_,λi j a b ha hb hij=>?_,λi j a b ha hb=>?_⟩
 ·obtain⟨i,hi⟩:=List.mem_iff_getElem?.mp he
  obtain⟨z,hz,e1,e2⟩:=key i e hi
  rw[<- e1,<- e2]
  exact h.rl.lt z (af hz)
 all_goals
  obtain⟨x,hx,e1,e2⟩:=key i a ha
  obtain⟨y,hy,f1,f2⟩:=key j b hb
  rw[<- f1]
 ·rw[<- e1]
  exact h.up i j x y hx hy hij
 ·rw[<- e1]
  exact h.no1 i j x y hx hy hij
 ·rw[<- e2]
  exact h.no2 i j x y hx hy
abbrev zdr(mg:oW->Option oQ):Prop:=mg "any" = sG
structure TNT(K:oO)(mg:oW->Option oQ)(C:oP):Prop where
 xi:XI K C
 g:mg "NotTurned" = sF (.ref C)
 na:NoAttr K C "number"
theorem ut:zq ["self","number"] ["self","number"] (zb z6):=⟨rfl,rfl,rfl,by decide +kernel,rfl,by decide +kernel,by decide +kernel⟩
theorem uh{f C:oP}(T:TNT K mg C)(F:Fun K "__init__" "NotTurned.__init__" z6 f fd):FnOk P w K mg base CX0 1 f fd ["self","number"] (vJ C "number"):=by
 refine F.ok ut (λvs H Q E h=>?_) (λcdv A outer s H vs Q E hr h=>?_)
 ·obtain⟨x,v,rfl,_⟩:=h
  rfl
 ·obtain⟨x,v,rfl,hx,q⟩:=h
  refine⟨_,(zh (Vh (pv 0) (pv 1) rfl)),?_⟩
  simp only[Kd]
  rfl'
  exact⟨C,hx,T.xi.toXC,T.na,q⟩
structure DNT(P:oV)(w:oX)(K:oO)(mg:oW->Option oQ)(base:pb)(C:oP):Prop extends TNT K mg C where
 ini:∃f fd,ah K (.ref C) "__init__" = sF (sF (.ref f))/\bg K (.ref f)=sH/\FnOk P w K mg base CX0 1 f fd ["self","number"] (vJ C "number")/\Binds K fd ["self","number"] []
structure zas(K:oO)(mg:oW->Option oQ)(CH:oP):Prop where
 cl:Cls K CH
 g:mg "System" = sF (.ref CH)
 no:NoAttr K CH "order"
 nr:NoAttr K CH "rules"
noncomputable def wS(k:Nat)(l:List Nat)(ns:List Int):List zr->Nat->Option Nat
 | [],_=>sG
 | r::rs,i=>if zL k l ns r.2 r.1=sH then wS k l ns rs (i+1) else sF i
theorem YU{l:List Nat}:∀{ps:List zr} {j i:Nat} {r:zr},(∀(m:Nat) (p:zr),m<i->ps[m]? = sF p->zL k l ns p.2 p.1=sH)->ps[i]? = sF r->zL k l ns r.2 r.1=sI->wS k l ns ps j=sF (j+i)
 | [],_,_,_,_,h,_=>by simp at h
 | p::ps,j,0,r,_,h,hl=>by
  cases h
  rw[wS,hl,if_neg aF]
  rfl
 | p::ps,j,i+1,r,hb,h,hl=>by
  rw[wS,if_pos (hb 0 p (Nat.succ_pos _) rfl),YU (i:=i) (λm q hm e=>hb (m+1) q (by lia) e) h hl]
  congr 1
  lia
theorem uk{l:List Nat}:∀{ps:List zr} {j:Nat},(∀(m:Nat) (p:zr),ps[m]? = sF p->zL k l ns p.2 p.1=sH)->wS k l ns ps j=sG
 | [],_,_=>rfl
 | p::ps,j,hb=>by
  rw[wS,if_pos (hb 0 p rfl)]
  exact uk λm q e=>hb (m+1) q e
def InL(l:List Nat)(ps:List zr):Prop:=∀p ∈ ps,p.1.length<=1000/\p.2.length<=1000/\(∀c ∈ p.1,c ∈ l)/\∀c ∈ p.2,c ∈ l
def u7(K:oO)(CO CR CW CT CH:oP):Sp:=λvs H Q E=>∃(x dx o a:oP) (k:Nat) (l:List Nat) (ns:List Int) (ps:List zr) (xs:List V),vs=[.ref x,.ref o,.ref a]/\H x=sF (.ins CH dx [])/\OrdAt CO CR CW H o k l ns/\OG l ns k/\H a=sF (.lst xs)/\Iss K H (ps.map dR) xs/\InL l ps /\
 (∀i,wS k l ns ps 0=sF i->∀H1,Same H H1->∀d H',zbK H1 d "number" (.int (i:Nat)) H'->E (.ref CT) (sF d) H') /\
 (wS k l ns ps 0=sG->∀(q:oP) (H':Hp),(∀b o',b≠x->H b=sF o'->H' b=sF o')->H' x=sF (.ins CH dx [("order",.ref o),("rules",.ref q)])->H' q=sF (.lst xs)->H q=sG->Q .non H')
theorem iG:zq ["self","order","rules","number","rule"] ["self","order","rules"] (zb yD):=⟨rfl,rfl,rfl,by decide +kernel,rfl,by decide +kernel,by decide +kernel⟩
theorem jo{f CO CR CW CT CH:oP}(B:Bt mg)(T:DNT P w K mg base CT)(TS:zas K mg CH)(DBk:DB P w K mg base CO CR CW)(F:Fun K "__init__" "System.__init__" yD f fd) : FnOk P w K mg base (CXx P w) 5 f fd ["self","order","rules"] (u7 K CO CR CW CT CH):=by
 obtain⟨fi,fdi,hi,hfn,Fi,Bi⟩:=T.ini
 refine Fun.okX F iG (λvs H Q E h=>?_) (λcdv A outer s H vs Q E hr hx h=>?_)
 ·obtain⟨x,dx,o,a,k,l,ns,ps,xs,rfl,_⟩:=h
  rfl
 ·obtain⟨x,dx,o,a,k,l,ns,ps,xs,rfl,hx0,ho,hG,hA,hI,hP,q1,q2⟩:=h
  refine⟨_,(zi (yE PassesOwn.leaving rfl (va rfl B.enum (za (pv 2) ze)) (uA (n:=2) rfl (z8 (zC (i:=3) iG.nd rfl (Or.inl rfl)) (z8 (zC (i:=4) iG.nd rfl (Or.inl rfl)) wM)))
    (zh (z9 (yo (xz (K8 DBk hr (pv 1) (za (zw ix_tup (pv 4) zg (λ_ _=>rfl)) (za (zw ix_tup (pv 4) zg (λ_ _=>rfl)) ze))) (λ_=>rfl)))
     (zh (Zo hx rfl T.xi.toXC hi hfn Fi (hr.mono (by decide)) Bi rfl T.g (za (pv 3) ze)))
     zD)))
   (zi (Xf (pv 0) (pv 1) rfl)
   (zh (Xf (pv 0) (xH xo rfl B.list PySem.Pv.boot_list (za (pv 2) ze)) rfl)))),?_⟩
  have s16:=ym
  refine zj (λσ H'=>Same H H'/\wS k l ns ps 0=sG/\∃v3 v4,σ=[sF (.ref x),sF (.ref o),sF (.ref a),v3,v4]) ?_ ?_
  ·ac_rfl
   refine⟨⟨_,SqL.of hA⟩,ForEL.by (xs:=xs) (λi σ H'=>Same H H'/\(∀(j:Nat) (p:zr),j<i->ps[j]? = sF p->zL k l ns p.2 p.1=sH)/\∃v3 v4,σ=[sF (.ref x),sF (.ref o),sF (.ref a),v3,v4]) ⟨Same.refl _,λj p h=>absurd h (cL j),_,_,rfl⟩ ?_ ?_ ?_⟩
   ·rintro i σ H' _ ⟨hs,_⟩
    exact SqL.of (hs _ _ hA)
   ·rintro i y σ H' p hy ⟨hs,hb,v3,v4,rfl⟩ hpn
    obtain⟨r,pr,hri,rfl,hqr⟩:=hI.getR hy
    have hm:=hP r (af hri)
    have s2:=hs.trans (zd (o:=.tup [.int (i:Nat),.ref pr]) hpn)
    have ho2:=ho.same s2
    have hq2:=zl s2 hqr
    obtain⟨C,dy,fs,hf,hoC,hn,_⟩:=ho2.fam
    have hn1:fs.lookup ("before" : oW)=sG:=hn _ (by decide) (by decide)
    ac_rfl
    refine⟨_,SqT.of zf,rfl,_,_,rfl,_,_,rfl,rfl,C,hf,dy,fs,hoC,hn1,_,rfl,_,hq2,_,rfl,_,rfl,_,hq2,_,rfl,o,k,l,ns,r.2,r.1,rfl,ho2,hG,hm.2.1,hm.1,hm.2.2.2,hm.2.2.1,λH3 s3=>?_⟩
    have s16:=ym
    refine⟨_,rfl,xh (λe=>⟨by lia,Vx (q1 i (by have:=YU (j:=0) hb hri e;simpa using this) H3 (s2.trans s3))⟩) λe=>⟨s2.trans s3,λj p' hj hp'=>?_⟩⟩
    by_cases hj':j<i
    ·exact hb j p' hj' hp'
    ·have:j=i:=by lia
     rw[this,hri] at hp'
     cases hp'
     simpa using e
   ·rintro σ H' ⟨hs,hb,v3,v4,rfl⟩
    have hxl:=hI.len
    rw[ae] at hxl
    exact⟨hs,uk λm p e=>hb m p (by have:=(List.getElem?_eq_some_iff.mp e).1;lia) e,v3,v4,rfl⟩
  rintro σ H1 ⟨s1,hf,v3,v4,rfl⟩
  refine zj (λσ H'=>H'=upd H1 x (.ins CH dx [("order",.ref o)])/\σ=[sF (.ref x),sF (.ref o),sF (.ref a),v3,v4]) ?_ ?_
  ·ac_rfl
   exact⟨_,_,_,s1 _ _ hx0,TS.cl,TS.no,by decide,rfl⟩
  rintro σ H2 ⟨rfl,rfl⟩
  ac_rfl
  have hax:a≠x:=λe=>by rw[e,hx0] at hA;cases hA
  refine⟨xs,.inl (SqL.of (by rw[zo hax];exact s1 _ _ hA)),λq hq=>?_⟩
  have hqx:q≠x:=λe=>by rw[e,zf] at hq;cases hq
  rw[zo hqx] at hq
  have hqH:H q=sG:=by
   cases e:H q with
   | none=>rfl
   | some o'=>rw[s1 _ _ e] at hq;cases hq
  refine⟨CH,dx,_,by rw[zo hqx.symm,zf],TS.cl,TS.nr,by show 1<1000;decide,q2 hf q _ (λb o' hb e=>?_) zf (by rw[zo hqx,zf]) hqH⟩
  rw[zo hb,zo (λz=>by rw[z,hqH] at e;cases e),zo hb]
  exact s1 _ _ e
def UC(K:oO)(CH:oP)(H:Hp)(y o q:oP)(ps:List zr):Prop:=∃dx xs,H y=sF (.ins CH dx [("order",.ref o),("rules",.ref q)])/\H q=sF (.lst xs)/\Iss K H (ps.map dR) xs
noncomputable def yY(l m:List Nat)(k:Nat):Bool:=decide ((l.drop k).take m.length=m.take (l.length - k))
noncomputable def lf(rs:List zr)(i:Nat):List Nat:=(rs.getD i ([],[])).1
theorem wE{i:Nat}{r:zr}(h:rs[i]? = sF r):lf rs i=r.1:=by unfold lf;rw[ac,h];rfl
noncomputable def ZU(rs:List zr)(i j n:Nat):List N3:=((aY n).filter λk=>(decide (i≠j) || decide (k≠0)) && yY (lf rs i) (lf rs j) k).map λk=>(i,j,k)
noncomputable def ovI(rs:List zr)(i m:Nat):List N3:=(aY m).flatMap λj=>ZU rs i j (lf rs i).length
noncomputable def ovA(rs:List zr)(m:Nat):List N3:=(aY m).flatMap λi=>ovI rs i rs.length
theorem qW(rs:List zr)(i j n:Nat):ZU rs i j (n+1)=ZU rs i j n ++ (if ((decide (i≠j) || decide (n≠0)) && yY (lf rs i) (lf rs j) n)=sH then [(i,j,n)] else []):=by
 unfold ZU
 rw[cM,cN,aH]
 congr 1
 simp only[ef,dc]
 split <;> rfl
theorem uP(rs:List zr)(i m:Nat):ovI rs i (m+1)=ovI rs i m ++ ZU rs i m (lf rs i).length:=by
 unfold ovI
 rw[cM,cY]
 simp
theorem j9(rs:List zr)(m:Nat):ovA rs (m+1)=ovA rs m ++ ovI rs m rs.length:=by
 unfold ovA
 rw[cM,cY]
 simp
theorem uQ(rs:List zr)(i j n:Nat):(ZU rs i j n).length<=n:=by
 unfold ZU
 rw[ae]
 have:=cQ (λk=>(decide (i≠j) || decide (k≠0)) && yY (lf rs i) (lf rs j) k) (aY n)
 rw[dj] at this
 exact this
theorem zbp(h:jj rs)(i:Nat):(lf rs i).length<=100:=by
 cases e:rs[i]? with
 | none=>unfold lf;rw[ac,e];exact aJ _
 | some r=>rw[wE e];exact (h.2 r (af e)).1
theorem Yn(h:jj rs)(i m:Nat):(ovI rs i m).length<=m * 100:=by
 induction m with
 | zero=>exact aJ _
 | succ m ih =>
  rw[uP,am]
  have h1:=uQ rs i m (lf rs i).length
  have h2:=zbp h i
  lia
theorem Ug(h:jj rs)(m:Nat):(ovA rs m).length<=m * 3000:=by
 induction m with
 | zero=>exact aJ _
 | succ m ih =>
  rw[j9,am]
  have h1:=Yn h m rs.length
  have h2:=h.1
  lia
theorem XY(l m:List Nat)(k:Nat):yY l m k=sH ↔ ∀j,j<m.length->k+j<l.length->l[k+j]? = m[j]?:=by
 unfold yY
 rw[decide_eq_true_eq]
 constructor
 ·intro h j hj hk
  have h1:((l.drop k).take m.length)[j]? = (m.take (l.length - k))[j]?:=by rw[h]
  rw[bx hj,e9,bx (by lia)] at h1
  exact h1
 ·intro h
  refine List.ext_getElem? λj=>?_
  by_cases hj:j<m.length
  ·rw[bx hj,e9]
   by_cases hk:k+j<l.length
   ·rw[bx (by lia)]
    exact h j hj hk
   ·rw[bz (by lia),bz (by rw[aK];lia)]
  ·rw[bz (by rw[aK];lia),bz (by rw[aK];lia)]
def qf:Sp:=λvs H Q _=>∃(l m:List Nat) (k:Nat),vs=[.str (tx l),.str (tx m),.int (k:Nat)]/\l.length<=1000/\m.length<=1000/\k<=l.length/\Q (.bl (yY l m k)) H
theorem Zr{l m:List Nat}(h1:l.length<=1000)(h2:m.length<=1000)(h3:k<=l.length)(h:Q (.bl (yY l m k)) H):qf [.str (tx l),.str (tx m),.int (k:Nat)] H Q E:=⟨l,m,k,rfl,h1,h2,h3,h⟩
theorem UO:zq ["one","other","place"] ["one","other","place"] (zb uf):=⟨rfl,rfl,rfl,by decide +kernel,rfl,by decide +kernel,by decide +kernel⟩
theorem U3(B:Bt mg)(F:Fun K "agree" "agree" uf f fd) : FnOk P w K mg base CX0 1 f fd ["one","other","place"] qf:=by
 refine F.ok UO (λvs H Q E h=>?_) (λcdv A outer s H vs Q E hr h=>?_)
 ·obtain⟨l,m,k,rfl,_⟩:=h
  rfl
 ·obtain⟨l,m,k,rfl,hl,hm,hk,q⟩:=h
  refine⟨_,(zh (zx (ug qG (yk wC (pv 0) (yf (pv 2)) (yf (zB op_add (pv 2) (zp zX rfl B.len aB (za (pv 1) ze))))) (yk wC (pv 1) xZ (yf (zB qx (zp zX rfl B.len aB (za (pv 0) ze)) (pv 2)))) (zK _)))),?_⟩
  have s16:=ym
  rfl'
  refine⟨by lia,by lia,by lia,by lia,?_⟩
  rw[QX _ (by lia) (by lia),ZB _ (by lia)]
  have e1:((k:Int)+(m.length:Int) - (k:Int)).toNat=m.length:=by lia
  have e2:((l.length:Int) - (k:Int)).toNat=l.length - k:=by lia
  rw[e1,e2]
  exact q
def wA(K:oO):Sp:=λvs H Q _=>∃(a:oP) (rs:List zr),vs=[.ref a]/\Is K H (.lst (rs.map dR)) (.ref a)/\jj rs/\∀D H',H D=sG->Same H H'->LsA K H' D ((ovA rs rs.length).map d3)->Q (.ref D) H'
theorem ZX{a:oP}(h1:Is K H (.lst (rs.map dR)) (.ref a))(h2:jj rs)(h:∀D H',H D=sG->Same H H'->LsA K H' D ((ovA rs rs.length).map d3)->Q (.ref D) H'):wA K [.ref a] H Q E:=⟨a,rs,rfl,h1,h2,h⟩
theorem gn:zq ["rules","found","i","one","j","other","place"] ["rules"] (zb xA):=⟨rfl,rfl,rfl,by decide +kernel,rfl,by decide +kernel,by decide +kernel⟩
theorem YF(B:Bt mg)(F:Fun K "overlaps" "overlaps" xA f fd)(ou:Df P w K mg base CX0 1 "agree" ["one","other","place"] [] qf):FnOk P w K mg base CX0 2 f fd ["rules"] (wA K):=by
 refine F.ok gn (λvs H Q E h=>?_) (λcdv A outer s H vs Q E hr h=>?_)
 ·obtain⟨a,rs,rfl,_⟩:=h
  rfl
 ·obtain⟨a,rs,rfl,hR,ok,q⟩:=h
  refine⟨_,(zN (zt (i:=1) gn.nd rfl (Or.inl rfl) (xU ze))
   (zN (yE PassesOwn.never rfl (va rfl B.enum (za (pv 0) ze)) (uA (n:=2) rfl (z8 (zC (i:=2) gn.nd rfl (Or.inl rfl)) (z8 (zC (i:=3) gn.nd rfl (Or.inl rfl)) wM)))
    (zh (yE PassesOwn.never rfl (va rfl B.enum (za (pv 0) ze)) (uA (n:=2) rfl (z8 (zC (i:=4) gn.nd rfl (Or.inl rfl)) (z8 (zC (i:=5) gn.nd rfl (Or.inl rfl)) wM)))
     (zh (yE PassesOwn.never rfl (WL rfl B.range (za (kj (zI qG (pv 2) (pv 4) (zK _)) zg zg) (za (zp zX rfl B.len aB (za (zw ix_tup (pv 3) zg (λ_ _=>rfl)) ze)) ze))) (zC (i:=6) gn.nd rfl (Or.inl rfl))
      (zh (z9 (xz (cl0 ou hr .nil rfl (za (zw ix_tup (pv 3) zg (λ_ _=>rfl)) (za (zw ix_tup (pv 5) zg (λ_ _=>rfl)) (za (pv 6) ze)))) (λ_=>rfl))
       (zh (xM (vM bc bB bC yU (pv 1) (za (ya (za (pv 2) (za (pv 4) (za (pv 6) ze)))) ze))))
       zD)))))))
   (zh (zx (pv 1))))),?_⟩
  have s16:=ym
  rfl'
  simp only[Is] at hR
  obtain⟨_,xs,e,hX,hI⟩:=hR
  cases e
  refine⟨by lia,λD hD=>⟨⟨_,(zd hD).seq hX⟩,ForEL.by (xs:=xs) (λi σ H'=>∃v2 v3 v4 v5 v6,σ=[sF (.ref a),sF (.ref D),v2,v3,v4,v5,v6]/\Same H H'/\LsA K H' D ((ovA rs i).map d3)) ⟨sG,sG,sG,sG,sG,rfl,zd hD,LsA.nil⟩ ?_ ?_ ?_⟩⟩
  ·rintro i σ H' hi ⟨v2,v3,v4,v5,v6,rfl,hs,_⟩
   exact hs.seq hX
  ·rintro i x σ H' p hx ⟨v2,v3,v4,v5,v6,rfl,hs,hL⟩ hp
   obtain⟨r,pr,hri,rfl,hqr⟩:=hI.getR hx
   have er:=wE hri
   have hr1:=(ok.2 r (af hri)).1
   rfl'
   refine⟨_,SqT.of zf,rfl,_,_,rfl,_,_,rfl,rfl,⟨_,((hs.trans (zd hp)).seq hX)⟩,ForEL.by (xs:=xs) (λj σ H''=>∃v4 v5 v6,σ=[sF (.ref a),sF (.ref D),sF (.int (i:Nat)),sF (.ref pr),v4,v5,v6]/\Same H H''/\LsA K H'' D ((ovA rs i ++ ovI rs i j).map d3)) ⟨v4,v5,v6,rfl,hs.trans (zd hp),by rw[show ovI rs i 0=[] from rfl,aS];exact hL.same (zd hp)⟩ ?_ ?_ ?_⟩
   ·rintro j σ H2 hj ⟨v4,v5,v6,rfl,hs2,_⟩
    exact hs2.seq hX
   ·rintro j y σ H2 p2 hy ⟨v4,v5,v6,rfl,hs2,hL2⟩ hp2
    obtain⟨r2,pr2,hri2,rfl,hqr2⟩:=hI.getR hy
    have er2:=wE hri2
    have hr2:=(ok.2 r2 (af hri2)).1
    have hs3:=hs2.trans (zd (o:=.tup [.int (j:Nat),.ref pr2]) hp2)
    have hq1:=zl hs3 hqr
    have el:(tx r.1).length=r.1.length:=ye _
    rfl'
    refine⟨_,SqT.of zf,rfl,_,_,rfl,_,_,rfl,rfl,rfl,xh (λh=>?_) λh=>?_⟩
    ·have hij:i=j:=by injection h with h;lia
     have z0:ZU rs i j (1+0)=[]:=by
      subst hij
      rw[show 1+0=0+1 from rfl,qW]
      simp [ZU]
     have zn:ZU rs i j (1+((r.1.length:Int) - 1).toNat)=ZU rs i j r.1.length:=by
      by_cases h0:r.1.length=0
      ·rw[h0]
       exact z0
      ·rw[show 1+((r.1.length:Int) - 1).toNat=r.1.length by lia]
     refine⟨_,hq1,_,rfl,_,⟨by lia,rfl⟩,by decide,by decide,by lia,by lia,ForR.by (λt σ H3=>∃v6,σ=[sF (.ref a),sF (.ref D),sF (.int (i:Nat)),sF (.ref pr),sF (.int (j:Nat)),sF (.ref pr2),v6]/\Same H H3/\LsA K H3 D ((ovA rs i ++ ovI rs i j ++ ZU rs i j (1+t)).map d3)) ⟨v6,rfl,hs3,(by rw[z0,aS];exact hL2.same (zd hp2))⟩ ?_ ?_⟩
     ·rintro n σ H3 hn ⟨v6,rfl,hs4,hL4⟩
      have hn':1+n<r.1.length:=by lia
      have en:((1:Int)+(n:Int))=((1+n:Nat):Int):=by lia
      rw[en]
      obtain⟨ys,hY,hJ⟩:=hL4
      have hlen:=hJ.len
      have l1:=Ug ok i
      have l2:=Yn ok i j
      have l3:=uQ rs i j (1+n)
      have i1:=(List.getElem?_eq_some_iff.mp hri).1
      have i2:=(List.getElem?_eq_some_iff.mp hri2).1
      have i3:=ok.1
      simp only[ae,am] at hlen
      have es:=qW rs i j (1+n)
      have etest:(decide (i≠j) || decide (1+n≠0))=sH:=by rw[show decide (1+n≠0)=sH from decide_eq_true (by lia),dv]
      rw[etest,Bool.true_and,er,er2] at es
      rfl'
      refine⟨_,zl hs4 hqr,_,rfl,_,zl hs4 hqr2,_,rfl,Zr (by lia) (by lia) (by lia) ⟨_,rfl,xh (λhb=>⟨.inl ⟨_,SqL.of hY⟩,by lia,λt ht=>⟨_,zd ht _ _ hY,by lia,zG (hs4.trans (zd ht)) hD,?_⟩⟩) λhb=>⟨hs4,ys,hY,?_⟩⟩⟩
      ·rw[hb,if_pos rfl] at es
       rw[show 1+(n+1)=1+n+1 by lia,es,<- ax,aH]
       exact LsA.pushT hY hJ ht zbt (YM _) (by simp only[zQ,xq,and_self])
      ·have hb':yY r.1 r2.1 (1+n)=sI:=by simpa using hb
       rw[hb',if_neg aF,aS] at es
       rw[show 1+(n+1)=1+n+1 by lia,es]
       exact hJ
     ·rintro σ H3 ⟨v6,rfl,hs4,hL4⟩
      refine⟨⟨_,_,_,rfl⟩,hs4,?_⟩
      rw[uP,er,<- ax]
      rw[el,zn] at hL4
      exact hL4
    ·have hij:i≠j:=λz=>h (by rw[z])
     refine⟨_,hq1,_,rfl,_,⟨by lia,rfl⟩,by decide,by decide,by lia,by lia,ForR.by (λt σ H3=>∃v6,σ=[sF (.ref a),sF (.ref D),sF (.int (i:Nat)),sF (.ref pr),sF (.int (j:Nat)),sF (.ref pr2),v6]/\Same H H3/\LsA K H3 D ((ovA rs i ++ ovI rs i j ++ ZU rs i j (0+t)).map d3)) ⟨v6,rfl,hs3,(by rw[show ZU rs i j (0+0)=[] from rfl,aS];exact hL2.same (zd hp2))⟩ ?_ ?_⟩
     ·rintro n σ H3 hn ⟨v6,rfl,hs4,hL4⟩
      have hn':0+n<r.1.length:=by lia
      have en:((0:Int)+(n:Int))=((0+n:Nat):Int):=by lia
      rw[en]
      obtain⟨ys,hY,hJ⟩:=hL4
      have hlen:=hJ.len
      have l1:=Ug ok i
      have l2:=Yn ok i j
      have l3:=uQ rs i j (0+n)
      have i1:=(List.getElem?_eq_some_iff.mp hri).1
      have i2:=(List.getElem?_eq_some_iff.mp hri2).1
      have i3:=ok.1
      simp only[ae,am] at hlen
      have es:=qW rs i j (0+n)
      have etest:(decide (i≠j) || decide (0+n≠0))=sH:=by rw[show decide (i≠j)=sH from decide_eq_true hij,Bool.true_or]
      rw[etest,Bool.true_and,er,er2] at es
      rfl'
      refine⟨_,zl hs4 hqr,_,rfl,_,zl hs4 hqr2,_,rfl,Zr (by lia) (by lia) (by lia) ⟨_,rfl,xh (λhb=>⟨.inl ⟨_,SqL.of hY⟩,by lia,λt ht=>⟨_,zd ht _ _ hY,by lia,zG (hs4.trans (zd ht)) hD,?_⟩⟩) λhb=>⟨hs4,ys,hY,?_⟩⟩⟩
      ·rw[hb,if_pos rfl] at es
       rw[show 0+(n+1)=0+n+1 by lia,es,<- ax,aH]
       exact LsA.pushT hY hJ ht zbt (YM _) (by simp only[zQ,xq,and_self])
      ·have hb':yY r.1 r2.1 (0+n)=sI:=by simpa using hb
       rw[hb',if_neg aF,aS] at es
       rw[show 0+(n+1)=0+n+1 by lia,es]
       exact hJ
     ·rintro σ H3 ⟨v6,rfl,hs4,hL4⟩
      refine⟨⟨_,_,_,rfl⟩,hs4,?_⟩
      rw[uP,er,<- ax]
      rw[el,show 0+((r.1.length:Int) - 0).toNat=r.1.length by lia] at hL4
      exact hL4
   ·rintro σ H2 ⟨v4,v5,v6,rfl,hs2,hL2⟩
    have e:=hI.len
    rw[ae] at e
    rw[e,<- j9] at hL2
    exact⟨⟨_,_,_,_,_,rfl⟩,hs2,hL2⟩
  ·rintro σ H' ⟨v2,v3,v4,v5,v6,rfl,hs,hL⟩
   have e:=hI.len
   rw[ae] at e
   rw[e] at hL
   rfl'
   exact q D H' hD hs hL
noncomputable def yc(l m:List Nat)(k:Nat):List Nat:=l ++ m.drop (l.length - k)
theorem wG(l m:List Nat)(k:Nat)(hk:k<=l.length):(yc l m k).length=max l.length (k+m.length):=by
 unfold yc
 rw[am,br]
 lia
theorem jO(l m:List Nat)(k:Nat):zu (yc l m k) 0 l=sH:=by
  unfold zu yc
  refine decide_eq_true ⟨by decide,by rw[am];lia,?_⟩
  rw[show (0:Int).toNat=0 from rfl,dI,aU (au _),aQ]
theorem qy{l m:List Nat}(hk:k<=l.length)(h:yY l m k=sH):zu (yc l m k) (k:Nat) m=sH:=by
 unfold yY at h
 rw[decide_eq_true_eq] at h
 have hl:=wG l m k hk
 unfold zu
 refine decide_eq_true ⟨by lia,by lia,?_⟩
 rw[show ((k:Nat):Int).toNat=k from rfl]
 unfold yc
 rw[bM hk]
 by_cases hm:m.length<=l.length - k
 ·rw[aU (by rw[br];lia),h,bf hm]
 ·rw[bf (by rw[br];lia)] at h
  rw[h,bK,aQ]
theorem QA{i j n:Nat}{t:N3}(h:t ∈ ZU rs i j n):t.1=i/\t.2.1=j/\t.2.2<n/\yY (lf rs i) (lf rs j) t.2.2=sH:=by
 unfold ZU at h
 obtain⟨k,hk,rfl⟩:=List.mem_map.mp h
 rw[List.mem_filter,eP,cE] at hk
 exact⟨rfl,rfl,hk.1,hk.2.2⟩
theorem uj{t:N3}(h:t ∈ ovA rs rs.length):t.1<rs.length/\t.2.1<rs.length/\t.2.2<(lf rs t.1).length/\yY (lf rs t.1) (lf rs t.2.1) t.2.2=sH:=by
 unfold ovA ovI at h
 obtain⟨i,hi,h⟩:=List.mem_flatMap.mp h
 obtain⟨j,hj,h⟩:=List.mem_flatMap.mp h
 obtain⟨e1,e2,e3,e4⟩:=QA h
 rw[e1,e2]
 exact⟨List.mem_range.mp hi,List.mem_range.mp hj,e3,e4⟩
def qT(K:oO):Sp:=λvs H Q _=>∃(a t:oP) (rs:List zr) (i j k:Nat) (r r2:zr),vs=[.ref a,.ref t]/\Is K H (.lst (rs.map dR)) (.ref a)/\SqT K H t [.int (i:Nat),.int (j:Nat),.int (k:Nat)]/\jj rs/\rs[i]? = sF r/\rs[j]? = sF r2/\k<=r.1.length/\yY r.1 r2.1 k=sH /\
 ∀p H',H p=sG->Same H H'->H' p=sF (.tup [.str (tx (yc r.1 r2.1 k)),.str (tx (yR (yc r.1 r2.1 k) 0 r.1 r.2)),.str (tx (yR (yc r.1 r2.1 k) (k:Nat) r2.1 r2.2))])->Q (.ref p) H'
theorem Xi{a t:oP}{i j k:Nat}{r r2:zr}(h1:Is K H (.lst (rs.map dR)) (.ref a))(h2:SqT K H t [.int (i:Nat),.int (j:Nat),.int (k:Nat)])(h3:jj rs)(h4:rs[i]? = sF r)(h5:rs[j]? = sF r2)(h6:k<=r.1.length)(h7:yY r.1 r2.1 k=sH)
 (h:∀p H',H p=sG->Same H H'->H' p=sF (.tup [.str (tx (yc r.1 r2.1 k)),.str (tx (yR (yc r.1 r2.1 k) 0 r.1 r.2)),.str (tx (yR (yc r.1 r2.1 k) (k:Nat) r2.1 r2.2))])->Q (.ref p) H'):qT K [.ref a,.ref t] H Q E:=⟨a,t,rs,i,j,k,r,r2,rfl,h1,h2,h3,h4,h5,h6,h7,h⟩
theorem VD{CU:oP}{l o n:List Nat}{k:Int}(h1:l.length<=10000)(h2:o.length<=10000)(h3:n.length<=10000)(hs:zu l k o=sH)(q:Q (.str (tx (yR l k o n))) H):ZD CU [.str (tx l),.int k,.str (tx o),.str (tx n)] H Q E:=⟨l,o,n,k,rfl,h1,h2,h3,λ_=>q,λh=>by rw[hs] at h;cases h⟩
theorem lP:zq ["rules","overlap","one","other","place","word"] ["rules","overlap"] (zb jA):=⟨rfl,rfl,rfl,by decide +kernel,rfl,by decide +kernel,by decide +kernel⟩
theorem KA{f CU:oP}(B:Bt mg)(F:Fun K "peak" "peak" jA f fd)(nJ:Df P w K mg base (CXx P w) 3 "put" ["word","place","old","new"] [] (ZD CU)):FnOk P w K mg base CX0 4 f fd ["rules","overlap"] (qT K):=by
 refine F.ok lP (λvs H Q E h=>?_) (λcdv A outer s H vs Q E hr h=>?_)
 ·obtain⟨a,t,rs,i,j,k,r,r2,rfl,_⟩:=h
  rfl
 ·obtain⟨a,t,rs,i,j,k,r,r2,rfl,hR,ht,ok,hr1,hr2,hk,hag,q⟩:=h
  refine⟨_,(zi (zt (i:=2) lP.nd rfl (Or.inl rfl) (zw ix_list (pv 0) (zw ix_tup (pv 1) zg (λ_ _=>rfl)) (λ_ _=>rfl)))
   (zi (zt (i:=3) lP.nd rfl (Or.inl rfl) (zw ix_list (pv 0) (zw ix_tup (pv 1) zg (λ_ _=>rfl)) (λ_ _=>rfl)))
   (zi (zt (i:=4) lP.nd rfl (Or.inl rfl) (zw ix_tup (pv 1) zg (λ_ _=>rfl)))
   (zi (zt (i:=5) lP.nd rfl (Or.inl rfl) (zB op_add_str (zw ix_tup (pv 2) zg (λ_ _=>rfl)) (yk zaG (zw ix_tup (pv 3) zg (λ_ _=>rfl)) (yf (zB qx (zp zX rfl B.len aB (za (zw ix_tup (pv 2) zg (λ_ _=>rfl)) ze)) (pv 4))) xZ)))
   (zh (zx (ya (za (pv 5) (za (clP xe0 nJ hr .nil rfl (za (pv 5) (za zg (za (zw ix_tup (pv 2) zg (λ_ _=>rfl)) (za (zw ix_tup (pv 2) zg (λ_ _=>rfl)) ze))))) (za (clP xe0 nJ hr .nil rfl (za (pv 5) (za (pv 4) (za (zw ix_tup (pv 3) zg (λ_ _=>rfl)) (za (zw ix_tup (pv 3) zg (λ_ _=>rfl)) ze))))) ze)))))))))),?_⟩
  have s16:=ym
  simp only[Is] at hR
  obtain⟨_,xs,e,hX,hI⟩:=hR
  cases e
  obtain⟨p1,a1,q1⟩:=zb7 hI hr1
  obtain⟨p2,a2,q2⟩:=zb7 hI hr2
  have b1:=ok.2 r (af hr1)
  have b2:=ok.2 r2 (af hr2)
  refine zj (λσ H'=>H'=H/\σ=[sF (.ref a),sF (.ref t),sF (.ref p1),sG,sG,sG]) ?_ ?_
  ·rfl'
   exact⟨_,ht,_,rfl,_,_,rfl,hX,a1⟩
  rintro σ H1 ⟨rfl,rfl⟩
  refine zj (λσ H'=>H'=H1/\σ=[sF (.ref a),sF (.ref t),sF (.ref p1),sF (.ref p2),sG,sG]) ?_ ?_
  ·rfl'
   exact⟨_,ht,_,rfl,_,_,rfl,hX,a2⟩
  rintro σ H2 ⟨rfl,rfl⟩
  refine zj (λσ H'=>H'=H2/\σ=[sF (.ref a),sF (.ref t),sF (.ref p1),sF (.ref p2),sF (.int (k:Nat)),sG]) ?_ ?_
  ·rfl'
   exact⟨_,ht,rfl⟩
  rintro σ H3 ⟨rfl,rfl⟩
  refine zj (λσ H'=>H'=H3/\σ=[sF (.ref a),sF (.ref t),sF (.ref p1),sF (.ref p2),sF (.int (k:Nat)),sF (.str (tx (yc r.1 r2.1 k)))]) ?_ ?_
  ·rfl'
   refine⟨_,q1,_,rfl,_,q2,_,rfl,_,q1,_,rfl,_,⟨by rw[ye];lia,rfl⟩,.inr ⟨_,rfl,by rw[ye];lia,_,rfl,?_,?_⟩⟩
   ·rw[ye,Wh]
    have:=wX r2.1 (sF ((r.1.length:Int) - (k:Int))) sG
    lia
   ·rw[ye,Wh,Ze,uS _ (by lia),show ((r.1.length:Int) - (k:Int)).toNat=r.1.length - k by lia]
    rfl
  rintro σ H4 ⟨rfl,rfl⟩
  have hw:=wG r.1 r2.1 k hk
  rfl'
  exact⟨_,q1,_,rfl,_,q1,_,rfl,VD (by lia) (by lia) (by lia) (jO _ _ _) ⟨_,q2,_,rfl,_,q2,_,rfl,VD (by lia) (by lia) (by lia) (qy hk hag) ⟨by lia,λp hp=>q p _ hp (zd hp) zf⟩⟩⟩
def FmOk(ps:List zr)(most:Int)(m:oW->Option V):Prop:=∀k v,m k=sF v->∃(w:List Nat) (J:Nat),k=tx w/\v=.str (tx (wAt ps w J))/\Wa ps w J/\zF (wAt ps w J) ps=sG/\(J:Int)<=most
theorem FmOk.get{most:Int}{m:oW->Option V}(h:FmOk ps most m){w:List Nat}{v:V}(e:m (tx w)=sF v){J:Nat}(hl:Wa ps w J)(hf:zF (wAt ps w J) ps=sG):v=.str (tx (wAt ps w J)):=by
 obtain⟨w',J',e1,e2,e3,e4,_⟩:=h _ _ e
 have e5:=jK e1
 subst e5
 rw[e2,UP e3 e4 hl hf]
theorem FmOk.put{most:Int}{m:oW->Option V}(h:FmOk ps most m){w:List Nat}{J:Nat}(hl:Wa ps w J)(hf:zF (wAt ps w J) ps=sG)(hJ:(J:Int)<=most):FmOk ps most (λx=>if x=tx w then sF (.str (tx (wAt ps w J))) else m x):=λk v e=>by
 by_cases hk:k=tx w
 ·simp only[hk,if_true] at e
  cases e
  exact⟨w,J,hk,rfl,hl,hf,hJ⟩
 ·simp only[hk,if_false] at e
  exact h k v e
def ky(P:oV)(w:oX)(K:oO)(CF:oP):Sp:=λvs H Q E=>∃(a F:oP) (l:List Nat) (ps:List zr) (m:Int) (J n:Nat) (mp:oW->Option V),vs=[.ref a,.str (tx l),.int m,.ref F]/\LsA K H a (ps.map dR)/\NeL ps/\ps.length<=100/\(∀p ∈ ps,p.1.length<=1000/\p.2.length<=1000)/\Rd ps l J/\H F=sF (jn P w F mp n)/\FmOk ps m mp/\n<=10000 /\
 ((zF (wAt ps l J) ps=sG/\(J:Int)<=m/\∀(mp':oW->Option V) (n':Nat) (H':Hp),SamT F H H'->H' F=sF (jn P w F mp' n')->FmOk ps m mp'->n'<=n+1->Q (.str (tx (wAt ps l J))) H') \/
  (zF (wAt ps l J) ps≠sG/\(J:Int)=m/\∀H',Same H H'->E (.ref CF) sG H'))
theorem Wu:zq ["rules","word","most","forms"] ["rules","word","most","forms"] (zb wb):=⟨rfl,rfl,rfl,by decide +kernel,rfl,by decide +kernel,by decide +kernel⟩
theorem XH{f CF:oP}{lr:rD}(B:Bt mg)(F:Fun K "form_of" "form_of" wb f fd)(ng:Df P w K mg base (CXx P w) 4 "gone" ["rules","word","most"] [] (wT K CF))(DD_gone:Df P w K mg base (CXx P w) 4 "gone" ["rules","word","most"] [.int 4000 lr] (wT K CF)):FnOk P w K mg base (CXx P w) 5 f fd ["rules","word","most","forms"] (ky P w K CF):=by
 refine Fun.okX F Wu (λvs H Q E h=>?_) (λcdv A outer s H vs Q E hr hx h=>?_)
 ·obtain⟨a,F0,l,ps,m,J,n,mp,rfl,_⟩:=h
  rfl
 ·obtain⟨a,F0,l,ps,m,J,n,mp,rfl,hA,hN,hpl,hP,hR,hF,hM,hn,hq⟩:=h
  refine⟨_,(zi (z9 (zI Qx (pv 1) (pv 3) (by with_unfolding_all rfl))
    (zh (Ju (zw ix_tup (clP hx ng hr .nil rfl (za (pv 0) (za (pv 1) (za (pv 2) ze)))) zg (λ_ _=>rfl)) (zaD (pv 3) (pv 1) QS (by intro _;rfl))))
    zD)
   (zh (zx (zw JR (pv 3) (pv 1) (λ_ _=>rfl))))),?_⟩
  have s16:=ym
  have s16:=ym
  refine zj (λσ H'=>SamT F0 H H'/\zF (wAt ps l J) ps=sG/\(J:Int)<=m/\(∃(mp':oW->Option V) (n':Nat),H' F0=sF (jn P w F0 mp' n')/\FmOk ps m mp'/\n'<=n+1/\mp' (tx l)=sF (.str (tx (wAt ps l J))))/\σ=[sF (.ref a),sF (.str (tx l)),sF (.int m),sF (.ref F0)]) ?_ ?_
  ·rfl'
   refine⟨F0,mp,n,tx l,rfl,rfl,hF,_,rfl,xh (λhnone=>⟨a,l,ps,m,J,rfl,hA,hN,hpl,hP,hR,?_⟩) λhsome=>?_⟩
   ·rcases hq with ⟨hf,hJ,_⟩ | h
    ·refine .inl ⟨hf,hJ,λp S H' s' hp _ _=>⟨p,rfl,_,SqT.of hp,_,rfl,?_⟩⟩
     simp only[zcQ]
     rfl'
     exact⟨F0,mp,n,tx l,rfl,rfl,s' _ _ hF,by lia,λb o hb e=>by rw[zo hb];exact s' _ _ e,hf,hJ,_,_,zf,hM.put hR.live hf hJ,au _,if_pos rfl⟩
    ·exact .inr h
   ·cases hv:mp (tx l) with
    | none=>rw[hv] at hsome;exact absurd rfl hsome
    | some v =>
     obtain⟨w',J',e1,e2,e3,e4,e5⟩:=hM _ _ hv
     have e6:=jK e1
     subst e6
     rcases hq with ⟨hf,hJ,_⟩ | ⟨hf,hJ,_⟩
     ·exact⟨λb o _ e=>e,hf,hJ,mp,n,hF,hM,by lia,by rw[hM.get hv hR.live hf] at hv;exact hv⟩
     ·exfalso
      rcases d7 J' J with h | h
      ·exact hR.live J' h e4
      ·have:J'=J:=by lia
       subst this
       exact hf e4
  rintro σ H1 ⟨s1,hf,hJ,⟨mp',n',h1,h2,h3,h4⟩,rfl⟩
  rfl'
  refine⟨F0,mp',n',tx l,_,rfl,rfl,h1,h4,?_⟩
  rcases hq with ⟨_,_,q⟩ | ⟨h,_⟩
  ·exact q mp' n' H1 s1 h1 h2 h3
  ·exact absurd hf h
noncomputable def pkA(ps:List zr)(t:N3):List Nat:=yR (yc (lf ps t.1) (lf ps t.2.1) t.2.2) 0 (lf ps t.1) (ps.getD t.1 ([],[])).2
noncomputable def pkB(ps:List zr)(t:N3):List Nat:=yR (yc (lf ps t.1) (lf ps t.2.1) t.2.2) (t.2.2:Nat) (lf ps t.2.1) (ps.getD t.2.1 ([],[])).2
inductive K7(ps:List zr)(m:Int)(l:List Nat):Option Nat->Prop where
 | yes {J:Nat} (h:Rd ps l J) (h1:zF (wAt ps l J) ps=sG) (h2:(J:Int)<=m):K7 ps m l (sF J)
 | no {J:Nat} (h:Rd ps l J) (h1:zF (wAt ps l J) ps≠sG) (h2:(J:Int)=m):K7 ps m l sG
def uV(P:oV)(w:oX)(K:oO)(CF:oP):Sp:=λvs H Q E=>∃(a t F:oP) (ps:List zr) (tr:N3) (m:Int) (n:Nat) (mp:oW->Option V) (g1 g2:Option Nat),vs=[.ref a,.ref t,.int m,.ref F]/\LsA K H a (ps.map dR)/\NeL ps/\jj ps/\SqT K H t [.int (tr.1:Nat),.int (tr.2.1:Nat),.int (tr.2.2:Nat)]/\tr ∈ ovA ps ps.length/\H F=sF (jn P w F mp n)/\FmOk ps m mp/\n<=9000/\K7 ps m (pkA ps tr) g1/\K7 ps m (pkB ps tr) g2 /\
 (∀(J1 J2:Nat) (mp':oW->Option V) (n':Nat) (H':Hp),g1=sF J1->g2=sF J2->SamT F H H'->H' F=sF (jn P w F mp' n')->FmOk ps m mp'->n'<=n+2->Q (.bl (decide (wAt ps (pkA ps tr) J1=wAt ps (pkB ps tr) J2))) H') /\
 ((g1=sG\/g2=sG)->∀H',SamT F H H'->E (.ref CF) sG H')
theorem XA{P:oV}{w:oX}{CF a F:oP}{l:List Nat}{m:Int}{n:Nat}{mp:oW->Option V}{g:Option Nat}(hA:LsA K H a (ps.map dR))(hN:NeL ps)(hok:jj ps)(hF:H F=sF (jn P w F mp n))(hM:FmOk ps m mp)(hn:n<=10000)(hg:K7 ps m l g)
  (h1:∀(J:Nat) (mp':oW->Option V) (n':Nat) (H':Hp),g=sF J->SamT F H H'->H' F=sF (jn P w F mp' n')->FmOk ps m mp'->n'<=n+1->Q (.str (tx (wAt ps l J))) H') (h2:g=sG->∀H',Same H H'->E (.ref CF) sG H'):ky P w K CF [.ref a,.str (tx l),.int m,.ref F] H Q E:=by
 have hP:∀p ∈ ps,p.1.length<=1000/\p.2.length<=1000:=λp hp=>by have:=hok.2 p hp;lia
 have hl:ps.length<=100:=by have:=hok.1;lia
 cases hg with
 | yes h e1 e2=>exact⟨a,F,l,ps,m,_,n,mp,rfl,hA,hN,hl,hP,h,hF,hM,hn,.inl ⟨e1,e2,λmp' n' H' a1 a2 a3 a4=>h1 _ mp' n' H' rfl a1 a2 a3 a4⟩⟩
 | no h e1 e2=>exact⟨a,F,l,ps,m,_,n,mp,rfl,hA,hN,hl,hP,h,hF,hM,hn,.inr ⟨e1,e2,h2 rfl⟩⟩
theorem qZ{F t:oP}{H H':Hp}{P:oV}{w:oX}{mp:oW->Option V}{n:Nat}{xs:List V}(s:SamT F H H')(hF:H F=sF (jn P w F mp n))(h:SqT K H t xs):SqT K H' t xs:=by
 rcases h with (h | ⟨o,h⟩) | h
 ·exact .inl (.inl (s _ _ (λz=>by rw[z,hF] at h;cases h) h))
 ·exact .inl (.inr ⟨o,s _ _ (λz=>by rw[z,hF] at h;cases h) h⟩)
 ·exact .inr h
theorem XB{F a:oP}{H H':Hp}{P:oV}{w:oX}{mp:oW->Option V}{n:Nat}(s:SamT F H H')(hF:H F=sF (jn P w F mp n))(h:LsA K H a (ps.map dR)):LsA K H' a (ps.map dR):=by
 obtain⟨xs,h1,h2⟩:=h
 refine⟨xs,s _ _ (λz=>by rw[z,hF] at h1;cases h1) h1,?_⟩
 have key:∀(qs:List zr) (vs:List V),Iss K H (qs.map dR) vs->Iss K H' (qs.map dR) vs:=by
  intro qs
  induction qs with
  | nil=>intro vs h;simp only[aN,Iss] at h ⊢;exact h
  | cons q qs ih =>
   intro vs h
   simp only[aC,Iss] at h ⊢
   obtain⟨v,r,e,h3,h4⟩:=h
   obtain⟨p,rfl,h5⟩:=zar h3
   exact⟨_,r,e,Wb (qZ s hF h5),ih r h4⟩
 exact key ps xs h2
theorem lK:zq ["rules","overlap","most","forms","sides","one","other"] ["rules","overlap","most","forms"] (zb wY):=⟨rfl,rfl,rfl,by decide +kernel,rfl,by decide +kernel,by decide +kernel⟩
theorem VV{f CF:oP}(B:Bt mg)(F:Fun K "is_met" "is_met" wY f fd)(nO:Df P w K mg base CX0 4 "peak" ["rules","overlap"] [] (qT K))(nE:Df P w K mg base (CXx P w) 5 "form_of" ["rules","word","most","forms"] [] (ky P w K CF)):FnOk P w K mg base (CXx P w) 6 f fd ["rules","overlap","most","forms"] (uV P w K CF):=by
 refine Fun.okX F lK (λvs H Q E h=>?_) (λcdv A outer s H vs Q E hr hx h=>?_)
 ·obtain⟨a,t,F0,ps,tr,m,n,mp,g1,g2,rfl,_⟩:=h
  rfl
 ·obtain⟨a,t,F0,ps,tr,m,n,mp,g1,g2,rfl,hA,hN,hok,ht,htr,hF,hM,hn,hg1,hg2,q1,q2⟩:=h
  refine⟨_,(zi (zt (i:=4) lK.nd rfl (Or.inl rfl) (cl0 nO hr .nil rfl (za (pv 0) (za (pv 1) ze))))
   (zi (zt (i:=5) lK.nd rfl (Or.inl rfl) (clP hx nE hr .nil rfl (za (pv 0) (za (zw ix_tup (pv 4) zg (λ_ _=>rfl)) (za (pv 2) (za (pv 3) ze))))))
   (zi (zt (i:=6) lK.nd rfl (Or.inl rfl) (clP hx nE hr .nil rfl (za (pv 0) (za (zw ix_tup (pv 4) zg (λ_ _=>rfl)) (za (pv 2) (za (pv 3) ze))))))
   (zh (zx (ug qG (pv 5) (pv 6) (zK _))))))),?_⟩
  have s16:=ym
  have s16:=ym
  obtain⟨i1,i2,i3,i4⟩:=uj htr
  obtain⟨r,hr⟩:∃r,ps[tr.1]? = sF r:=⟨_,al i1⟩
  obtain⟨r2,hr2⟩:∃r,ps[tr.2.1]? = sF r:=⟨_,al i2⟩
  have l1:=wE hr
  have l2:=wE hr2
  have d1:ps.getD tr.1 ([],[])=r:=by rw[ac,hr];rfl
  have d2:ps.getD tr.2.1 ([],[])=r2:=by rw[ac,hr2];rfl
  have eA:pkA ps tr=yR (yc r.1 r2.1 tr.2.2) 0 r.1 r.2:=by unfold pkA;rw[l1,l2,d1]
  have eB:pkB ps tr=yR (yc r.1 r2.1 tr.2.2) (tr.2.2:Nat) r2.1 r2.2:=by unfold pkB;rw[l1,l2,d2]
  rw[l1] at i3
  rw[l1,l2] at i4
  refine zj (λσ H'=>Same H H'/\∃p:oP,(∃x,H' p=sF (.tup [x,.str (tx (pkA ps tr)),.str (tx (pkB ps tr))]))/\σ=[sF (.ref a),sF (.ref t),sF (.int m),sF (.ref F0),sF (.ref p),sG,sG]) ?_ ?_
  ·rfl'
   exact Xi hA.is ht hok hr hr2 (by lia) i4 λp H' _ s' hp=>⟨s',p,⟨_,by rw[eA,eB];exact hp⟩,rfl⟩
  rintro σ H1 ⟨s1,p,⟨x,hp⟩,rfl⟩
  have hF1:=s1 _ _ hF
  refine zj (λσ H'=>SamT F0 H1 H'/\∃(J1:Nat),g1=sF J1/\(∃mp' n',H' F0=sF (jn P w F0 mp' n')/\FmOk ps m mp'/\n'<=n+1)/\σ=[sF (.ref a),sF (.ref t),sF (.int m),sF (.ref F0),sF (.ref p),sF (.str (tx (wAt ps (pkA ps tr) J1))),sG]) ?_ ?_
  ·rfl'
   refine⟨_,SqT.of hp,_,rfl,XA (hA.same s1) hN hok hF1 hM (by lia) hg1 (λJ mp' n' H' e a1 a2 a3 a4=>?_) λe H' s'=>q2 (.inl e) H' (SamT.of (s1.trans s'))⟩
   exact⟨a1,J,e,⟨mp',n',a2,a3,a4⟩,rfl⟩
  rintro σ H2 ⟨s2,J1,e1,⟨mp1,n1,hF2,hM2,hn2⟩,rfl⟩
  have s12:SamT F0 H H2:=(SamT.of s1).trans s2
  have hpF:p≠F0:=λz=>by rw[z,hF1] at hp;cases hp
  refine zj (λσ H'=>SamT F0 H2 H'/\∃(J2:Nat),g2=sF J2/\(∃mp' n',H' F0=sF (jn P w F0 mp' n')/\FmOk ps m mp'/\n'<=n+2)/\σ=[sF (.ref a),sF (.ref t),sF (.int m),sF (.ref F0),sF (.ref p),sF (.str (tx (wAt ps (pkA ps tr) J1))),sF (.str (tx (wAt ps (pkB ps tr) J2)))]) ?_ ?_
  ·rfl'
   exact⟨_,SqT.of (s2 _ _ hpF hp),_,rfl,XA (XB s2 hF1 (hA.same s1)) hN hok hF2 hM2 (by lia) hg2 (λJ mp' n' H' e a1 a2 a3 a4=>⟨a1,J,e,⟨mp',n',a2,a3,by lia⟩,rfl⟩) λe H' s'=>q2 (.inr e) H' (s12.trans (SamT.of s'))⟩
  rintro σ H3 ⟨s3,J2,e2,⟨mp2,n2,hF3,hM3,hn3⟩,rfl⟩
  rfl'
  exact q1 J1 J2 mp2 n2 H3 e1 e2 (s12.trans s3) hF3 hM3 hn3
def Zb(K:oO)(CH:oP):Sp:=λvs H Q _=>∃(y o q:oP) (ps:List zr),vs=[.ref y]/\UC K CH H y o q ps/\∀(r:oP) (H':Hp),Same H H'->LsA K H' r (ps.map dR)->H r=sG->Q (.ref r) H'
theorem vg:zq ["self"] ["self"] (zb zO):=⟨rfl,rfl,rfl,by decide +kernel,rfl,by decide +kernel,by decide +kernel⟩
theorem vh{f CH:oP}(B:Bt mg)(TS:zas K mg CH)(F:Fun K "rules_told" "System.rules_told" zO f fd) : FnOk P w K mg base CX0 1 f fd ["self"] (Zb K CH):=by
 refine F.ok vg (λvs H Q E h=>?_) (λcdv A outer s H vs Q E hr h=>?_)
 ·obtain⟨y,o,q,ps,rfl,_⟩:=h
  rfl
 ·obtain⟨y,o,q,ps,rfl,hy,k⟩:=h
  refine⟨_,(zh (zx (xH xo rfl B.list PySem.Pv.boot_list (za (Y2 (pv 0) rfl) ze)))),?_⟩
  have s16:=ym
  rfl'
  obtain⟨dx,xs,h1,h2,h3⟩:=hy
  exact⟨_,_,_,h1,TS.cl,TS.nr,_,rfl,_,rfl,_,.inl (SqL.of h2),λr hr'=>k r _ (zd hr') ⟨xs,zf,Iss.same (zd hr') _ _ h3⟩ hr'⟩
noncomputable def goJ(ps:List zr)(m:Nat)(v:List Nat):Option Nat:=(aY (m+1)).find? λj=>(zF (wAt ps v j) ps).isNone
theorem UQ{m:Nat}{v:List Nat}{i:Nat}(e:goJ ps m v=sF i):i<=m/\Wa ps v i/\zF (wAt ps v i) ps=sG:=by
 unfold goJ at e
 have h1:=dz e
 have h2:zF (wAt ps v i) ps=sG:=Option.isNone_iff_eq_none.mp h1
 have hm:=List.mem_range.mp (dZ e)
 refine⟨by lia,λn hn hno=>?_,h2⟩
 obtain⟨_,as,bs,e2,h3⟩:=List.find?_eq_some_iff_append.mp e
 have hlen:as.length=i:=by
  have:=congrArg (λl=>l[as.length]?) e2
  simp only[bS (au _),Nat.sub_self,em] at this
  obtain⟨h7,h8⟩:=List.getElem?_eq_some_iff.mp this
  rw[fg] at h8
  exact h8
 have h9:(aY (m+1))[n]? = as[n]?:=by rw[e2,bY (by lia)]
 have h10:n<(aY (m+1)).length:=by rw[dj];lia
 rw[al h10,fg] at h9
 have:=h3 n (af h9.symm)
 rw[hno] at this
 cases this
theorem UM{m:Nat}{v:List Nat}(e:goJ ps m v=sG):∀j,j<=m->zF (wAt ps v j) ps≠sG:=λj hj hno=>by
 unfold goJ at e
 have:=List.find?_eq_none.mp e j (List.mem_range.mpr (by lia))
 rw[hno] at this
 exact this rfl
theorem Vg{m:Nat}{v:List Nat}(hl:∀j,j<=m->(wAt ps v j).length<=10000)(hm:m<=10000):K7 ps (m:Int) v (goJ ps m v):=by
 cases e:goJ ps m v with
 | some i =>
  obtain⟨h1,h2,h3⟩:=UQ e
  exact .yes ⟨h2,λj hj=>hl j (by lia),by lia⟩ h3 (by lia)
 | none =>
  have h:=UM e
  exact .no (J:=m) ⟨λi hi=>h i (by lia),λj hj=>hl j hj,hm⟩ (h m (au _)) rfl
noncomputable def zab(ps:List zr)(m:Nat)(v:List Nat):List Nat:=wAt ps v ((goJ ps m v).getD 0)
noncomputable def Ux(ps:List zr)(m:Nat)(t:N3):Bool:=decide (zab ps m (pkA ps t)=zab ps m (pkB ps t))
def OkG(ps:List zr)(m:Nat)(t:N3):Prop:=(goJ ps m (pkA ps t)).isSome=sH/\(goJ ps m (pkB ps t)).isSome=sH
def zcM(ps:List zr)(m:Nat):Prop:=m<=10000/\∀t ∈ ovA ps ps.length,(∀j,j<=m->(wAt ps (pkA ps t) j).length<=10000)/\∀j,j<=m->(wAt ps (pkB ps t) j).length<=10000
theorem KQ{t:N3}{m J1 J2:Nat}(e1:goJ ps m (pkA ps t)=sF J1)(e2:goJ ps m (pkB ps t)=sF J2):decide (wAt ps (pkA ps t) J1=wAt ps (pkB ps t) J2)=Ux ps m t:=by
 unfold Ux zab
 rw[e1,e2]
 rfl
theorem zaw{m:Nat}{t:N3}(h:goJ ps m (pkA ps t)=sG\/goJ ps m (pkB ps t)=sG):¬ OkG ps m t:=λho=>by
 obtain⟨h1,h2⟩:=ho
 rcases h with h | h
 ·rw[h] at h1
  cases h1
 ·rw[h] at h2
  cases h2
theorem FmOk.nil{m:Int}:FmOk ps m λ_=>sG:=λk v e=>by cases e
theorem Zm{F:oP}{H H':Hp}{P:oV}{w:oX}{mp:oW->Option V}{n:Nat}(s:SamT F H H')(hF:H F=sF (jn P w F mp n)):∀{ts:List N3} {vs:List V},Iss K H (ts.map d3) vs->Iss K H' (ts.map d3) vs
 | [],vs,h=>by simp only[aN,Iss] at h ⊢;exact h
 | t::ts,vs,h=>by
  simp only[aC,Iss] at h ⊢
  obtain⟨v,r,e,h3,h4⟩:=h
  refine⟨v,r,e,?_,Zm s hF h4⟩
  simp only[d3,Is] at h3 ⊢
  obtain⟨a,xs,e1,e2,e3⟩:=h3
  refine⟨a,xs,e1,qZ s hF e2,?_⟩
  simp only[Iss,Is] at e3 ⊢
  exact e3
noncomputable def unG(ps:List zr)(m:Nat):List N3:=(ovA ps ps.length).filter λt=>!Ux ps m t
def vN(K:oO)(CH CF:oP):Sp:=λvs H Q E=>∃(y o q:oP) (ps:List zr) (m:Nat),vs=[.ref y,.int (m:Nat)]/\UC K CH H y o q ps/\NeL ps/\jj ps/\(ovA ps ps.length).length<=4000/\zcM ps m /\
 ((∀t ∈ ovA ps ps.length,OkG ps m t)->∀D H',Same H H'->H D=sG->LsA K H' D ((unG ps m).map d3)->Q (.ref D) H')/\(∀t ∈ ovA ps ps.length,¬ OkG ps m t->∀H',Same H H'->E (.ref CF) sG H')
theorem mQ:zq ["system","most","rules","forms"] ["system","most"] (zb x0):=⟨rfl,rfl,rfl,by decide +kernel,rfl,by decide +kernel,by decide +kernel⟩
theorem U9{f CF CH:oP}{dV:oQ}(B:Bt mg)(TS:zas K mg CH)(F:FunD K "unmet" "unmet" x0 dV f fd)(nY:Df P w K mg base CX0 2 "overlaps" ["rules"] [] (wA K))(om:Df P w K mg base (CXx P w) 6 "is_met" ["rules","overlap","most","forms"] [] (uV P w K CF))(M_system_rules_told:DM P w K mg base CX0 1 CH "rules_told" ["self"] (Zb K CH)):FnOk P w K mg base (CXx P w) 7 f fd ["system","most"] (vN K CH CF):=by
 refine FunD.okX F mQ (λvs H Q E h=>?_) (λcdv A outer s H vs Q E hr hx h=>?_)
 ·obtain⟨y,o,q,ps,m,rfl,_⟩:=h
  rfl
 ·obtain⟨y,o,q,ps,m,rfl,hy,hN,hok,hlen,hE,k1,k2⟩:=h
  refine⟨_,(zi (zt (i:=2) mQ.nd rfl (Or.inr rfl) (me0 M_system_rules_told TS.cl hr (pv 0)))
   (zi (zt (i:=3) mQ.nd rfl (Or.inr rfl) Kb)
   (zh (zx (VJ (EX:=E) (own:=["overlap"]) (caps:=["rules","most","forms"]) (ix:=[2,1,3]) (tt:=(zby (tBl (jr (uV P w K CF) [] E (zP (xw 1) (zP (xw 0) (zP (xw 2) (zP (xw 3) vd)))))))) (te:=(xw 0)) rfl (yb (sc:=zb x0) rfl (by decide +kernel) (by decide +kernel) (by decide +kernel) rfl (by decide +kernel) (by decide +kernel) rfl) ⟨rfl,rfl⟩ hx (yC (cl0 nY hr .nil rfl (za (pv 2) ze))) (λ_ _ _ _ _ _=>zC (i:=0) (show List.Nodup [_,_,_,_] by decide) rfl (Or.inl rfl)) (λ_ _ _ _ _ _ _ hx'=>(V4 (yo (xz (clP hx' om hr .nil rfl (za (pv 1) (za (pv 0) (za (pv 2) (za (pv 3) ze))))) (λ_=>rfl))))) (λ_ _ _ _ _ _ _ _=>(pv 0))))))),?_⟩
  have s16:=ym
  have s16:=ym
  obtain⟨dx,xs0,h1,h2,h3⟩:=id hy
  refine zj (λσ H'=>Same H H'/\∃r:oP,LsA K H' r (ps.map dR)/\σ=[sF (.ref y),sF (.int (m:Nat)),sF (.ref r),sG]) ?_ ?_
  ·rfl'
   exact⟨_,_,h1,rfl,y,o,q,ps,rfl,hy,λr H1 s1 hA hr'=>⟨s1,r,hA,rfl⟩⟩
  rintro σ H1 ⟨s1,r,hA,rfl⟩
  refine zj (λσ H'=>Same H H'/\LsA K H' r (ps.map dR)/\∃F:oP,H F=sG/\H' F=sF (jn P w F (λ_=>sG) 0)/\σ=[sF (.ref y),sF (.int (m:Nat)),sF (.ref r),sF (.ref F)]) ?_ ?_
  ·rfl'
   simp only[zan]
   intro F hF
   have s2:=zd (o:=jn P w F (λ_=>sG) 0) hF
   rfl'
   exact⟨s1.trans s2,hA.same s2,F,s1.free hF,zf,rfl⟩
  rintro σ H2 ⟨s2,hA2,F,hF0,hF,rfl⟩
  rfl'
  refine ZX hA2.is hok λO H3 hO s3 hL=>⟨O,rfl,?_,λD hD=>?_⟩
  ·obtain⟨xs,hX,_⟩:=hL
   exact⟨_,SqL.of hX⟩
  obtain⟨xs,hX,hI⟩:=hL
  have hxl:=hI.len
  rw[ae] at hxl
  have hF3:=s3 _ _ hF
  have s03:=s2.trans s3
  have hDF:D≠F:=λz=>by rw[z,hF3] at hD;cases hD
  have hOF:O≠F:=λz=>by rw[z,hF3] at hX;cases hX
  have back:∀{G:Hp},SamT F H3 G->Same H G:=λ{G} sT b o' e=>sT b o' (λz=>by rw[z,hF0] at e;cases e) (s03 b o' e)
  refine CompL.by (xs:=xs) (λi sL H'=>SamT F H3 H'/\H' D=sF (.lst sL)/\(∃(mp:oW->Option V) (n:Nat),H' F=sF (jn P w F mp n)/\FmOk ps (m:Nat) mp/\n<=2 * i)/\Iss K H3 ((((ovA ps ps.length).take i).filter λt=>!Ux ps m t).map d3) sL/\∀t ∈ (ovA ps ps.length).take i,OkG ps m t) ⟨SamT.of (zd hD),zf,⟨_,0,by rw[zo (λz=>hDF z.symm)];exact hF3,FmOk.nil,by lia⟩,by simp only[bA,dc,aN,Iss],λt ht=>by simp at ht⟩ (λi sL H' _ h=>SqL.of (h.1 _ _ hOF hX)) ?_ ?_
  ·rintro i x sL H' hx ⟨sT,hH,⟨mp,n,hFm,hM,hn⟩,hI',hle⟩
   have hil:=(List.getElem?_eq_some_iff.mp hx).1
   obtain⟨t,p,ht,rfl,hp⟩:=hI.get3 hx
   have htm:=af ht
   have hE':=hE.2 t htm
   have hal:sL.length<=i:=by
    have:=hI'.len
    rw[ae] at this
    have h5:=cQ (λt=>!Ux ps m t) ((ovA ps ps.length).take i)
    rw[aK] at h5
    lia
   simp only[zby,tBl]
   rfl'
   refine⟨wD,r,p,F,ps,t,(m:Nat),n,mp,_,_,rfl,XB sT hF3 (hA2.same s3),hN,hok,qZ sT hF3 hp,htm,hFm,hM,by lia,Vg hE'.1 hE.1,Vg hE'.2 hE.1,λJ1 J2 mp' n' H5 e1 e2 s5 hF5 hM5 hn5=>?_,λh H5 s5=>k2 t htm (zaw h) H5 (back (sT.trans s5))⟩
   have hle':∀t' ∈ (ovA ps ps.length).take (i+1),OkG ps m t':=λt' ht'=>by
    rw[zW ht] at ht'
    rcases List.mem_append.mp ht' with h | h
    ·exact hle t' h
    ·rw[List.mem_singleton.mp h]
     exact⟨by rw[e1];rfl,by rw[e2];rfl⟩
   rw[KQ e1 e2]
   have hcase:∀b,Ux ps m t=b->(!b)=sH->Iss K H3 ((((ovA ps ps.length).take (i+1)).filter λt=>!Ux ps m t).map d3) (sL ++ [.ref p]):=λb hb hb'=>by
    rw[zW ht,cN,aH]
    refine Iss.append hI' ?_
    rw[ef,hb,if_pos hb']
    simp only[dc,aC,aN,Iss]
    refine⟨_,[],rfl,?_,rfl⟩
    simp only[d3,Is,Iss]
    exact⟨p,_,rfl,hp,_,_,rfl,rfl,_,_,rfl,rfl,_,_,rfl,rfl,rfl⟩
   refine⟨_,rfl,?_⟩
   cases hb:Ux ps m t with
   | false =>
    rw[if_pos rfl]
    refine⟨s5 _ _ hDF hH,by lia,CNx.mk hil ⟨λb o' hbF e=>?_,zf,⟨mp',n',by rw[zo (λz=>hDF z.symm)];exact hF5,hM5,by lia⟩,hcase _ hb rfl,hle'⟩⟩
    rw[zo (λz=>by rw[z,hD] at e;cases e)]
    exact s5 b o' hbF (sT b o' hbF e)
   | true =>
    rw[if_neg (by decide)]
    refine CNx.mk hil ⟨sT.trans s5,s5 _ _ hDF hH,⟨mp',n',hF5,hM5,by lia⟩,?_,hle'⟩
    rw[zW ht,cN,ef,hb]
    simp only[Bool.not_true,bO,if_false,dc,aS]
    exact hI'
  ·rintro sL H' ⟨sT,hH,_,hI',hle⟩
   rw[hxl,aQ] at hI' hle
   exact k1 hle D H' (back sT) (s03.free hD) ⟨sL,hH,Zm sT hF3 hI'⟩
theorem zb2{p:oP}{a b:V}{i j:Nat}{σ:L2.St}{R:L2.St->Hp->Prop}(h:SqT K H p [a,b])(k:R ((σ.set i (sF a)).set j (sF b)) H):zac K 2 (j4 (xy i) (j4 (xy j) K3)) (.ref p) σ H R:=by
 simp only[zac,j4,xy,K3]
 first
 | exact⟨_,_,rfl,h,rfl,_,_,rfl,_,_,rfl,rfl,k⟩
 | exact⟨_,_,rfl,.inr h,rfl,_,_,rfl,_,_,rfl,rfl,k⟩
theorem EnsA.app{fs:List Ent}{us:List V}(hf:EnsA K H fs us):∀{es:List Ent} {vs:List V},EnsA K H es vs->EnsA K H (es ++ fs) (vs ++ us)
 | [],vs,h=>by
  simp only[EnsA] at h
  subst h
  exact hf
 | e::es,vs,h=>by
  simp only[EnsA] at h
  obtain⟨x,r,rfl,hx,hr⟩:=h
  simp only[bF,EnsA]
  exact⟨x,r ++ us,rfl,hx,hf.app hr⟩
abbrev MkS(P:oV)(w:oX)(K:oO)(mg:oW->Option oQ)(base:pb)(CO CR CW CT CH:oP):Prop:=DMk P w K mg base (CXx P w) 5 CH ["self","order","rules"] (u7 K CO CR CW CT CH)
theorem KD{Q:oP->Hp->Prop}{CO CR CW CT CH o a:oP}{l:List Nat}(ho:OrdAt CO CR CW H o k l ns)(hG:OG l ns k)(hA:LsA K H a (ps.map dR))(hin:InL l ps)(hf:wS k l ns ps 0=sG)(q:∀(y qa:oP) (H':Hp),Same H H'->UC K CH H' y o qa ps->Q y H'):∀x dx,H x=sG->H dx=sG->dx≠x->u7 K CO CR CW CT CH [.ref x,.ref o,.ref a] (upd (upd H dx (.own x)) x (.ins CH dx [])) (λv H'=>v=.non/\Q x H') E0:=by
 intro x dx hx hdx hne
 obtain⟨xs,hX,hI⟩:=hA
 have sd:=zd (o:=.own x) hdx
 have k1:Same H (upd (upd H dx (.own x)) x (.ins CH dx [])):=λb' o' e=>by
  rw[zo (zH e hx)]
  exact sd _ _ e
 refine⟨x,dx,o,a,k,l,ns,ps,xs,rfl,zf,ho.same k1,hG,k1 _ _ hX,Iss.same k1 _ _ hI,hin,(λi e=>by rw[hf] at e;cases e),λ_ q1 H'' kp hx' hq' hqn=>⟨rfl,?_⟩⟩
 have k3:Same H H'':=λb' o' e=>kp b' o' (λz=>by rw[z,hx] at e;cases e) (k1 _ _ e)
 exact q x q1 H'' k3 ⟨dx,xs,hx',hq',Iss.same k3 _ _ hI⟩
theorem BG.inL{l:List Nat}(h:BG k l ns bs):InL l (zc bs):=λp hp=>by
 obtain⟨e,he,rfl⟩:=List.mem_map.mp hp
 have b:=h.e e he
 exact⟨aO b.a (by decide),aO b.b (by decide),b.ma,b.mb⟩
theorem BG.fault{l:List Nat}(h:BG k l ns bs):wS k l ns (zc bs) 0=sG:=uk λm p e=>by
 obtain⟨e',he,rfl⟩:=List.mem_map.mp (af e)
 exact h.lt e' he
def Zc(K:oO)(CO CR CW CH:oP):Sp:=λvs H Q _=>∃(o a:oP) (k:Nat) (l:List Nat) (ns:List Int) (bs:List Ent),vs=[.ref o,.ref a]/\OrdAt CO CR CW H o k l ns/\OG l ns k/\EnsL K H a bs/\BG k l ns bs/\∀(y qa:oP) (H':Hp),Same H H'->UC K CH H' y o qa (zc bs)->Q (.ref y) H'
theorem Zk:zq ["order","entries"] ["order","entries"] (zb xf):=⟨rfl,rfl,rfl,by decide +kernel,rfl,by decide +kernel,by decide +kernel⟩
theorem ZE{f CO CR CW CT CH:oP}(B:Bt mg)(TS:zas K mg CH)(MS:MkS P w K mg base CO CR CW CT CH)(F:Fun K "system_by" "system_by" xf f fd)(gg:Df P w K mg base CX0 1 "pairs_of" ["entries"] [] (wx K)):FnOk P w K mg base CX0 7 f fd ["order","entries"] (Zc K CO CR CW CH):=by
 refine F.ok Zk (λvs H Q E h=>?_) (λcdv A outer s H vs Q E hr h=>?_)
 ·obtain⟨o,a,k,l,ns,bs,rfl,_⟩:=h
  rfl
 ·obtain⟨o,a,k,l,ns,bs,rfl,ho,hG,hA,hB,q⟩:=h
  refine⟨_,(zh (zx (zcY xe0 MS hr rfl TS.g (za (pv 0) (za (cl0 gg hr .nil rfl (za (pv 1) ze)) ze))))),?_⟩
  have s16:=ym
  ac_rfl
  refine wJ hA.is (by have:=hB.n;lia) λD H' _ s' hL=>?_
  exact KD (ho.same s') hG hL hB.inL hB.fault λy qa H'' s'' hy=>q y qa H'' (s'.trans s'') hy
noncomputable def fE(i:Nat)(p:zr):Ent:=(p.1,p.2,[((i:Int),(0:Int),sH)])
noncomputable def fEs(rs:List zr):Nat->List Ent
 | 0=>[]
 | n+1=>fEs rs n ++ ((rs[n]?).map (fE n)).toList
theorem QP{n:Nat}(h:rs[n]? = sF p):fEs rs (n+1)=fEs rs n ++ [fE n p]:=by
 show fEs rs n ++ ((rs[n]?).map (fE n)).toList=_
 rw[h]
 rfl
theorem Vr(rs:List zr):∀n,(fEs rs n).length<=n
 | 0=>au _
 | n+1=>by
  have:=Vr rs n
  show (fEs rs n ++ ((rs[n]?).map (fE n)).toList).length<=_
  rw[am]
  cases rs[n]? with
  | none=>simp;lia
  | some p=>simp;lia
theorem kq:∀{n:Nat} {e:Ent},e ∈ fEs rs n->∃i p,i<n/\rs[i]? = sF p/\e=fE i p
 | 0,e,h=>(nomatch h)
 | n+1,e,h=>by
  have h':e ∈ fEs rs n ++ ((rs[n]?).map (fE n)).toList:=h
  rcases List.mem_append.mp h' with h | h
  ·obtain⟨i,p,hi,hp,he⟩:=kq h
   exact⟨i,p,by lia,hp,he⟩
  ·cases hn:rs[n]? with
   | none=>rw[hn] at h;simp at h
   | some p =>
    rw[hn] at h
    exact⟨n,p,by lia,hn,by simpa using h⟩
def j5(K:oO):Sp:=λvs H Q _=>∃(a:oP) (rs:List zr),vs=[.ref a]/\LsA K H a (rs.map dR)/\rs.length<=20/\∀(D:oP) (H':Hp),Same H H'->H D=sG->EnsM K H' D (fEs rs rs.length)->Q (.ref D) H'
theorem uJ:zq ["pacts"] ["pacts"] (zb zV):=⟨rfl,rfl,rfl,by decide +kernel,rfl,by decide +kernel,by decide +kernel⟩
theorem uK(B:Bt mg)(F:Fun K "first_entries" "first_entries" zV f fd) : FnOk P w K mg base CX0 1 f fd ["pacts"] (j5 K):=by
 refine F.ok uJ (λvs H Q E h=>?_) (λcdv A outer s H vs Q E hr h=>?_)
 ·obtain⟨a,rs,rfl,_⟩:=h
  rfl
 ·obtain⟨a,rs,rfl,hA,hrl,q⟩:=h
  refine⟨_,(zh (zx (xY (g:=zac K 2 (j4 (xy 0) (j4 (xy 1) K3))) (own:=["number","pact"]) (caps:=[]) (ix:=[]) (tt:=vS) (te:=(UA (zP (tOp (uM K) (xw 1) (tC (.int 0))) (zP (tOp (uM K) (xw 1) (tC (.int 1))) (zP (zb3 (zP (UA (zP (xw 0) (zP (tC (.int 0)) (zP (tC (.bl sH)) vd)))) vd)) vd))))) rfl (yb (sc:=zb zV) rfl (by decide +kernel) (by decide +kernel) (by decide +kernel) rfl (by decide +kernel) (by decide +kernel) rfl) (va rfl B.enum (za (pv 0) ze)) (λ_ _ _ _ _ _=>uA (n:=2) rfl (z8 (zC (i:=0) (show List.Nodup [_,_] by decide) rfl (Or.inl rfl)) (z8 (zC (i:=1) (show List.Nodup [_,_] by decide) rfl (Or.inl rfl)) wM))) (λ_ _ _ _ _ _=>xu) (λ_ _ _ _ _ _=>(ya (za (zw ix_tup (pv 1) zg (λ_ _=>rfl)) (za (zw ix_tup (pv 1) zg (λ_ _=>rfl)) (za (xU (za (ya (za (pv 0) (za zg (za xO ze)))) ze)) ze)))))))),?_⟩
  have s16:=ym
  have s16:=ym
  obtain⟨xs,hX,hI⟩:=id hA
  have hxl:=hI.len
  rw[ae] at hxl
  ac_rfl
  rw[za5]
  ac_rfl
  refine⟨⟨_,SqL.of hX⟩,λD hD=>CompEL.by (xs:=xs) (λi sL H'=>Same H H'/\H' D=sF (.lst sL)/\sL.length<=i/\EnsA K (jt D H') (fEs rs i) sL) ⟨zd hD,zf,au _,rfl⟩ (λi sL H' _ h=>SqL.of (h.1 _ _ hX)) ?_ ?_⟩
  ·rintro i x sL H' p hx ⟨hs,hH,hal,hEn⟩ hp
   have hil:=(List.getElem?_eq_some_iff.mp hx).1
   obtain⟨r,pr,hri,rfl,hqr⟩:=hI.getR hx
   have u1:=zd (o:=HO.tup [.int (i:Nat),.ref pr]) hp
   have hq:=zl (hs.trans u1) hqr
   refine zb2 (SqT.of zf) ?_
   simp only[vS]
   rfl'
   refine⟨Q7,_,hq,_,rfl,_,hq,_,rfl,by lia,λp1 hp1=>⟨by lia,λp2 hp2=>⟨by lia,λp3 hp3=>?_⟩⟩⟩
   have u2:=zd (o:=HO.tup [.int (i:Nat),.int 0,.bl sH]) hp1
   have u3:=zd (o:=HO.lst [.ref p1]) hp2
   have u4:=zd (o:=HO.tup [.str (tx r.1),.str (tx r.2),.ref p2]) hp3
   have u:=u1.trans (u2.trans (u3.trans u4))
   have hD4:=u _ _ hH
   have hp2D:p2≠D:=λz=>by rw[z,u2 _ _ (u1 _ _ hH)] at hp2;cases hp2
   refine⟨hD4,by lia,CNx.mk hil ⟨zG (hs.trans u) hD,zf,by rw[am];simp only[aM,cw];lia,?_⟩⟩
   rw[QP hri]
   refine (hEn.same ((wQ u).trans xR)).snoc (EnA.same ?_ xR)
   refine EnA.new (e:=fE i r) hD4 zf ⟨_,u4 _ _ zf,?_⟩ hp2D
   show Iss K _ [dSt ((i:Int),(0:Int),sH)] _
   exact Us (jE (SqT.of (u4 _ _ (u3 _ _ zf))))
  ·rintro sL H' ⟨hs,hH,hal,hEn⟩
   rw[hxl] at hEn
   exact q D H' hs hD ⟨sL,hH,hEn.same wL⟩
noncomputable def jM(es:List Ent):Bool:=decide (12<es.length) || es.any λe=>decide (10<max e.1.length e.2.1.length)
structure TMc(mg:oW->Option oQ):Prop where
 u:∃t,mg "MOST_USES_completing" = sF (.int 40 t)
 e:∃t,mg "MOST_ENTRIES" = sF (.int 12 t)
 d:∃t,mg "MOST_SIDE_completing" = sF (.int 10 t)
 p:∃t,mg "MOST_PEAKS" = sF (.int 8 t)
def qJ(K:oO):Sp:=λvs H Q _=>∃(a:oP) (es:List Ent),vs=[.ref a]/\EnsL K H a es/\es.length<64/\(∀e ∈ es,e.1.length<=10000/\e.2.1.length<=10000)/\∀H',Same H H'->Q (.bl (jM es)) H'
theorem ZL:zq ["entries"] ["entries"] (zb yH):=⟨rfl,rfl,rfl,by decide +kernel,rfl,by decide +kernel,by decide +kernel⟩
theorem ZR(B:Bt mg)(hany:zdr mg)(TM:TMc mg)(F:Fun K "is_beyond" "is_beyond" yH f fd) : FnOk P w K mg base CX0 1 f fd ["entries"] (qJ K):=by
 obtain⟨⟨t9,g9⟩,⟨t8,g8⟩⟩:=And.intro TM.e TM.d
 refine F.ok ZL (λvs H Q E h=>?_) (λcdv A outer s H vs Q E hr h=>?_)
 ·obtain⟨a,es,rfl,_⟩:=h
  rfl
 ·obtain⟨a,es,rfl,hA,hl,hE,q⟩:=h
  refine⟨_,(zi (z9 (zI Xx (zp zX rfl B.len aB (za (pv 0) ze)) (xg (v:=.int 12) rfl g9 ⟨t9,rfl⟩) (zK _))
    (zh (zx xO))
    zD)
   (zh (zx (zp (zb9 rfl) rfl hany PyProof.Rows.boot_any (za (xY (own:=["entry"]) (caps:=[]) (ix:=[]) (tt:=vS) (te:=(tOp zb5 (tCB J4 (zP (tCB (zaa K) (zP (tOp (uM K) (xw 0) (tC (.int 0))) vd)) (zP (tCB (zaa K) (zP (tOp (uM K) (xw 0) (tC (.int 1))) vd)) vd))) (tC (.int 10)))) rfl (yb (sc:=zb yH) rfl (by decide +kernel) (by decide +kernel) (by decide +kernel) rfl (by decide +kernel) (by decide +kernel) rfl) (yC (pv 0)) (λ_ _ _ _ _ _=>zC (i:=0) (show List.Nodup [_] by decide) rfl (Or.inl rfl)) (λ_ _ _ _ _ _=>xu) (λ_ _ _ _ _ _=>(ug Xx (zp (Uw rfl) rfl B.max uT (za (zp zX rfl B.len aB (za (zw ix_tup (pv 0) zg (λ_ _=>rfl)) ze)) (za (zp zX rfl B.len aB (za (zw ix_tup (pv 0) zg (λ_ _=>rfl)) ze)) ze))) (xg (v:=.int 10) rfl g8 ⟨t8,rfl⟩) (zK _)))) ze))))),?_⟩
  have s16:=ym
  have s16:=ym
  obtain⟨xs,hX,hEn⟩:=id hA
  have hxl:=hEn.len
  refine zj (λσ H'=>H'=H/\¬ 12<es.length/\σ=[sF (.ref a)]) ?_ ?_
  ·ac_rfl
   refine⟨_,.inl ⟨_,hX,rfl⟩,xh (λh=>?_) λh=>by lia⟩
   have e:jM es=sH:=by
    unfold jM
    rw[decide_eq_true (by lia),Bool.true_or]
   rw[<- e]
   exact q H (Same.refl _)
  rintro σ H1 ⟨rfl,h12,rfl⟩
  ac_rfl
  refine⟨⟨_,hX⟩,λD hD=>CompL.by (xs:=xs) (λi sL H'=>Same H1 H'/\H' D=sF (.lst sL)/\sL=((es.take i).map λe=>decide (10<max e.1.length e.2.1.length)).map V.bl) ⟨zd hD,zf,rfl⟩ (λi sL H' _ h=>h.1.seq hX) ?_ ?_⟩
  ·rintro i x sL H' hx ⟨hs,hH,rfl⟩
   have hil:=(List.getElem?_eq_some_iff.mp hx).1
   obtain⟨e,p,s,he,rfl,hp,_⟩:=hEn.get hx
   have hq:=zl hs hp
   have hb:=hE e (af he)
   simp only[vS]
   rfl'
   refine⟨wD,_,hq,_,rfl,_,⟨by rw[ye];lia,rfl⟩,_,hq,_,rfl,_,⟨by rw[ye];lia,rfl⟩,hH,by rw[ae,ae,aK];lia,CNx.mk hil ⟨zG hs hD,zf,?_⟩⟩
   rw[zW he,aH,aH,ye,ye]
   congr 1
   show [V.bl _]=[V.bl _]
   congr 2
   refine decide_eq_decide.mpr ?_
   split <;> lia
  ·rintro sL H' ⟨hs,hH,rfl⟩
   rw[hxl,aQ] at hH
   refine⟨D,_,rfl,SqL.of hH,?_⟩
   have e:(es.map λe=>decide (10<max e.1.length e.2.1.length)).any id=jM es:=by
    unfold jM
    rw[decide_eq_false h12,Bool.false_or,List.any_map]
    rfl
   rw[e]
   exact q H' hs
theorem kR(h:jM es=sI):es.length<=12/\∀e ∈ es,e.1.length<=10/\e.2.1.length<=10:=by
 unfold jM at h
 rw[Bool.or_eq_false_iff] at h
 refine⟨by have:=of_decide_eq_false h.1;lia,λe he=>?_⟩
 have:=List.any_eq_false.mp h.2 e he
 have h2:¬ 10<max e.1.length e.2.1.length:=λz=>this (decide_eq_true z)
 lia
def Ub(K:oO)(CO CR CW T:oP):Sp:=λvs H Q _=>∃(o a:oP) (k:Nat) (l:List Nat) (ns:List Int) (es:List Ent),vs=[.ref o,.ref a]/\OrdAt CO CR CW H o k l ns/\OG l ns k/\EnsL K H a es/\es.length<64/\(∀e ∈ es,EB l e)/\TabOk H T lp lq /\
 (∀(bs:List Ent) (D:oP) (H':Hp),vW k l ns 20 es (sF bs)->BG k l ns bs->jM bs=sI->SamT T H H'->TabOk H' T lp lq->EnsM K H' D bs->Q (.ref D) H')/\((vW k l ns 20 es sG\/∃bs,vW k l ns 20 es (sF bs)/\jM bs=sH)->∀H',SamT T H H'->TabOk H' T lp lq->Q .non H')
structure zcX(K:oO)(CF:oP):Prop where
 s:cJ K (.ref CF) (.ref CF)=sF sH
theorem lc:zq ["order","entries","slim"] ["order","entries"] (zb z7):=⟨rfl,rfl,rfl,by decide +kernel,rfl,by decide +kernel,by decide +kernel⟩
theorem vV{f CO CR CW TB CF:oP}(B:Bt mg)(TFx:K9 K mg CF)(TSb:zcX K CF)(F:Fun K "thinned_within" "thinned_within" z7 f fd)(og:Df P w K mg base (CXx P w) 7 "thinned" ["order","entries"] [] (Yt K CO CR CW TB CF))(nU:Df P w K mg base CX0 1 "is_beyond" ["entries"] [] (qJ K)):FnOk P w K mg base CX0 8 f fd ["order","entries"] (Ub K CO CR CW TB):=by
 refine F.ok lc (λvs H Q E h=>?_) (λcdv A outer s H vs Q E hr h=>?_)
 ·obtain⟨o,a,k,l,ns,es,rfl,_⟩:=h
  rfl
 ·obtain⟨o,a,k,l,ns,es,rfl,ho,hG,hA,hz,hE,hTab,q1,q2⟩:=h
  refine⟨_,(zi (U5 (i:=2) (th:=(zbA (tC .non))) lc.nd rfl (Or.inl rfl) (.inl rfl) ⟨rfl,rfl⟩ (clX og hr .nil rfl (za (pv 0) (za (pv 1) ze))) rfl TFx.g TFx.xi.ok (λe=>(zh (zx wj))))
   (zh (zx (kj (xz (cl0 nU hr .nil rfl (za (pv 2) ze)) (λ_=>rfl)) wj (pv 2))))),?_⟩
  have s16:=ym
  have s16:=ym
  refine zj (λσ H'=>SamT TB H H'/\TabOk H' TB lp lq/\∃(bs:List Ent) (D:oP),vW k l ns 20 es (sF bs)/\BG k l ns bs/\EnsM K H' D bs/\σ=[sF (.ref o),sF (.ref a),sF (.ref D)]) ?_ ?_
  ·simp only[Js]
   ac_rfl
   exact⟨o,a,k,l,ns,es,rfl,ho,hG,hA,hz,hE,hTab,λbs D H' h1 h2 h3 h4 h5=>⟨h3,h4,bs,h1,h2,D,h5,rfl⟩,λh H' h3 h4=>⟨CF,rfl,TSb.s,λx hx=>q2 (.inl h) _ (h3.trans (SamT.of (zd hx))) (h4.same (zd hx))⟩⟩
  rintro σ H1 ⟨s1,hT1,bs,D,hTh,hB,hM,rfl⟩
  ac_rfl
  exact⟨D,bs,rfl,hM.l,hB.n,λe he=>⟨aO (hB.e e he).a (by decide),aO (hB.e e he).b (by decide)⟩,λH' s'=>⟨_,rfl,xh (λh=>q2 (.inr ⟨bs,hTh,h⟩) H' (s1.trans (SamT.of s')) (hT1.same s')) λh=>q1 bs D H' hTh hB (by simpa using h) (s1.trans (SamT.of s')) (hT1.same s') (hM.same s')⟩⟩
theorem uR(w:List Nat)(k:Int)(o n:List Nat):(yR w k o n).length<=w.length+n.length:=by
 unfold yR
 rw[am,am,aK,br]
 lia
theorem BG.ok{l:List Nat}(h:BG k l ns bs)(hl:bs.length<=30):jj (zc bs):=by
 refine⟨by unfold zc;rw[ae];exact hl,λr hr=>?_⟩
 obtain⟨e,he,rfl⟩:=List.mem_map.mp hr
 exact⟨aO (h.e e he).a (by decide),aO (h.e e he).b (by decide)⟩
theorem zbl(hok:∀r ∈ ps,r.1.length<=60/\r.2.length<=60){t:N3}(ht:t ∈ ovA ps ps.length):(pkA ps t).length<=180/\(pkB ps t).length<=180:=by
 obtain⟨i1,i2,i3,i4⟩:=uj ht
 obtain⟨r,hr⟩:∃r,ps[t.1]? = sF r:=⟨_,al i1⟩
 obtain⟨r2,hr2⟩:∃r,ps[t.2.1]? = sF r:=⟨_,al i2⟩
 have l1:=wE hr
 have l2:=wE hr2
 have d1:ps.getD t.1 ([],[])=r:=by rw[ac,hr];rfl
 have d2:ps.getD t.2.1 ([],[])=r2:=by rw[ac,hr2];rfl
 rw[l1] at i3
 have b1:=hok r (af hr)
 have b2:=hok r2 (af hr2)
 have hp:=wG r.1 r2.1 t.2.2 (by lia)
 have p1:=uR (yc r.1 r2.1 t.2.2) 0 r.1 r.2
 have p2:=uR (yc r.1 r2.1 t.2.2) (t.2.2:Nat) r2.1 r2.2
 unfold pkA pkB
 rw[l1,l2,d1,d2]
 lia
theorem zaZ(hN:NeL ps)(hok:∀r ∈ ps,r.1.length<=60/\r.2.length<=60):zcM ps 40:=by
 refine⟨by decide,λt ht=>?_⟩
 obtain⟨h1,h2⟩:=zbl hok ht
 have key:∀(v:List Nat),v.length<=180->∀j,j<=40->(wAt ps v j).length<=10000:=λv hv j hj=>by
  have:=qF (l:=v) hN (λp hp=>(hok p hp).2) j
  have h3:j * 60<=40 * 60:=Nat.mul_le_mul hj (au _)
  lia
 exact⟨key _ h1,key _ h2⟩
def Ui(K:oO)(CO CR CW:oP):Sp:=λvs H Q _=>∃(o a:oP) (k:Nat) (l:List Nat) (ns:List Int) (bs:List Ent),vs=[.ref o,.ref a]/\OrdAt CO CR CW H o k l ns/\OG l ns k/\EnsL K H a bs/\BG k l ns bs/\bs.length<=30/\(ovA (zc bs) (zc bs).length).length<=4000 /\
 ((∀t ∈ ovA (zc bs) (zc bs).length,OkG (zc bs) 40 t)->∀D H',Same H H'->LsA K H' D ((unG (zc bs) 40).map d3)->Q (.ref D) H')/\(∀t ∈ ovA (zc bs) (zc bs).length,¬ OkG (zc bs) 40 t->∀H',Same H H'->Q .non H')
theorem jf:zq ["order","entries"] ["order","entries"] (zb yt):=⟨rfl,rfl,rfl,by decide +kernel,rfl,by decide +kernel,by decide +kernel⟩
theorem qj{f CO CR CW CF CH:oP}{lT:rD}(B:Bt mg)(TFx:K9 K mg CF)(TSb:zcX K CF)(TM:TMc mg)(F:Fun K "unmet_within" "unmet_within" yt f fd)(ow:Df P w K mg base (CXx P w) 7 "unmet" ["system","most"] [] (vN K CH CF))(DD_unmet:Df P w K mg base (CXx P w) 7 "unmet" ["system","most"] [.int 4000 lT] (vN K CH CF))(nV:Df P w K mg base CX0 7 "system_by" ["order","entries"] [] (Zc K CO CR CW CH)):FnOk P w K mg base CX0 9 f fd ["order","entries"] (Ui K CO CR CW):=by
 obtain⟨t9,g9⟩:=TM.u
 refine F.ok jf (λvs H Q E h=>?_) (λcdv A outer s H vs Q E hr h=>?_)
 ·obtain⟨o,a,k,l,ns,bs,rfl,_⟩:=h
  rfl
 ·obtain⟨o,a,k,l,ns,bs,rfl,ho,hG,hA,hB,hbl,hol,q1,q2⟩:=h
  refine⟨_,(zh (QC (th:=(zbA (tC .non))) ⟨rfl,rfl⟩ (clX ow hr .nil rfl (za (cl0 nV hr .nil rfl (za (pv 0) (za (pv 1) ze))) (za (xg (v:=.int 40) rfl g9 ⟨t9,rfl⟩) ze))) rfl TFx.g TFx.xi.ok (λe=>(zh (zx wj))))),?_⟩
  have s16:=ym
  have s16:=ym
  simp only[QV]
  ac_rfl
  have hsd:∀r ∈ zc bs,r.1.length<=60/\r.2.length<=60:=λr hr=>by
   obtain⟨e,he,rfl⟩:=List.mem_map.mp hr
   exact⟨(hB.e e he).a,(hB.e e he).b⟩
  exact⟨o,a,k,l,ns,bs,rfl,ho,hG,hA,hB,λy qa H' s' hy=>⟨y,o,qa,zc bs,40,rfl,hy,hB.ne hG,hB.ok hbl,hol,zaZ (hB.ne hG) hsd,λh D H'' s'' _ hL=>q1 h D H'' (s'.trans s'') hL,λt ht h H'' s''=>⟨CF,rfl,TSb.s,λx hx=>q2 t ht h _ (s'.trans (s''.trans (zd hx)))⟩⟩⟩
noncomputable def ju(es:List Ent)(t:N3):Ent:=(pkA (zc es) t,pkB (zc es) t,byL es [((t.1:Int),(0:Int),sI),((t.2.1:Int),(t.2.2:Int),sH)])
def uX(K:oO):Sp:=λvs H Q _=>∃(a t:oP) (es:List Ent) (tr:N3),vs=[.ref a,.ref t]/\EnsL K H a es/\SqT K H t [.int (tr.1:Nat),.int (tr.2.1:Nat),.int (tr.2.2:Nat)]/\tr ∈ ovA (zc es) (zc es).length/\jj (zc es)/\(∀e ∈ es,e.2.2.length<=600)/\∀(p s:oP) (H':Hp),Same H H'->H' p=sF (.tup [.str (tx (ju es tr).1),.str (tx (ju es tr).2.1),.ref s])->LsA K H' s ((ju es tr).2.2.map dSt)->H s=sG->Q (.ref p) H'
theorem lM:zq ["entries","overlap","sides","steps"] ["entries","overlap"] (zb xB):=⟨rfl,rfl,rfl,by decide +kernel,rfl,by decide +kernel,by decide +kernel⟩
theorem Yy(B:Bt mg)(F:Fun K "entry_of" "entry_of" xB f fd)(nO:Df P w K mg base CX0 4 "peak" ["rules","overlap"] [] (qT K))(lm:Df P w K mg base CX0 2 "by_pacts" ["entries","steps"] [] (Vl K))(gg:Df P w K mg base CX0 1 "pairs_of" ["entries"] [] (wx K)):FnOk P w K mg base CX0 5 f fd ["entries","overlap"] (uX K):=by
 refine F.ok lM (λvs H Q E h=>?_) (λcdv A outer s H vs Q E hr h=>?_)
 ·obtain⟨a,t,es,tr,rfl,_⟩:=h
  rfl
 ·obtain⟨a,t,es,tr,rfl,hA,ht,htr,hok,hst,q⟩:=h
  refine⟨_,(zi (zt (i:=2) lM.nd rfl (Or.inl rfl) (cl0 nO hr .nil rfl (za (cl0 gg hr .nil rfl (za (pv 0) ze)) (za (pv 1) ze))))
   (zi (zt (i:=3) lM.nd rfl (Or.inl rfl) (cl0 lm hr .nil rfl (za (pv 0) (za (xU (za (ya (za (zw ix_tup (pv 1) zg (λ_ _=>rfl)) (za zg (za xO ze)))) (za (ya (za (zw ix_tup (pv 1) zg (λ_ _=>rfl)) (za (zw ix_tup (pv 1) zg (λ_ _=>rfl)) (za xO ze)))) ze))) ze))))
   (zh (zx (ya (za (zw ix_tup (pv 2) zg (λ_ _=>rfl)) (za (zw ix_tup (pv 2) zg (λ_ _=>rfl)) (za (pv 3) ze)))))))),?_⟩
  have s16:=ym
  have s16:=ym
  have hlp:(zc es).length=es.length:=by unfold zc;rw[ae]
  obtain⟨i1,i2,i3,i4⟩:=uj htr
  obtain⟨r,hr1⟩:∃r,(zc es)[tr.1]? = sF r:=⟨_,al i1⟩
  obtain⟨r2,hr2⟩:∃r,(zc es)[tr.2.1]? = sF r:=⟨_,al i2⟩
  have l1:=wE hr1
  have l2:=wE hr2
  have d1:(zc es).getD tr.1 ([],[])=r:=by rw[ac,hr1];rfl
  have d2:(zc es).getD tr.2.1 ([],[])=r2:=by rw[ac,hr2];rfl
  have eA:pkA (zc es) tr=yR (yc r.1 r2.1 tr.2.2) 0 r.1 r.2:=by unfold pkA;rw[l1,l2,d1]
  have eB:pkB (zc es) tr=yR (yc r.1 r2.1 tr.2.2) (tr.2.2:Nat) r2.1 r2.2:=by unfold pkB;rw[l1,l2,d2]
  rw[l1] at i3
  rw[l1,l2] at i4
  refine zj (λσ H'=>Same H H'/\∃p:oP,(∃x,H' p=sF (.tup [x,.str (tx (pkA (zc es) tr)),.str (tx (pkB (zc es) tr))]))/\σ=[sF (.ref a),sF (.ref t),sF (.ref p),sG]) ?_ ?_
  ·rfl'
   refine wJ hA.is (by have:=hok.1;lia) λD H1 _ s1 hL=>?_
   exact Xi hL.is (zl s1 ht) hok hr1 hr2 (by lia) i4 λp H' _ s' hp=>⟨s1.trans s',p,⟨_,by rw[eA,eB];exact hp⟩,rfl⟩
  rintro σ H1 ⟨s1,p,⟨x,hp⟩,rfl⟩
  refine zj (λσ H'=>Same H1 H'/\∃S:oP,H S=sG/\LsA K H' S ((ju es tr).2.2.map dSt)/\σ=[sF (.ref a),sF (.ref t),sF (.ref p),sF (.ref S)]) ?_ ?_
  ·have ht1:=zl s1 ht
   rfl'
   refine⟨_,ht1,_,rfl,by lia,λp1 hp1=>?_⟩
   have u1:=zd (o:=HO.tup [.int (tr.1:Nat),.int 0,.bl sI]) hp1
   refine⟨_,zl u1 ht1,_,rfl,_,zl u1 ht1,_,rfl,by lia,λp2 hp2=>⟨by lia,λp3 hp3=>?_⟩⟩
   have u2:=zd (o:=HO.tup [.int (tr.2.1:Nat),.int (tr.2.2:Nat),.bl sH]) hp2
   have u3:=zd (o:=HO.lst [.ref p1,.ref p2]) hp3
   have u:=u1.trans (u2.trans u3)
   refine W3 (us:=[((tr.1:Int),(0:Int),sI),((tr.2.1:Int),(tr.2.2:Int),sH)]) (hA.same (s1.trans u)).is (LsA.is ⟨_,zf,?_⟩) (by simp) hst (λv hv=>?_) λD H' hDn s' hL=>⟨u.trans s',D,(s1.trans u).free hDn,hL,rfl⟩
   ·simp only[aC,aN,Iss]
    exact⟨_,_,rfl,jE (SqT.of (u3 _ _ (u2 _ _ zf))),_,_,rfl,jE (SqT.of (u3 _ _ zf)),rfl⟩
   ·simp only[dm,List.not_mem_nil,or_false] at hv
    rcases hv with rfl | rfl
    ·exact⟨by simp,by show (tr.1:Int)<_;lia⟩
    ·exact⟨by simp,by show (tr.2.1:Int)<_;lia⟩
  rintro σ H2 ⟨s2,S,hSn,hS,rfl⟩
  rfl'
  exact⟨_,SqT.of (s2 _ _ hp),_,rfl,_,SqT.of (s2 _ _ hp),_,rfl,by lia,λp' hp'=>q p' S _ (s1.trans (s2.trans (zd hp'))) zf (hS.same (zd hp')) hSn⟩
theorem QN{l:List Nat}(h:¬ jl e):¬ jl (yy k l ns e):=by
 unfold yy
 split
 ·exact h
 ·unfold jl at h ⊢
  rw[xQ]
  show ¬ (240<e.2.2.length\/60<e.2.1.length\/60<e.1.length)
  lia
theorem Wf{l:List Nat}{bs es:List Ent}{r:Option (List Ent)}(h:xL k l ns bs es r):(∀e ∈ bs,¬ jl e)->∀fs,r=sF fs->∀e ∈ fs,¬ jl e:=by
 induction h with
 | nil bs=>exact λh fs e=>by cases e;exact h
 | same _ _ _ _ ih=>exact ih
 | new _ _ _ h4 _ ih =>
  intro h
  refine ih λe he=>?_
  rcases List.mem_append.mp he with he | he
  ·exact h e he
  ·rw[List.mem_singleton.mp he]
   exact QN h4
 | far _ _ _ _=>exact λ_ fs e=>by cases e
 | stuck _=>exact λ_ fs e=>by cases e
theorem jg{k n:Nat}{l:List Nat}{r:Option (List Ent)}(h:vW k l ns n es r):∀fs,r=sF fs->∀e ∈ fs,¬ jl e:=by
 induction h with
 | out es=>exact λfs e=>by cases e
 | bad _ _=>exact λfs e=>by cases e
 | done _ h2 _=>exact λfs e=>by cases e;exact Wf h2 (λe he=>(nomatch he)) _ rfl
 | more _ _ _ _ ih=>exact ih
theorem WC{M:Nat}(h:∀e ∈ es,e.2.2.length<=M)(u:Stp):(XJ es u).length<=M:=by
 have hg:(es.getD u.1.toNat ([],[],[])).2.2.length<=M:=by
  rw[ac]
  cases e:es[u.1.toNat]? with
  | none=>exact aJ _
  | some x=>exact h x (af e)
 unfold XJ
 rw[YV]
 split
 ·exact hg
 ·rw[xQ]
  exact hg
inductive Cpl(k:Nat)(l:List Nat)(ns:List Int):Nat->List Ent->List Ent->Bool->List Ent->Prop where
 | out (kept fresh:List Ent):Cpl k l ns 0 kept fresh sI kept
 | slim {n:Nat} {kept fresh:List Ent} (h:vW k l ns 20 fresh sG\/∃bs,vW k l ns 20 fresh (sF bs)/\jM bs=sH):Cpl k l ns (n+1) kept fresh sI kept
 | far {n:Nat} {kept fresh bs:List Ent} {t:N3} (h:vW k l ns 20 fresh (sF bs)) (hb:jM bs=sI) (ht:t ∈ ovA (zc bs) (zc bs).length) (ho:¬ OkG (zc bs) 40 t):Cpl k l ns (n+1) kept fresh sI bs
 | whole {n:Nat} {kept fresh bs:List Ent} (h:vW k l ns 20 fresh (sF bs)) (hb:jM bs=sI) (ho:∀t ∈ ovA (zc bs) (zc bs).length,OkG (zc bs) 40 t) (hu:unG (zc bs) 40=[]):Cpl k l ns (n+1) kept fresh sH bs
 | more {n:Nat} {kept fresh bs es:List Ent} {w:Bool} (h:vW k l ns 20 fresh (sF bs)) (hb:jM bs=sI) (ho:∀t ∈ ovA (zc bs) (zc bs).length,OkG (zc bs) 40 t) (hu:unG (zc bs) 40≠[]) (r:Cpl k l ns n bs (bs ++ ((unG (zc bs) 40).take 8).map (ju bs)) w es):Cpl k l ns (n+1) kept fresh w es
theorem za4(hl:ps.length<=12)(h:∀r ∈ ps,r.1.length<=10):(ovA ps ps.length).length<=4000:=by
 have lfl:∀i,(lf ps i).length<=10:=λi=>by
  cases e:ps[i]? with
  | none=>unfold lf;rw[ac,e];exact aJ _
  | some r=>rw[wE e];exact h r (af e)
 have oI:∀i m,(ovI ps i m).length<=m * 10:=λi m=>by
  induction m with
  | zero=>exact aJ _
  | succ m ih =>
   rw[uP,am]
   have h1:=uQ ps i m (lf ps i).length
   have h2:=lfl i
   lia
 have oA:∀m,(ovA ps m).length<=m * 120:=λm=>by
  induction m with
  | zero=>exact aJ _
  | succ m ih =>
   rw[j9,am]
   have h1:=oI m ps.length
   lia
 have:=oA ps.length
 lia
theorem zbX{l:List Nat}(hin:∀r ∈ ps,(∀c ∈ r.1,c ∈ l)/\∀c ∈ r.2,c ∈ l)(h10:∀r ∈ ps,r.1.length<=10/\r.2.length<=10){t:N3}(ht:t ∈ ovA ps ps.length):((pkA ps t).length<=60/\∀c ∈ pkA ps t,c ∈ l)/\(pkB ps t).length<=60/\∀c ∈ pkB ps t,c ∈ l:=by
 obtain⟨i1,i2,i3,i4⟩:=uj ht
 obtain⟨r,hr⟩:∃r,ps[t.1]? = sF r:=⟨_,al i1⟩
 obtain⟨r2,hr2⟩:∃r,ps[t.2.1]? = sF r:=⟨_,al i2⟩
 have l1:=wE hr
 have l2:=wE hr2
 have d1:ps.getD t.1 ([],[])=r:=by rw[ac,hr];rfl
 have d2:ps.getD t.2.1 ([],[])=r2:=by rw[ac,hr2];rfl
 rw[l1] at i3
 have b1:=h10 r (af hr)
 have b2:=h10 r2 (af hr2)
 have n1:=hin r (af hr)
 have n2:=hin r2 (af hr2)
 have hp:=wG r.1 r2.1 t.2.2 (by lia)
 have p1:=uR (yc r.1 r2.1 t.2.2) 0 r.1 r.2
 have p2:=uR (yc r.1 r2.1 t.2.2) (t.2.2:Nat) r2.1 r2.2
 have hw:∀c ∈ yc r.1 r2.1 t.2.2,c ∈ l:=λc hc=>by
  unfold yc at hc
  rcases List.mem_append.mp hc with h | h
  ·exact n1.1 c h
  ·exact n2.1 c (cf h)
 have put:∀(k:Int) (o n:List Nat),(∀c ∈ n,c ∈ l)->∀c ∈ yR (yc r.1 r2.1 t.2.2) k o n,c ∈ l:=λk o n hn c hc=>by
  unfold yR at hc
  rcases List.mem_append.mp hc with hc | hc
  ·rcases List.mem_append.mp hc with hc | hc
   ·exact hw c (bu hc)
   ·exact hn c hc
  ·exact hw c (cf hc)
 unfold pkA pkB
 rw[l1,l2,d1,d2]
 exact⟨⟨by lia,put _ _ _ n1.2⟩,by lia,put _ _ _ n2.2⟩
theorem Vb{l:List Nat}(hB:BG k l ns bs)(hb:jM bs=sI)(hs:∀e ∈ bs,e.2.2.length<=240){t:N3}(ht:t ∈ ovA (zc bs) (zc bs).length):EB l (ju bs t):=by
 obtain⟨b1,b2⟩:=kR hb
 obtain⟨h1,h2⟩:=zbX (l:=l) (ps:=zc bs) (λr hr=>by
  obtain⟨e,he,rfl⟩:=List.mem_map.mp hr
  exact⟨(hB.e e he).ma,(hB.e e he).mb⟩) (λr hr=>by
  obtain⟨e,he,rfl⟩:=List.mem_map.mp hr
  exact b2 e he) ht
 refine⟨h1.1,h2.1,?_,h1.2,h2.2⟩
 show (byL bs [((t.1:Int),(0:Int),sI),((t.2.1:Int),(t.2.2:Int),sH)]).length<=600
 unfold byL
 rw[List.flatMap_cons,List.flatMap_cons,List.flatMap_nil,aS,am]
 have o1:=WC hs ((t.1:Int),(0:Int),sI)
 have o2:=WC hs ((t.2.1:Int),(t.2.2:Int),sH)
 lia
theorem EnsM.samT{T:oP}{H H':Hp}{ps:Array oQ}{a:oP}(h:EnsM K H a es)(s:SamT T H H')(hT:H T=sF (.tbl ps)):EnsM K H' a es:=by
 obtain⟨xs,h1,h2⟩:=h
 exact⟨xs,s.at hT h1 (λ_ z=>by cases z),EnsA.samT s hT h2⟩
def zb0(K:oO)(T:oP)(H:Hp)(k:Nat)(l:List Nat)(ns:List Int)(rs:List zr)(m n:Nat)(H':Hp)(Dk Df:oP):Prop:=∃kept fresh:List Ent,SamT T H H'/\TabOk H' T lp lq/\EnsM K H' Dk kept/\EnsL K H' Df fresh/\fresh.length<64/\(∀e ∈ fresh,EB l e)/\BG k l ns kept/\∀w es,Cpl k l ns n kept fresh w es->Cpl k l ns m [] (fEs rs rs.length) w es
def W1(K:oO)(CO CR CW T:oP):Sp:=λvs H Q _=>∃(o a:oP) (k:Nat) (l:List Nat) (ns:List Int) (rs:List zr) (m:Nat),vs=[.ref o,.ref a,.int (m:Nat)]/\OrdAt CO CR CW H o k l ns/\OG l ns k/\LsA K H a (rs.map dR)/\rs.length<=20/\InL l rs/\(∀r ∈ rs,r.1.length<=60/\r.2.length<=60)/\m<=1000/\TabOk H T lp lq/\∀(w:Bool) (es:List Ent) (p D:oP) (H':Hp),Cpl k l ns (m+1) [] (fEs rs rs.length) w es->BG k l ns es->SamT T H H'->TabOk H' T lp lq->H' p=sF (.tup [.bl w,.ref D])->EnsM K H' D es->Q (.ref p) H'
theorem fO:zq ["order","pacts","rounds","kept","fresh","turn","slim","lacking"] ["order","pacts","rounds"] (zb yG):=⟨rfl,rfl,rfl,by decide +kernel,rfl,by decide +kernel,by decide +kernel⟩
theorem ZH{f CO CR CW TB:oP}(B:Bt mg)(TM:TMc mg)(F:Fun K "completed" "completed" yG f fd)(nq:Df P w K mg base CX0 1 "first_entries" ["pacts"] [] (j5 K))(mS:Df P w K mg base CX0 8 "thinned_within" ["order","entries"] [] (Ub K CO CR CW TB))(nA:Df P w K mg base CX0 9 "unmet_within" ["order","entries"] [] (Ui K CO CR CW))(nZ:Df P w K mg base CX0 5 "entry_of" ["entries","overlap"] [] (uX K)):FnOk P w K mg base CX0 10 f fd ["order","pacts","rounds"] (W1 K CO CR CW TB):=by
 obtain⟨t9,g9⟩:=TM.p
 refine F.ok fO (λvs H Q E h=>?_) (λcdv A outer s H vs Q E hr h=>?_)
 ·obtain⟨o,a,k,l,ns,rs,m,rfl,_⟩:=h
  rfl
 ·obtain⟨o,a,k,l,ns,rs,m,rfl,ho,hG,hA,hrl,hin,h60,hm,hTab,q⟩:=h
  refine⟨_,(zi (zt (i:=3) fO.nd rfl (Or.inr rfl) (xU ze))
   (zi (zt (i:=4) fO.nd rfl (Or.inl rfl) (cl0 nq hr .nil rfl (za (pv 1) ze)))
   (zi (yE PassesOwn.never rfl (xN rfl B.range (za (zB op_add (pv 2) zg) ze)) (zC (i:=5) fO.nd rfl (Or.inl rfl))
    (zi (zt (i:=6) fO.nd rfl (Or.inl rfl) (cl0 mS hr .nil rfl (za (pv 0) (za (pv 4) ze))))
    (zi (z9 (zI op_isN' (pv 6) wj (zK _))
     (zh (zx (ya (za xO (za (pv 3) ze)))))
     zD)
    (zi (zt (i:=3) fO.nd rfl (Or.inr rfl) (pv 6))
    (zi (zt (i:=7) fO.nd rfl (Or.inl rfl) (cl0 nA hr .nil rfl (za (pv 0) (za (pv 3) ze))))
    (zi (z9 (zI op_isN' (pv 7) wj (zK _))
     (zh (zx (ya (za xO (za (pv 3) ze)))))
     zD)
    (zi (z9 (zI qG (zp zX rfl B.len aB (za (pv 7) ze)) zg (zK _))
     (zh (zx (ya (za xO (za (pv 3) ze)))))
     zD)
    (zh (zt (i:=4) fO.nd rfl (Or.inl rfl) (zB kr (pv 3) (xY (own:=["overlap"]) (caps:=["kept"]) (ix:=[3]) (tt:=vS) (te:=(jr (uX K) [] E0 (zP (xw 1) (zP (xw 0) vd)))) rfl (yb (sc:=zb yG) rfl (by decide +kernel) (by decide +kernel) (by decide +kernel) rfl (by decide +kernel) (by decide +kernel) rfl) (yC (yk sl_list (pv 7) xZ (yf (xg (v:=.int 8) rfl g9 ⟨t9,rfl⟩)))) (λ_ _ _ _ _ _=>zC (i:=0) (show List.Nodup [_,_] by decide) rfl (Or.inl rfl)) (λ_ _ _ _ _ _=>xu) (λ_ _ _ _ _ _=>(cl0 nZ hr .nil rfl (za (pv 1) (za (pv 0) ze)))))))))))))))
   (zh (zx (ya (za xO (za (pv 3) ze)))))))),?_⟩
  have s16:=ym
  have s16:=ym
  have hTt:=hTab
  obtain⟨tp,htp,_⟩:=hTt
  refine zj (λσ H'=>Same H H'/\∃Dk:oP,H' Dk=sF (.lst [])/\σ=[sF (.ref o),sF (.ref a),sF (.int (m:Nat)),sF (.ref Dk),sG,sG,sG,sG]) ?_ ?_
  ·ac_rfl
   exact⟨by lia,λp hp=>⟨zd hp,zf⟩⟩
  rintro σ H1 ⟨s1,Dk0,hDk0,rfl⟩
  have hE0:∀e ∈ fEs rs rs.length,EB l e:=λe he=>by
   obtain⟨i,p,hi,hp,rfl⟩:=kq he
   have h1:=h60 p (af hp)
   have h2:=hin p (af hp)
   exact⟨h1.1,h1.2,by show ([((i:Int),(0:Int),sH)]:List Stp).length<=600;simp,h2.2.2.1,h2.2.2.2⟩
  refine zj (λσ H'=>∃Df:oP,zb0 K TB H k l ns rs (m+1) (m+1) H' Dk0 Df/\σ=[sF (.ref o),sF (.ref a),sF (.int (m:Nat)),sF (.ref Dk0),sF (.ref Df),sG,sG,sG]) ?_ ?_
  ·ac_rfl
   exact⟨a,rs,rfl,hA.same s1,hrl,λDf H' s' _ hM=>⟨Df,⟨[],fEs rs rs.length,SamT.of (s1.trans s'),hTab.same (s1.trans s'),⟨[],s' _ _ hDk0,rfl⟩,hM.l,by have:=Vr rs rs.length;lia,hE0,⟨by simp,λe he=>(nomatch he),λe he=>(nomatch he)⟩,λw es h=>h⟩,rfl⟩⟩
  rintro σ H2 ⟨Df0,hC0,rfl⟩
  refine zj (λσ H'=>∃(Dk Df:oP) (v5 v6 v7:Option V),zb0 K TB H k l ns rs (m+1) 0 H' Dk Df/\σ=[sF (.ref o),sF (.ref a),sF (.int (m:Nat)),sF (.ref Dk),sF (.ref Df),v5,v6,v7]) ?_ ?_
  ·ac_rfl
   refine⟨by lia,by lia,ForR.by (λi σ H'=>∃(Dk Df:oP) (v5 v6 v7:Option V),zb0 K TB H k l ns rs (m+1) (m+1 - i) H' Dk Df/\σ=[sF (.ref o),sF (.ref a),sF (.int (m:Nat)),sF (.ref Dk),sF (.ref Df),v5,v6,v7]) ⟨Dk0,Df0,sG,sG,sG,hC0,rfl⟩ ?_ ?_⟩
   ·rintro i σ H' hi ⟨Dk,Df,v5,v6,v7,⟨kept,fresh,sT,hT,hK,hF,hfl,hfE,hB,hcp⟩,rfl⟩
    have hi':i<m+1:=by lia
    have en:m+1 - i=(m+1 - (i+1))+1:=by lia
    rw[en] at hcp
    have hTt:=hT
    obtain⟨tq,htq,_⟩:=hTt
    have ho':=ho.samT sT htp
    simp only[xy,bj,bi]
    refine zj (λσ' G=>SamT TB H' G/\TabOk G TB lp lq/\(((vW k l ns 20 fresh sG\/∃bs,vW k l ns 20 fresh (sF bs)/\jM bs=sH)/\σ'=[sF (.ref o),sF (.ref a),sF (.int (m:Nat)),sF (.ref Dk),sF (.ref Df),sF (.int (0+(i:Int))),sF (.non),v7])\/∃(bs:List Ent) (D:oP),vW k l ns 20 fresh (sF bs)/\BG k l ns bs/\jM bs=sI/\EnsM K G D bs/\σ'=[sF (.ref o),sF (.ref a),sF (.int (m:Nat)),sF (.ref Dk),sF (.ref Df),sF (.int (0+(i:Int))),sF (.ref D),v7])) ?_ ?_
    ·ac_rfl
     exact⟨o,Df,k,l,ns,fresh,rfl,ho',hG,hF,hfl,hfE,hT,λbs D G h1 h2 h3 h4 h5 h6=>⟨h4,h5,.inr ⟨bs,h1,h2,h3,D,h6,rfl⟩⟩,λh G h4 h5=>⟨h4,h5,.inl ⟨h,rfl⟩⟩⟩
    rintro σ' G1 ⟨g1,hT1,hcase⟩
    have hK1:=hK.samT g1 htq
    refine zj (λσ' G=>Same G1 G/\∃(bs:List Ent) (D:oP),vW k l ns 20 fresh (sF bs)/\BG k l ns bs/\jM bs=sI/\EnsM K G D bs/\σ'=[sF (.ref o),sF (.ref a),sF (.int (m:Nat)),sF (.ref Dk),sF (.ref Df),sF (.int (0+(i:Int))),sF (.ref D),v7]) ?_ ?_
    ·rcases hcase with ⟨hno,rfl⟩ | ⟨bs,D,h1,h2,h3,h4,rfl⟩
     ·ac_rfl
      exact⟨by lia,λp hp=>q sI kept p Dk _ (hcp _ _ (.slim hno)) hB (sT.trans (g1.trans (SamT.of (zd hp)))) (hT1.same (zd hp)) zf (hK1.same (zd hp))⟩
     ·ac_rfl
      exact⟨Same.refl _,bs,h1,h2,h3,h4⟩
    rintro σ' G2 ⟨s2,bs,D,hTh,hBb,hbey,hD,rfl⟩
    refine zj (λσ' G=>G=G2/\σ'=[sF (.ref o),sF (.ref a),sF (.int (m:Nat)),sF (.ref D),sF (.ref Df),sF (.int (0+(i:Int))),sF (.ref D),v7]) ?_ ?_
    ·ac_rfl
    rintro σ' G3 ⟨rfl,rfl⟩
    have sT3:SamT TB H G3:=sT.trans (g1.trans (SamT.of s2))
    have hT3:=hT1.same s2
    have ho3:=ho.samT sT3 htp
    obtain⟨b12,b10⟩:=kR hbey
    have hpl:(zc bs).length=bs.length:=by unfold zc;rw[ae]
    have hol:=za4 (ps:=zc bs) (by lia) λr hr=>by
     obtain⟨e,he,rfl⟩:=List.mem_map.mp hr
     exact (b10 e he).1
    have hnear:∀e ∈ bs,e.2.2.length<=240:=λe he=>by
     have:=jg hTh bs rfl e he
     unfold jl at this
     lia
    refine zj (λσ' G=>Same G3 G/\(((∃t ∈ ovA (zc bs) (zc bs).length,¬ OkG (zc bs) 40 t)/\σ'=[sF (.ref o),sF (.ref a),sF (.int (m:Nat)),sF (.ref D),sF (.ref Df),sF (.int (0+(i:Int))),sF (.ref D),sF (.non)])\/∃L:oP,(∀t ∈ ovA (zc bs) (zc bs).length,OkG (zc bs) 40 t)/\LsA K G L ((unG (zc bs) 40).map d3)/\σ'=[sF (.ref o),sF (.ref a),sF (.int (m:Nat)),sF (.ref D),sF (.ref Df),sF (.int (0+(i:Int))),sF (.ref D),sF (.ref L)])) ?_ ?_
    ·ac_rfl
     exact⟨o,D,k,l,ns,bs,rfl,ho3,hG,hD.l,hBb,by lia,hol,λh L G s' hL=>⟨s',.inr ⟨h,L,hL,rfl⟩⟩,λt ht h G s'=>⟨s',.inl ⟨⟨t,ht,h⟩,rfl⟩⟩⟩
    rintro σ' G4 ⟨s4,hcase⟩
    refine zj (λσ' G=>Same G3 G/\∃L:oP,(∀t ∈ ovA (zc bs) (zc bs).length,OkG (zc bs) 40 t)/\LsA K G L ((unG (zc bs) 40).map d3)/\σ'=[sF (.ref o),sF (.ref a),sF (.int (m:Nat)),sF (.ref D),sF (.ref Df),sF (.int (0+(i:Int))),sF (.ref D),sF (.ref L)]) ?_ ?_
    ·rcases hcase with ⟨⟨t,ht,hno⟩,rfl⟩ | ⟨L,h1,h2,rfl⟩
     ·ac_rfl
      exact⟨by lia,λp hp=>q sI bs p D _ (hcp _ _ (.far hTh hbey ht hno)) hBb (sT3.trans (SamT.of (s4.trans (zd hp)))) (hT3.same (s4.trans (zd hp))) zf (hD.same (s4.trans (zd hp)))⟩
     ·ac_rfl
      exact⟨s4,h1,h2⟩
    rintro σ' G5 ⟨s5,L,hok,hL,rfl⟩
    refine zj (λσ' G=>G=G5/\unG (zc bs) 40≠[]/\σ'=[sF (.ref o),sF (.ref a),sF (.int (m:Nat)),sF (.ref D),sF (.ref Df),sF (.int (0+(i:Int))),sF (.ref D),sF (.ref L)]) ?_ ?_
    ·ac_rfl
     obtain⟨xs,hX,hI⟩:=id hL
     have hxl:=hI.len
     rw[ae] at hxl
     refine⟨_,.inl ⟨_,SqL.of hX,rfl⟩,xh (λh=>⟨by lia,λp hp=>q sH bs p D _ (hcp _ _ (.whole hTh hbey hok (List.length_eq_zero_iff.mp (by lia)))) hBb (sT3.trans (SamT.of (s5.trans (zd hp)))) (hT3.same (s5.trans (zd hp))) zf (hD.same (s5.trans (zd hp)))⟩) λh z=>h ?_⟩
     rw[z] at hxl
     show ((xs.length:Nat):Int)=0
     rw[hxl]
     rfl
    rintro σ' G6 ⟨rfl,hne,rfl⟩
    ac_rfl
    obtain⟨xs,hX,hI⟩:=id hL
    have hxl:=hI.len
    rw[ae] at hxl
    have hct:Jk xs sG (sF 8)=xs.take 8:=ZB xs (k:=8) (by decide)
    refine⟨_,SqL.of hX,λp hp=>?_⟩
    rw[hct]
    have u1:=zd (o:=HO.lst (xs.take 8)) hp
    have hS7:(upd G6 p (.lst (xs.take 8))) p=sF (.lst (xs.take 8)):=zf
    have hX7:=Iss.same u1 _ _ hI
    have hD7:=hD.same (s5.trans u1)
    refine⟨⟨_,SqL.of hS7⟩,λE1 hE1=>?_⟩
    generalize upd G6 p (.lst (xs.take 8))=G7 at *
    refine CompL.by (xs:=xs.take 8) (λj sL H'=>Same G7 H'/\H' E1=sF (.lst sL)/\sL.length<=j/\EnsA K (jt E1 H') (((unG (zc bs) 40).take j).map (ju bs)) sL) ⟨zd hE1,zf,au _,rfl⟩ (λj sL H' _ h=>SqL.of (h.1 _ _ hS7)) ?_ ?_
    ·rintro j x sL H' hx ⟨hs,hH,hal,hEn⟩
     have hjl:=(List.getElem?_eq_some_iff.mp hx).1
     have hj8:j<8:=by rw[aK] at hjl;lia
     rw[bx hj8] at hx
     obtain⟨t,pt,ht,rfl,hpt⟩:=hX7.get3 hx
     have htm:=(List.mem_filter.mp (af ht)).1
     simp only[vS]
     rfl'
     refine⟨wD,D,pt,bs,t,rfl,(hD7.same hs).l,zl hs hpt,htm,hBb.ok (by lia),λe he=>(hBb.e e he).s,λp' s' H5 h1 h2 h3 h4=>?_⟩
     have hH5:=h1 _ _ hH
     have hsE:s'≠E1:=λz=>by rw[z,hH] at h4;cases h4
     refine⟨hH5,by lia,CNx.mk hjl ⟨zG (hs.trans h1) hE1,zf,by rw[am];simp only[aM,cw];lia,?_⟩⟩
     rw[zW ht,aH]
     exact (hEn.same ((wQ h1).trans xR)).snoc ((EnA.new (e:=ju bs t) hH5 h2 h3 hsE).same xR)
    ·rintro sL H' ⟨hs,hH,hal,hEn⟩
     have hEn':EnsA K H' (((unG (zc bs) 40).take 8).map (ju bs)) sL:=by
      have h1:=hEn.same wL
      rw[aK,hxl] at h1
      have e:(unG (zc bs) 40).take (min 8 (unG (zc bs) 40).length)=(unG (zc bs) 40).take 8:=by
       rw[<- eQ,aQ]
      rw[e] at h1
      exact h1
     have hal8:sL.length<=8:=by rw[aK] at hal;lia
     obtain⟨xk,hxk,hek⟩:=hD7.same hs
     have hkl:=hek.len
     refine⟨E1,rfl,xk,hxk,sL,hH,by lia,λp2 hp2=>⟨D,p2,⟨bs,_,sT3.trans (SamT.of (s5.trans (u1.trans (hs.trans (zd hp2))))),hT3.same (s5.trans (u1.trans (hs.trans (zd hp2)))),⟨xk,zd hp2 _ _ hxk,hek.same (zd hp2)⟩,⟨xk ++ sL,SqL.of zf,(hEn'.same (zd hp2)).app (hek.same (zd hp2))⟩,?_,λe he=>?_,hBb,λw es h=>hcp w es (.more hTh hbey hok hne h)⟩,rfl,rfl⟩⟩
     ·rw[am,ae,aK]
      lia
     ·rcases List.mem_append.mp he with he | he
      ·exact hBb.e e he
      ·obtain⟨t,ht,rfl⟩:=List.mem_map.mp he
       exact Vb hBb hbey hnear (List.mem_filter.mp (bu ht)).1
   ·rintro σ H' ⟨Dk,Df,v5,v6,v7,hC,rfl⟩
    rw[show ((m:Int)+1).toNat=m+1 by lia,Nat.sub_self] at hC
    exact⟨Dk,Df,hC,_,_,_,rfl⟩
  rintro σ H3 ⟨Dk,Df,v5,v6,v7,⟨kept,fresh,sT,hT,hK,hF,hfl,hfE,hB,hcp⟩,rfl⟩
  ac_rfl
  exact⟨by lia,λp hp=>q sI kept p Dk _ (hcp _ _ (.out kept fresh)) hB (sT.trans (SamT.of (zd hp))) (hT.same (zd hp)) zf (hK.same (zd hp))⟩
theorem jX{w:List Nat}{i:Nat}{q:Int}{f:Bool}{r:zr}(hr:ps[i]? = sF r)(h:zu w q (sdl r f).1=sH):yn ps w ((i:Int),q,f)=sF (yR w q (sdl r f).1 (sdl r f).2):=by
 have hi:=(List.getElem?_eq_some_iff.mp hr).1
 have e:ps.getD ((i:Int),q,f).1.toNat ([],[])=r:=by
  show ps.getD ((i:Int)).toNat ([],[])=r
  rw[aX,ac,hr]
  rfl
 rw[yF (show 0<=((i:Int),q,f).1/\((i:Int),q,f).1<ps.length by constructor <;> simp <;> lia),e,if_pos h]
theorem Xa{n:Nat}(h:e ∈ fEs rs n):EOk rs e:=by
 obtain⟨i,p,hi,hp,rfl⟩:=kq h
 show yd rs p.1 [((i:Int),(0:Int),sH)]=sF p.2
 have hs:zu p.1 0 (sdl p sH).1=sH:=by
  show zu p.1 0 p.1=sH
  refine decide_eq_true ⟨by lia,by lia,?_⟩
  show (p.1.drop 0).take p.1.length=p.1
  rw[dI,aQ]
 simp only[yd,jX hp hs,bU]
 show sF (yR p.1 0 p.1 p.2)=sF p.2
 congr 1
 unfold yR
 show p.1.take 0 ++ p.2 ++ p.1.drop (0+p.1.length)=p.2
 rw[bA,bv,aZ (by lia),aS]
theorem KW(hb:∀e ∈ bs,EOk rs e){t:N3}(ht:t ∈ ovA (zc bs) (zc bs).length):EOk rs (ju bs t):=by
 obtain⟨i1,i2,i3,i4⟩:=uj ht
 obtain⟨r,hr⟩:∃r,(zc bs)[t.1]? = sF r:=⟨_,al i1⟩
 obtain⟨r2,hr2⟩:∃r,(zc bs)[t.2.1]? = sF r:=⟨_,al i2⟩
 have l1:=wE hr
 have l2:=wE hr2
 have d1:(zc bs).getD t.1 ([],[])=r:=by rw[ac,hr];rfl
 have d2:(zc bs).getD t.2.1 ([],[])=r2:=by rw[ac,hr2];rfl
 rw[l1] at i3
 rw[l1,l2] at i4
 have eA:pkA (zc bs) t=yR (yc r.1 r2.1 t.2.2) 0 r.1 r.2:=by unfold pkA;rw[l1,l2,d1]
 have eB:pkB (zc bs) t=yR (yc r.1 r2.1 t.2.2) (t.2.2:Nat) r2.1 r2.2:=by unfold pkB;rw[l1,l2,d2]
 refine kX hb ?_
 show yd (zc bs) (pkA (zc bs) t) [((t.1:Int),(0:Int),sI),((t.2.1:Int),(t.2.2:Int),sH)]=sF (pkB (zc bs) t)
 obtain⟨b1,b2⟩:=Xt r.2 (jO r.1 r2.1 t.2.2)
 rw[eA,eB]
 have h1:=jX (f:=sI) (q:=0) hr (w:=yR (yc r.1 r2.1 t.2.2) 0 r.1 r.2) b1
 have h2:=jX (f:=sH) (q:=(t.2.2:Int)) hr2 (w:=yc r.1 r2.1 t.2.2) (qy (by lia) i4)
 have h1':yn (zc bs) (yR (yc r.1 r2.1 t.2.2) 0 r.1 r.2) ((t.1:Int),(0:Int),sI)=sF (yc r.1 r2.1 t.2.2):=by
  rw[h1]
  congr 1
 have h2':yn (zc bs) (yc r.1 r2.1 t.2.2) ((t.2.1:Int),(t.2.2:Int),sH)=sF (yR (yc r.1 r2.1 t.2.2) (t.2.2:Nat) r2.1 r2.2):=h2
 simp only[yd,h1',h2',bU]
theorem Wz{l:List Nat}{es bs zs:List Ent}(h:vW k l ns 20 es (sF bs))(hb:jM bs=sI)(hz:ThinL k l ns zs)(hp:zc bs=zc zs):BG k l ns bs:=by
 obtain⟨b1,_⟩:=kR hb
 have key:∀e ∈ bs,∃z ∈ zs,z.1=e.1/\z.2.1=e.2.1:=λe he=>by
  have:(e.1,e.2.1) ∈ zc zs:=by rw[<- hp];exact List.mem_map.mpr ⟨e,he,rfl⟩
  obtain⟨z,hz,e2⟩:=List.mem_map.mp this
  injection e2 with h1 h2
  exact⟨z,hz,h1,h2⟩
 refine⟨by lia,λe he=>?_,λe he=>?_⟩
 ·obtain⟨z,hzm,h1,h2⟩:=key e he
  have hE:=hz.rl.e z hzm
  have hn:=jg h bs rfl e he
  unfold jl at hn
  exact⟨by lia,by lia,by lia,by rw[<- h1];exact hE.ma,by rw[<- h2];exact hE.mb⟩
 ·obtain⟨z,hzm,h1,h2⟩:=key e he
  rw[<- h1,<- h2]
  exact hz.rl.lt z hzm
def Gd(rs:List zr)(k:Nat)(l:List Nat)(ns:List Int)(es:List Ent):Prop:=(∀e ∈ es,EOk rs e)/\(es=[]\/(ThinL k l ns es/\jM es=sI/\BG k l ns es))
theorem YA{rs:List zr}{l:List Nat}(G:OG l ns k){es bs:List Ent}(h:vW k l ns 20 es (sF bs))(hb:jM bs=sI)(he:∀e ∈ es,EB l e)(ho:∀e ∈ es,EOk rs e):Gd rs k l ns bs:=by
 obtain⟨h1,zs,hz,hp⟩:=Y0 (rs:=rs) G h bs rfl he ho
 have hB:=Wz h hb hz hp
 exact⟨h1,.inr ⟨hz.pairs hp hB.e,hb,hB⟩⟩
theorem Q5{rs:List zr}{k n:Nat}{l:List Nat}(G:OG l ns k){kept fresh es:List Ent}{w:Bool}(h:Cpl k l ns n kept fresh w es):(∀e ∈ fresh,EB l e)->(∀e ∈ fresh,EOk rs e)->Gd rs k l ns kept->Gd rs k l ns es:=by
 induction h with
 | out kept fresh=>exact λ_ _ h=>h
 | slim _=>exact λ_ _ h=>h
 | far h hb _ _=>exact λhe ho _=>YA G h hb he ho
 | whole h hb _ _=>exact λhe ho _=>YA G h hb he ho
 | @more n kept fresh bs es w h hb ho' hu r ih =>
  intro he ho _
  have hg:=YA (rs:=rs) G h hb he ho
  have hB:BG k l ns bs:=by
   obtain⟨h1,zs,hz,hp⟩:=Y0 (rs:=rs) G h bs rfl he ho
   exact Wz h hb hz hp
  have hnear:∀e ∈ bs,e.2.2.length<=240:=λe hm=>by
   have:=jg h bs rfl e hm
   unfold jl at this
   lia
  refine ih (λe hm=>?_) (λe hm=>?_) hg
  ·rcases List.mem_append.mp hm with hm | hm
   ·exact hB.e e hm
   ·obtain⟨t,ht,rfl⟩:=List.mem_map.mp hm
    exact Vb hB hb hnear (List.mem_filter.mp (bu ht)).1
  ·rcases List.mem_append.mp hm with hm | hm
   ·exact hg.1 e hm
   ·obtain⟨t,ht,rfl⟩:=List.mem_map.mp hm
    exact KW hg.1 (List.mem_filter.mp (bu ht)).1
structure TTl(K:oO):Prop where
 tt:aT K (.type "tuple") (.type "tuple")=sF sH
 bb:aT K (.type "bool") (.type "bool")=sF sH
def kn(K:oO):Sp:=λvs H Q _=>∃(p D:oP) (w:Bool) (es:List Ent),vs=[.ref p]/\H p=sF (.tup [.bl w,.ref D])/\EnsL K H D es/\Q (.bl sH) H
theorem Jz:zq ["_law_found"] ["_law_found"] (zb jJ):=⟨rfl,rfl,rfl,by decide +kernel,rfl,by decide +kernel,by decide +kernel⟩
theorem JI(B:Bt mg)(TT':TTl K)(F:Fun K "_law_told" "_law_told" jJ f fd)(oh:Df P w K mg base CX0 3 "_law_entries" ["_law_found"] [] (Yu K)):FnOk P w K mg base CX0 4 f fd ["_law_found"] (kn K):=by
 refine F.ok Jz (λvs H Q E h=>?_) (λcdv A outer s H vs Q E hr h=>?_)
 ·obtain⟨p,D,w,es,rfl,_⟩:=h
  rfl
 ·obtain⟨p,D,w,es,rfl,hp,hE,q⟩:=h
  refine⟨_,(zi (z9 (PW.pt (ub (yo (xz (xG rfl B.isi (pv 0) rfl B.tuple PySem.Pv.boot_tuple) (λ_=>rfl))) (ub (zI X9 (zp zX rfl B.len aB (za (pv 0) ze)) zg (zK _)) (vH (yo (xz (xG rfl B.isi (zw ix_tup (pv 0) zg (λ_ _=>rfl)) rfl B.bool PySem.Pv.boot_bool) (λ_=>rfl)))))))
    (zh (zx xO))
    zD)
   (zh (zx (cl0 oh hr .nil rfl (za (zw ix_tup (pv 0) zg (λ_ _=>rfl)) ze))))),?_⟩
  have s16:=ym
  refine zj (λσ H'=>H'=H/\σ=[sF (.ref p)]) ?_ ?_
  ·ac_rfl
   exact⟨_,.inl (.tup hp),sH,TT'.tt,xh (λe=>by cases e) λ_=>⟨_,.inr ⟨_,SqT.of hp,rfl⟩,xh (λe=>absurd rfl e) λ_=>⟨_,SqT.of hp,_,rfl,_,.inl (.bl _),sH,TT'.bb,xh (λe=>by cases e) λ_=>trivial⟩⟩⟩
  rintro σ H1 ⟨rfl,rfl⟩
  ac_rfl
  exact⟨_,SqT.of hp,_,rfl,D,es,rfl,hE.is,q⟩
theorem Xr{w o:List Nat}{q:Nat}(h:zu w (q:Int) o=sH):w.take q ++ o ++ w.drop (q+o.length)=w:=by
 unfold zu at h
 obtain⟨_,_,e⟩:=of_decide_eq_true h
 rw[aX] at e
 calc w.take q ++ o ++ w.drop (q+o.length)=w.take q ++ ((w.drop q).take o.length ++ (w.drop q).drop o.length):=by rw[e,dJ,ax]
  _=w.take q ++ w.drop q:=by rw[bK]
  _=w:=bK q w
theorem Qt{w:List Nat}{u:Nat × Nat}(h:zF w ps=sF u):∃p,ps[u.1]? = sF p/\zu w (u.2:Int) p.1=sH:=by
 unfold zF at h
 have hm:u ∈ xP w ps w.length:=eR h
 obtain⟨_,h2⟩:=usesK_mem.mp hm
 obtain⟨_,p,hp,hs⟩:=wU h2
 exact⟨p,hp,hs⟩
theorem UJ{l:List Nat}{u v:List Nat}(h:zL k l ns u v=sH):zv k l ns u<=zv k l ns v:=by
 unfold zL at h
 by_cases e:zv k l ns u=zv k l ns v
 ·lia
 ·rw[if_neg e] at h
  have:=of_decide_eq_true h
  lia
theorem Qg{l:List Nat}{w:List Nat}{q:Nat}(G:OG l ns k)(hp:zL k l ns p.2 p.1=sH/\(∀c ∈ p.1,c ∈ l)/\∀c ∈ p.2,c ∈ l)(hw:∀c ∈ w,c ∈ l)(h2:zu w (q:Int) p.1=sH):zL k l ns (yR w (q:Int) p.1 p.2) w=sH/\∀c ∈ yR w (q:Int) p.1 p.2,c ∈ l:=by
 have e1:=Xr h2
 obtain⟨p1,p2,p3⟩:=hp
 unfold yR
 rw[aX]
 have ha:∀c ∈ w.take q,c ∈ l:=λc hc=>hw c (bu hc)
 have hb:∀c ∈ w.drop (q+p.1.length),c ∈ l:=λc hc=>hw c (cf hc)
 generalize w.take q=a at *
 generalize w.drop (q+p.1.length)=b at *
 rw[<- e1]
 have ap:∀x:List Nat,(∀c ∈ x,c ∈ l)->∀c ∈ a ++ x,c ∈ l:=λx hx c hc=>(List.mem_append.mp hc).elim (ha c) (hx c)
 refine⟨?_,λc hc=>(List.mem_append.mp hc).elim (ap p.2 p3 c) (hb c)⟩
 rw[(vK G hb (ap p.2 p3) (ap p.1 p2)).2,(vK G ha p3 p2).1]
 exact p1
theorem UG{t:N3}(ht:t ∈ ovA ps ps.length):∃r r2,ps[t.1]? = sF r/\ps[t.2.1]? = sF r2/\t.2.2<r.1.length/\yY r.1 r2.1 t.2.2=sH/\pkA ps t=yR (yc r.1 r2.1 t.2.2) 0 r.1 r.2/\pkB ps t=yR (yc r.1 r2.1 t.2.2) (t.2.2:Nat) r2.1 r2.2:=by
 obtain⟨i1,i2,i3,i4⟩:=uj ht
 obtain⟨r,hr⟩:∃r,ps[t.1]? = sF r:=⟨_,al i1⟩
 obtain⟨r2,hr2⟩:∃r,ps[t.2.1]? = sF r:=⟨_,al i2⟩
 have l1:=wE hr
 have l2:=wE hr2
 have d1:ps.getD t.1 ([],[])=r:=by rw[ac,hr];rfl
 have d2:ps.getD t.2.1 ([],[])=r2:=by rw[ac,hr2];rfl
 rw[l1] at i3
 rw[l1,l2] at i4
 exact⟨r,r2,hr,hr2,i3,i4,by unfold pkA;rw[l1,l2,d1],by unfold pkB;rw[l1,l2,d2]⟩
theorem Xo{v:List Nat}{J:Nat}(h:zF (wAt ps v J) ps=sG):∀d,wAt ps v (J+d)=wAt ps v J
 | 0=>rfl
 | d+1=>by
  show Xb ps (wAt ps v (J+d))=_
  rw[Xo h d]
  unfold Xb
  rw[h]
  rfl
def Rw(ps:List zr)(u v:List Nat):Prop:=∃p,p ∈ ps/\∃a b,u=a ++ p.1 ++ b/\v=a ++ p.2 ++ b
inductive Rws(ps:List zr):List Nat->List Nat->Prop where
 | nil {u:List Nat}:Rws ps u u
 | cons {u v w:List Nat} (h:Rw ps u v) (h2:Rws ps v w):Rws ps u w
theorem Rws.trans{u v w:List Nat}(h:Rws ps u v)(h2:Rws ps v w):Rws ps u w:=by
 induction h with
 | nil=>exact h2
 | cons s _ ih=>exact .cons s (ih h2)
theorem Rws.one{u v:List Nat}(h:Rw ps u v):Rws ps u v:=.cons h .nil
theorem Rw.ctx{u v:List Nat}(h:Rw ps u v)(c d:List Nat):Rw ps (c ++ u ++ d) (c ++ v ++ d):=by
 obtain⟨p,hp,a,b,rfl,rfl⟩:=h
 exact⟨p,hp,c ++ a,b ++ d,by simp only[ax],by simp only[ax]⟩
theorem Rws.ctx{u v:List Nat}(h:Rws ps u v)(c d:List Nat):Rws ps (c ++ u ++ d) (c ++ v ++ d):=by
 induction h with
 | nil=>exact .nil
 | cons s _ ih=>exact .cons (s.ctx c d) ih
theorem vL{w:List Nat}{q:Nat}(h:zu w (q:Int) p.1=sH):w=w.take q ++ p.1 ++ w.drop (q+p.1.length)/\yR w (q:Int) p.1 p.2=w.take q ++ p.2 ++ w.drop (q+p.1.length):=by
 refine⟨(Xr h).symm,?_⟩
 unfold yR
 rw[aX]
theorem Ki{w:List Nat}{q:Nat}(hp:p ∈ ps)(h:zu w (q:Int) p.1=sH):Rw ps w (yR w (q:Int) p.1 p.2) :=
 ⟨p,hp,_,_,(vL h).1,(vL h).2⟩
theorem WT{w:List Nat}{u:Nat × Nat}(h:zF w ps=sF u):Rw ps w (Z6 w ps u):=by
 obtain⟨p,h1,h2⟩:=Qt h
 unfold Z6
 rw[xJ h1]
 exact Ki (af h1) h2
theorem Yv{ps:List zr}{w:List Nat}:∀j,Rws ps w (wAt ps w j)
 | 0=>.nil
 | j+1=>by
  have ih:=Yv (ps:=ps) (w:=w) j
  cases e:zF (wAt ps w j) ps with
  | none =>
   have:=Xo e 1
   rw[this]
   exact ih
  | some u =>
   rw[wq e]
   exact ih.trans (.one (WT e))
theorem Jm{a o b:List Nat}:zu (a ++ o ++ b) (a.length:Int) o=sH:=by
 refine decide_eq_true ⟨by lia,by simp only[am];lia,?_⟩
 rw[aX,ax,cD,cS]
theorem zaC{i j k:Nat}(hi:i<ps.length)(hj:j<ps.length)(hk:k<(lf ps i).length)(hne:i≠j\/k≠0)(ha:yY (lf ps i) (lf ps j) k=sH):((i,j,k):N3) ∈ ovA ps ps.length:=by
 unfold ovA ovI ZU
 refine List.mem_flatMap.mpr ⟨i,List.mem_range.mpr hi,List.mem_flatMap.mpr ⟨j,List.mem_range.mpr hj,List.mem_map.mpr ⟨k,List.mem_filter.mpr ⟨List.mem_range.mpr hk,?_⟩,rfl⟩⟩⟩
 rw[ha,eV,Bool.or_eq_true,decide_eq_true_iff,decide_eq_true_iff]
 exact hne
theorem Zf(hmet:∀t ∈ ovA ps ps.length,∃f,Rws ps (pkA ps t) f/\Rws ps (pkB ps t) f){p p':zr}(hp:p ∈ ps)(hp':p' ∈ ps){a b a' b':List Nat}(e:a ++ p.1 ++ b=a' ++ p'.1 ++ b')(hle:a.length<=a'.length):∃t,Rws ps (a ++ p.2 ++ b) t/\Rws ps (a' ++ p'.2 ++ b') t:=by
 obtain⟨m,rfl⟩:∃m,a'=a ++ m:=by
  have h1:a=(a' ++ p'.1 ++ b').take a.length:=by rw[<- e,ax,cS]
  rw[ax,aU hle] at h1
  exact⟨a'.drop a.length,by conv=>rhs;rw[h1];simp [cy hle]⟩
 have e1:p.1 ++ b=m ++ p'.1 ++ b':=by
  simp only[ax] at e
  have:=dh e
  rw[this,ax]
 by_cases hk:p.1.length<=m.length
 ·obtain⟨m',rfl⟩:∃m',m=p.1 ++ m':=by
   have h1:p.1=(m ++ p'.1 ++ b').take p.1.length:=by rw[<- e1,cS]
   rw[ax,aU hk] at h1
   exact⟨m.drop p.1.length,by conv=>rhs;rw[h1];simp [cy hk]⟩
  have e2:b=m' ++ p'.1 ++ b':=by
   simp only[ax] at e1
   have:=dh e1
   rw[this,ax]
  refine⟨a ++ p.2 ++ (m' ++ p'.2 ++ b'),.one ⟨p',hp',a ++ p.2 ++ m',b',by rw[e2];simp only[ax],by simp only[ax]⟩,.one ⟨p,hp,a,m' ++ p'.2 ++ b',by simp only[ax],rfl⟩⟩
 ·have hk':m.length<p.1.length:=Nat.lt_of_not_le hk
  by_cases hsame:p=p'/\m=[]
  ·obtain⟨rfl,rfl⟩:=hsame
   rw[bv] at e1
   have:b=b':=dh e1
   rw[this,aS]
   exact⟨_,.nil,.nil⟩
  ·obtain⟨i,hi⟩:=List.mem_iff_getElem?.mp hp
   obtain⟨j,hj⟩:=List.mem_iff_getElem?.mp hp'
   have li:=wE hi
   have lj:=wE hj
   have hne:i≠j\/m.length≠0:=by
    by_cases hij:i=j
    ·refine .inr λh0=>hsame ⟨?_,List.length_eq_zero_iff.mp h0⟩
     rw[hij,hj] at hi
     exact (Option.some.inj hi).symm
    ·exact .inl hij
   have hag:yY p.1 p'.1 m.length=sH:=(XY _ _ _).mpr λn hn hkn=>by
    have h1:(p.1 ++ b)[m.length+n]? = (m ++ (p'.1 ++ b'))[m.length+n]?:=by rw[e1,ax]
    rw[bY hkn,bS (by lia),Nat.add_sub_cancel_left,bY hn] at h1
    exact h1
   have hov:((i,j,m.length):N3) ∈ ovA ps ps.length:=zaC (List.getElem?_eq_some_iff.mp hi).1 (List.getElem?_eq_some_iff.mp hj).1 (by rw[li];exact hk') hne (by rw[li,lj];exact hag)
   obtain⟨f,f1,f2⟩:=hmet _ hov
   obtain⟨r,r2,hr,hr2,_,_,eA,eB⟩:=UG hov
   have er:r=p:=by
    have h:ps[i]? = sF r:=hr
    rw[hi] at h
    exact (Option.some.inj h).symm
   have er2:r2=p':=by
    have h:ps[j]? = sF r2:=hr2
    rw[hj] at h
    exact (Option.some.inj h).symm
   subst er er2
   have eb:b=r2.1.drop (r.1.length - m.length) ++ b'.drop (r.1.length - m.length - r2.1.length):=by
    have h1:(r.1 ++ b).drop r.1.length=(m ++ (r2.1 ++ b')).drop r.1.length:=by rw[e1,ax]
    rw[cD,List.drop_append,aZ (by lia),bv,List.drop_append] at h1
    exact h1
   generalize hc:b'.drop (r.1.length - m.length - r2.1.length)=c at eb
   have hpw:yc r.1 r2.1 m.length ++ c=m ++ r2.1 ++ b':=by
    unfold yc
    rw[ax,<- eb,e1]
   have hpl:=wG r.1 r2.1 m.length (by lia)
   have hA:pkA ps (i,j,m.length)=r.2 ++ r2.1.drop (r.1.length - m.length):=by
    rw[eA]
    unfold yR yc
    show [] ++ r.2 ++ List.drop (0+r.1.length) _=_
    rw[d9,cD,bv]
   have hB:pkB ps (i,j,m.length) ++ c=m ++ r2.2 ++ b':=by
    rw[eB]
    unfold yR
    rw[aX]
    have t1:(yc r.1 r2.1 m.length).take m.length=m:=by
     have:=congrArg (List.take m.length) hpw
     rw[aU (by lia),ax,cS] at this
     exact this
    have t2:(yc r.1 r2.1 m.length).drop (m.length+r2.1.length) ++ c=b':=by
     have:=congrArg (List.drop (m.length+r2.1.length)) hpw
     rw[bM (by lia),show m.length+r2.1.length=(m ++ r2.1).length by rw[am],cD] at this
     rw[am] at this
     exact this
    show (yc r.1 r2.1 m.length).take m.length ++ r2.2 ++ (yc r.1 r2.1 m.length).drop (m.length+r2.1.length) ++ c=_
    rw[t1,ax,t2]
   refine⟨a ++ f ++ c,?_,?_⟩
   ·have:=f1.ctx a c
    rw[hA] at this
    rw[eb]
    simp only[ax] at this ⊢
    exact this
   ·have:=f2.ctx a c
    rw[ax a,hB] at this
    simp only[ax] at this ⊢
    exact this
theorem We(hmet:∀t ∈ ovA ps ps.length,∃f,Rws ps (pkA ps t) f/\Rws ps (pkB ps t) f){u v1 v2:List Nat}(h1:Rw ps u v1)(h2:Rw ps u v2):∃t,Rws ps v1 t/\Rws ps v2 t:=by
 obtain⟨p,hp,a,b,e1,rfl⟩:=h1
 obtain⟨p',hp',a',b',e2,rfl⟩:=h2
 rcases Nat.le_total a.length a'.length with h | h
 ·exact Zf hmet hp hp' (e1.symm.trans e2) h
 ·obtain⟨t,t1,t2⟩:=Zf hmet hp' hp (e2.symm.trans e1) h
  exact⟨t,t2,t1⟩
section
variable{k:Nat}{l:List Nat}{ws:List Int}{ps:List zr}
def Below(k:Nat)(l:List Nat)(ws:List Int)(w v:List Nat):Prop:=(∀c ∈ v,c ∈ l)/\(v=w\/zL k l ws v w=sH)
theorem qd(G:OG l ws k)(hp:∀p ∈ ps,zL k l ws p.2 p.1=sH/\(∀c ∈ p.1,c ∈ l)/\∀c ∈ p.2,c ∈ l){u v:List Nat}(hu:∀c ∈ u,c ∈ l)(h:Rw ps u v):zL k l ws v u=sH/\∀c ∈ v,c ∈ l:=by
 obtain⟨p,hpm,a,b,rfl,rfl⟩:=h
 have:=Qg (q:=a.length) G (hp p hpm) hu Jm
 rw[(vL Jm).2] at this
 rw[ax a,cS,show a.length+p.1.length=(a ++ p.1).length by rw[am],<- ax,cD] at this
 exact this
theorem Below.step(G:OG l ws k)(hp:∀p ∈ ps,zL k l ws p.2 p.1=sH/\(∀c ∈ p.1,c ∈ l)/\∀c ∈ p.2,c ∈ l){w u v:List Nat}(hu:Below k l ws w u)(h:Rw ps u v):Below k l ws w v:=by
 obtain⟨h1,h2⟩:=qd G hp hu.1 h
 refine⟨h2,.inr ?_⟩
 rcases hu.2 with rfl | h3
 ·exact h1
 ·exact yI h1 h3
noncomputable def mu(k:Nat)(l:List Nat)(ws:List Int)(Ws:List (List Nat))(v:List Nat):Nat:=Ws.countP λy=>zL k l ws y v
theorem ZA{α:Type}{p q:α->Bool}:∀{xs:List α} {x:α},(∀z ∈ xs,p z=sH->q z=sH)->x ∈ xs->q x=sH->p x=sI->xs.countP p<xs.countP q
 | y::xs,x,h,hx,hq,hp=>by
  have mono:xs.countP p<=xs.countP q:=List.countP_mono_left λz hz=>h z (aw _ hz)
  rcases List.mem_cons.mp hx with rfl | hx
  ·rw[cG hq,di (by rw[hp];decide)]
   lia
  ·have ih:=ZA (λz hz=>h z (aw _ hz)) hx hq hp
   by_cases hy:p y=sH
   ·rw[cG hy,cG (h y az hy)]
    lia
   ·rw[di hy]
    by_cases hy2:q y=sH
    ·rw[cG hy2]
     lia
    ·rw[di hy2]
     exact ih
theorem zai{Ws:List (List Nat)}{x y:List Nat}(hx:x ∈ Ws)(h:zL k l ws x y=sH):mu k l ws Ws x<mu k l ws Ws y :=
 ZA (λz _ hz=>yI hz h) hx h yj
end
inductive EqR(ps:List zr):List Nat->List Nat->Prop where
 | refl (u:List Nat):EqR ps u u
 | symm {u v:List Nat} (h:EqR ps u v):EqR ps v u
 | trans {u v w:List Nat} (h:EqR ps u v) (h2:EqR ps v w):EqR ps u w
 | one {u v:List Nat} (h:Rw ps u v):EqR ps u v
theorem xT(ps:List zr):Ww (EqR ps):=⟨.refl,.symm,.trans,λ{u v} a b h=>by
 induction h with
 | refl u=>exact .refl _
 | symm _ ih=>exact .symm ih
 | trans _ _ i1 i2=>exact .trans i1 i2
 | one h=>exact .one (h.ctx a b)⟩
theorem wo(h:p ∈ ps):EqR ps p.1 p.2:=.one ⟨p,h,[],[],by simp,by simp⟩
theorem qH{R:List Nat->List Nat->Prop}(hR:Ww R)(hp:∀p ∈ ps,R p.1 p.2){u v:List Nat}(h:EqR ps u v):R u v:=by
 induction h with
 | refl u=>exact hR.refl _
 | symm _ ih=>exact hR.symm ih
 | trans _ _ i1 i2=>exact hR.trans i1 i2
 | one h =>
  obtain⟨p,hm,a,b,rfl,rfl⟩:=h
  exact hR.ctx a b (hp p hm)
theorem Ky{R:List Nat->List Nat->Prop}(hR:Ww R)(hp:∀p ∈ rs,R p.1 p.2){u v:List Nat}{s:Stp}(h:yn rs u s=sF v):R u v:=by
 by_cases hb:0<=s.1/\s.1<rs.length
 ·rw[yF hb] at h
  have hm:rs.getD s.1.toNat ([],[]) ∈ rs:=by
   rw[ac,al (by lia)]
   exact List.getElem_mem _
  generalize rs.getD s.1.toNat ([],[])=r at *
  by_cases hs:zu u s.2.1 (sdl r s.2.2).1=sH
  ·rw[if_pos hs] at h
   have h0:0<=s.2.1:=(of_decide_eq_true hs).1
   obtain⟨q,hq⟩:∃q:Nat,s.2.1=(q:Int):=⟨s.2.1.toNat,by lia⟩
   rw[hq] at h hs
   obtain⟨e1,e2⟩:=vL (p:=sdl r s.2.2) hs
   rw[e2] at h
   cases h
   conv=>arg 1;rw[e1]
   refine hR.ctx _ _ ?_
   unfold sdl
   split
   ·exact hp r hm
   ·exact hR.symm (hp r hm)
  ·rw[if_neg hs] at h
   cases h
 ·rw[y8 hb] at h
  cases h
theorem Y8{R:List Nat->List Nat->Prop}(hR:Ww R)(hp:∀p ∈ rs,R p.1 p.2):∀{ss:List Stp} {u v:List Nat},yd rs u ss=sF v->R u v
 | [],u,v,h=>by cases h;exact hR.refl _
 | s::ss,u,v,h=>by
  obtain⟨w1,h1,h2⟩:=vD h
  exact hR.trans (Ky hR hp h1) (Y8 hR hp h2)
section
variable{k:Nat}{l:List Nat}{ws:List Int}{ps:List zr}
def Dwn(k:Nat)(l:List Nat)(ws:List Int)(ps:List zr):Prop:=∀p ∈ ps,zL k l ws p.2 p.1=sH/\(∀c ∈ p.1,c ∈ l)/\∀c ∈ p.2,c ∈ l
theorem zcA(hp:Dwn k l ws ps){u v:List Nat}(h:Rw ps u v):(∀c ∈ u,c ∈ l) ↔ ∀c ∈ v,c ∈ l:=by
 obtain⟨p,hm,a,b,rfl,rfl⟩:=h
 obtain⟨_,h1,h2⟩:=hp p hm
 simp only[List.mem_append]
 exact⟨λh c hc=>hc.elim (λhc=>hc.elim (λhc=>h c (.inl (.inl hc))) (h2 c)) (λhc=>h c (.inr hc)),λh c hc=>hc.elim (λhc=>hc.elim (λhc=>h c (.inl (.inl hc))) (h1 c)) (λhc=>h c (.inr hc))⟩
theorem Jt(hp:Dwn k l ws ps){u v:List Nat}(h:EqR ps u v):(∀c ∈ u,c ∈ l) ↔ ∀c ∈ v,c ∈ l:=by
 induction h with
 | refl u=>exact .rfl
 | symm _ ih=>exact ih.symm
 | trans _ _ i1 i2=>exact i1.trans i2
 | one h=>exact zcA hp h
noncomputable def zcd(l:List Nat):Nat->List (List Nat)
 | 0=>[[]]
 | n+1=>[]::(zcd l n).flatMap λw=>l.map (·::w)
theorem Xd:∀(n:Nat) (v:List Nat),v.length<=n->(∀c ∈ v,c ∈ l)->v ∈ zcd l n
 | 0,v,h,_=>by rw[List.length_eq_zero_iff.mp (Nat.le_zero.mp h)];exact az
 | n+1,[],_,_=>az
 | n+1,c::v,h,hm=>aw _ (List.mem_flatMap.mpr ⟨v,Xd n v (Nat.le_of_succ_le_succ h) λx hx=>hm x (aw _ hx),List.mem_map.mpr ⟨c,hm c az,rfl⟩⟩)
theorem Jc(G:OG l ws k):∀{v:List Nat},(∀c ∈ v,c ∈ l)->(v.length:Int)<=zv k l ws v
 | [],_=>wB G λc hc=>(nomatch hc)
 | c::v,hm=>by
  have h1:=Jc G (v:=v) λx hx=>hm x (aw _ hx)
  have h2:=ud (u:=[c]) G (λx hx=>hm x (by rw[List.mem_singleton.mp hx];exact az)) (by simp)
  have h3:=y0 (k:=k) (l:=l) (ns:=ws) [c] v
  rw[show c::v=[c] ++ v from rfl,h3,am]
  simp only[cu]
  lia
theorem WW(G:OG l ws k)(w:List Nat):∃Ws:List (List Nat),∀v,Below k l ws w v->v ∈ Ws:=by
 refine⟨zcd l (zv k l ws w).toNat,λv hv=>Xd _ v ?_ hv.1⟩
 have h1:=Jc G hv.1
 have h2:zv k l ws v<=zv k l ws w:=by
  rcases hv.2 with rfl | h
  ·exact fk _
  ·exact UJ h
 lia
theorem Yd(G:OG l ws k)(hp:Dwn k l ws ps)(hmet:∀t ∈ ovA ps ps.length,∃f,Rws ps (pkA ps t) f/\Rws ps (pkB ps t) f){w:List Nat}{Ws:List (List Nat)}(hin:∀v,Below k l ws w v->v ∈ Ws):∀(n:Nat) (x:List Nat),mu k l ws Ws x<n->Below k l ws w x->∀v1 v2,Rws ps x v1->Rws ps x v2->∃t,Rws ps v1 t/\Rws ps v2 t
 | 0,x,h,_=>absurd h (cL _)
 | n+1,x,hn,hx=>λv1 v2 h1 h2=>by
  cases h1 with
  | nil=>exact⟨v2,h2,.nil⟩
  | @cons _ y1 _ s1 r1 =>
   cases h2 with
   | nil=>exact⟨v1,.nil,.cons s1 r1⟩
   | @cons _ y2 _ s2 r2 =>
    have b1:=hx.step G hp s1
    have b2:=hx.step G hp s2
    have m1:=zai (Ws:=Ws) (hin _ b1) (qd G hp hx.1 s1).1
    have m2:=zai (Ws:=Ws) (hin _ b2) (qd G hp hx.1 s2).1
    obtain⟨s,j1,j2⟩:=We hmet s1 s2
    obtain⟨t1,a1,a2⟩:=Yd G hp hmet hin n y1 (by lia) b1 v1 s r1 j1
    obtain⟨t,c1,c2⟩:=Yd G hp hmet hin n y2 (by lia) b2 t1 v2 (j2.trans a2) r2
    exact⟨t,a1.trans c1,c2⟩
def Met(ps:List zr):Prop:=∀t ∈ ovA ps ps.length,∃f,Rws ps (pkA ps t) f/\Rws ps (pkB ps t) f
theorem Ko(G:OG l ws k)(hp:Dwn k l ws ps)(hmet:Met ps){x v1 v2:List Nat}(hx:∀c ∈ x,c ∈ l)(h1:Rws ps x v1)(h2:Rws ps x v2):∃t,Rws ps v1 t/\Rws ps v2 t:=by
 obtain⟨Ws,hin⟩:=WW G x
 exact Yd G hp hmet hin _ x (d4 _) ⟨hx,.inl rfl⟩ v1 v2 h1 h2
theorem Jd(G:OG l ws k)(hp:Dwn k l ws ps)(hmet:Met ps){u v:List Nat}(h:EqR ps u v):(∀c ∈ u,c ∈ l)->∃t,Rws ps u t/\Rws ps v t:=by
 induction h with
 | refl u=>exact λ_=>⟨u,.nil,.nil⟩
 | symm h ih =>
  intro hu
  obtain⟨t,h1,h2⟩:=ih ((Jt hp h).mpr hu)
  exact⟨t,h2,h1⟩
 | trans h _ i1 i2 =>
  intro hu
  have hv:=(Jt hp h).mp hu
  obtain⟨t1,a1,a2⟩:=i1 hu
  obtain⟨t2,b1,b2⟩:=i2 hv
  obtain⟨t,c1,c2⟩:=Ko G hp hmet hv a2 b1
  exact⟨t,a1.trans c1,b2.trans c2⟩
 | one h=>exact λ_=>⟨_,.one h,.nil⟩
theorem zbr(G:OG l ws k)(hp:Dwn k l ws ps){u v:List Nat}(h:Rws ps u v):(∀c ∈ u,c ∈ l)->Below k l ws u v:=by
 induction h with
 | nil=>exact λhu=>⟨hu,.inl rfl⟩
 | @cons u v w s _ ih =>
  intro hu
  obtain⟨h1,h2⟩:=qd G hp hu s
  obtain⟨h3,h4⟩:=ih h2
  refine⟨h3,.inr ?_⟩
  rcases h4 with rfl | h4
  ·exact h1
  ·exact yI h4 h1
theorem qz{u v:List Nat}(h:Rws ps u v)(hn:∀p ∈ ps,¬ Within p.1 u):v=u:=by
 cases h with
 | nil=>rfl
 | cons s _ =>
  obtain⟨p,hm,a,b,e,_⟩:=s
  exact absurd ⟨a,b,e⟩ (hn p hm)
end
theorem uz{a b c:List Nat}(h1:Within a b)(h2:Within b c):Within a c:=by
 obtain⟨x,y,rfl⟩:=h1
 obtain⟨z,t,rfl⟩:=h2
 exact⟨z ++ x,y ++ t,by simp only[ax]⟩
theorem Yw{a b:List Nat}(h1:Within a b)(h2:Within b a):a=b:=by
 obtain⟨x,y,rfl⟩:=h1
 obtain⟨z,t,e⟩:=h2
 have:=congrArg eJ e
 simp only[am] at this
 have hx:x=[]:=List.length_eq_zero_iff.mp (by lia)
 have hy:y=[]:=List.length_eq_zero_iff.mp (by lia)
 rw[hx,hy,bv,aS]
theorem ZP{α:Type}{r:α->α->Prop}(irr:∀x,¬ r x x)(tr:∀x y z,r x y->r y z->r x z):∀{xs ys:List α},xs.Pairwise r->ys.Pairwise r->(∀x,x ∈ xs ↔ x ∈ ys)->xs=ys
 | [],[],_,_,_=>rfl
 | [],y::ys,_,_,h=>(nomatch (h y).mpr az)
 | x::xs,[],_,_,h=>(nomatch (h x).mp az)
 | x::xs,y::ys,h1,h2,h=>by
  obtain⟨a1,a2⟩:=List.pairwise_cons.mp h1
  obtain⟨b1,b2⟩:=List.pairwise_cons.mp h2
  have e:x=y:=by
   rcases List.mem_cons.mp ((h x).mp az) with e | m1
   ·exact e
   ·rcases List.mem_cons.mp ((h y).mpr az) with e | m2
    ·exact e.symm
    ·exact absurd (tr _ _ _ (a1 y m2) (b1 x m1)) (irr x)
  subst e
  rw[ZP irr tr a2 b2 λz=>⟨λhz=>?_,λhz=>?_⟩]
  ·rcases List.mem_cons.mp ((h z).mp (aw _ hz)) with rfl | m
   ·exact absurd (a1 z hz) (irr z)
   ·exact m
  ·rcases List.mem_cons.mp ((h z).mpr (aw _ hz)) with rfl | m
   ·exact absurd (b1 z hz) (irr z)
   ·exact m
section
variable{k:Nat}{l:List Nat}{ws:List Int}{es fs:List Ent}
theorem qM(h:p ∈ zc es):∃(i:Nat) (e:Ent),es[i]? = sF e/\p=(e.1,e.2.1):=by
 obtain⟨e,he,rfl⟩:=List.mem_map.mp h
 obtain⟨i,hi⟩:=List.mem_iff_getElem?.mp he
 exact⟨i,e,hi,rfl⟩
theorem Ye(G:OG l ws k)(h1:ThinL k l ws es)(h2:ThinL k l ws fs)(m2:Met (zc fs))(he:∀p ∈ zc es,EqR (zc fs) p.1 p.2)(hp:p ∈ zc es):∃q ∈ zc fs,Within q.1 p.1:=by
 refine Classical.byContradiction λhn=>?_
 obtain⟨d1,d2,d3⟩:=h1.rl.pairs p hp
 obtain⟨t,r1,r2⟩:=Jd G h2.rl.pairs m2 (he p hp) d2
 have e:=qz r1 λq hq hw=>hn ⟨q,hq,hw⟩
 subst e
 rcases (zbr G h2.rl.pairs r2 d3).2 with e | e
 ·rw[<- e,yj] at d1
  cases d1
 ·have:=yI d1 e
  rw[yj] at this
  cases this
theorem Z4(G:OG l ws k)(h1:ThinL k l ws es)(h2:ThinL k l ws fs)(m1:Met (zc es))(m2:Met (zc fs))(he:∀p ∈ zc es,EqR (zc fs) p.1 p.2)(hf:∀p ∈ zc fs,EqR (zc es) p.1 p.2)(hp:p ∈ zc es):p ∈ zc fs:=by
 obtain⟨q,hq,hw⟩:=Ye G h1 h2 m2 he hp
 obtain⟨p',hp',hw'⟩:=Ye G h2 h1 m1 hf hq
 obtain⟨i,e,hi,rfl⟩:=qM hp
 obtain⟨j,e',hj,rfl⟩:=qM hp'
 obtain⟨j2,f,hj2,rfl⟩:=qM hq
 have hij:i=j:=bw λhne=>h1.no1 i j e e' hi hj hne (uz hw' hw)
 subst hij
 rw[hi] at hj
 cases hj
 have ea:e.1=f.1:=Yw hw' hw
 have irb:∀r ∈ zc fs,¬ Within r.1 e.2.1:=λr hr hw=>by
  obtain⟨s,hs,hws⟩:=Ye G h2 h1 m1 hf hr
  obtain⟨j3,e3,hj3,rfl⟩:=qM hs
  exact h1.no2 i j3 e e3 hi hj3 (uz hws hw)
 have ird:∀r ∈ zc fs,¬ Within r.1 f.2.1:=λr hr hw=>by
  obtain⟨j3,f3,hj3,rfl⟩:=qM hr
  exact h2.no2 j2 j3 f f3 hj2 hj3 hw
 have heq:EqR (zc fs) e.2.1 f.2.1:=.trans (.symm (he _ hp)) (by show EqR _ e.1 f.2.1;rw[ea];exact wo hq)
 obtain⟨t,r1,r2⟩:=Jd G h2.rl.pairs m2 heq (h1.rl.pairs _ hp).2.2
 have e1:=qz r1 irb
 have e2:=qz r2 ird
 rw[show ((e.1,e.2.1):zr)=(f.1,f.2.1) by rw[ea,<- e1,e2]]
 exact hq
theorem qP(h:ThinL k l ws es):(zc es).Pairwise λa b:zr=>zL k l ws a.1 b.1=sH:=by
 unfold zc
 rw[dQ,dY]
 exact λi j hi hj hij=>h.up i j _ _ (al hi) (al hj) hij
theorem Qz(G:OG l ws k)(h1:ThinL k l ws es)(h2:ThinL k l ws fs)(m1:Met (zc es))(m2:Met (zc fs))(he:∀p ∈ zc es,EqR (zc fs) p.1 p.2)(hf:∀p ∈ zc fs,EqR (zc es) p.1 p.2):zc es=zc fs :=
 ZP (r:=λa b:zr=>zL k l ws a.1 b.1=sH) (λx h=>by rw[yj] at h;cases h) (λx y z h1 h2=>yI h1 h2) (qP h1) (qP h2) λp=>⟨Z4 G h1 h2 m1 m2 he hf,Z4 G h2 h1 m2 m1 hf he⟩
end
theorem zag(h:unG ps 40=[]):Met ps:=λt ht=>by
 have hm:Ux ps 40 t=sH:=by
  cases e:Ux ps 40 t with
  | true=>rfl
  | false =>
   have:t ∈ unG ps 40:=List.mem_filter.mpr ⟨ht,by rw[e];rfl⟩
   rw[h] at this
   cases this
 have e:zab ps 40 (pkA ps t)=zab ps 40 (pkB ps t):=of_decide_eq_true hm
 refine⟨zab ps 40 (pkA ps t),Yv _,?_⟩
 rw[e]
 exact Yv _
theorem WX{k n:Nat}{l:List Nat}{kept fresh es:List Ent}{w:Bool}(h:Cpl k l ns n kept fresh w es):w=sH->Met (zc es):=by
 induction h with
 | out kept fresh=>exact λe=>by cases e
 | slim _=>exact λe=>by cases e
 | far _ _ _ _=>exact λe=>by cases e
 | whole _ _ _ hu=>exact λ_=>zag hu
 | more _ _ _ _ _ ih=>exact ih
theorem VL{R:List Nat->List Nat->Prop}(hR:Ww R){k n:Nat}{l:List Nat}{kept fresh es:List Ent}{w:Bool}(h:Cpl k l ns n kept fresh w es):w=sH->vx R es->vx R fresh:=by
 induction h with
 | out kept fresh=>exact λe=>by cases e
 | slim _=>exact λe=>by cases e
 | far _ _ _ _=>exact λe=>by cases e
 | whole h _ _ _=>exact λ_ hk=>(QW hR h _ rfl).mp hk
 | more h _ _ _ _ ih=>exact λe hk=>(QW hR h _ rfl).mp λx hx=>ih e hk x (aR _ hx)
theorem Uq{i:Nat}(h:rs[i]? = sF p):∀{n:Nat},i<n->fE i p ∈ fEs rs n
 | n+1,hi=>by
  show _ ∈ fEs rs n ++ ((rs[n]?).map (fE n)).toList
  rcases Nat.lt_succ_iff_lt_or_eq.mp hi with hi | rfl
  ·exact aR _ (Uq h hi)
  ·rw[h]
   exact aA _ az
theorem WG{k n m:Nat}{l:List Nat}(G:OG l ns k){rs rs':List zr}{k1 k2 es fs:List Ent}(h1:Cpl k l ns n k1 (fEs rs rs.length) sH es)(h2:Cpl k l ns m k2 (fEs rs' rs'.length) sH fs)(g1:Gd rs k l ns es)(g2:Gd rs' k l ns fs)(t1:ThinL k l ns es)(t2:ThinL k l ns fs)(a1:∀p ∈ rs',EqR rs p.1 p.2)(a2:∀p ∈ rs,EqR rs' p.1 p.2):zc es=zc fs:=by
 have key:∀{n:Nat} {rs:List zr} {k1 es:List Ent},Cpl k l ns n k1 (fEs rs rs.length) sH es->∀p ∈ rs,EqR (zc es) p.1 p.2:=λ{n rs k1 es} h p hp=>by
  obtain⟨i,hi⟩:=List.mem_iff_getElem?.mp hp
  exact VL (xT _) h rfl (λe he=>wo (p:=(e.1,e.2.1)) (List.mem_map.mpr ⟨e,he,rfl⟩)) (fE i p) (Uq hi (List.getElem?_eq_some_iff.mp hi).1)
 have own:∀{rs:List zr} {es:List Ent},Gd rs k l ns es->∀p ∈ zc es,EqR rs p.1 p.2:=λ{rs es} g p hp=>by
  obtain⟨e,he,rfl⟩:=List.mem_map.mp hp
  exact Y8 (xT _) (λp hp=>wo hp) (g.1 e he)
 refine Qz G t1 t2 (WX h1 rfl) (WX h2 rfl) (λp hp=>?_) λp hp=>?_
 ·exact qH (xT _) (key h2) (qH (xT _) a2 (own g1 p hp))
 ·exact qH (xT _) (key h1) (qH (xT _) a1 (own g2 p hp))
def Alk(rs rs':List zr):Prop:=rs'.length=rs.length/\(∀p ∈ rs',p ∈ rs\/(p.2,p.1) ∈ rs)/\∀p ∈ rs,p ∈ rs'\/(p.2,p.1) ∈ rs'
theorem Alk.snoc{rs rs':List zr}{r r':zr}(h:Alk rs rs')(e:r'=r\/r'=(r.2,r.1)):Alk (rs ++ [r]) (rs' ++ [r']):=by
 refine⟨by rw[am,am,h.1];rfl,λp hp=>?_,λp hp=>?_⟩
 ·rcases List.mem_append.mp hp with hp | hp
  ·exact (h.2.1 p hp).imp (aR _) (aR _)
  ·rw[List.mem_singleton.mp hp]
   rcases e with rfl | rfl
   ·exact .inl (aA _ az)
   ·exact .inr (aA _ az)
 ·rcases List.mem_append.mp hp with hp | hp
  ·exact (h.2.2 p hp).imp (aR _) (aR _)
  ·rw[List.mem_singleton.mp hp]
   rcases e with rfl | rfl
   ·exact .inl (aA _ az)
   ·exact .inr (aA _ az)
theorem Alk.perm{rs rs1 rs2:List zr}(h:Alk rs rs1)(e:rs2.Perm rs1):Alk rs rs2 :=
 ⟨e.length_eq.trans h.1,λp hp=>h.2.1 p (e.mem_iff.mp hp),λp hp=>(h.2.2 p hp).imp e.mem_iff.mpr e.mem_iff.mpr⟩
theorem Iss.erase:∀{ds:List L3.D} {vs:List V} {j:Nat},Iss K H ds vs->Iss K H (ds.eraseIdx j) (vs.eraseIdx j)
 | [],vs,j,h=>by
  simp only[Iss] at h
  subst h
  simp only[dW,Iss]
 | d::ds,vs,j,h=>by
  simp only[Iss] at h
  obtain⟨v,r,rfl,h1,h2⟩:=h
  cases j with
  | zero=>exact h2
  | succ j =>
   simp only[cH,Iss]
   exact⟨v,_,rfl,h1,Iss.erase h2⟩
theorem jI{α:Type}:∀{xs:List α} {j:Nat} {x:α},xs[j]? = sF x->(x::xs.eraseIdx j).Perm xs
 | [],j,x,h=>by simp at h
 | y::xs,0,x,h=>by simp at h;rw[h];exact .refl _
 | y::xs,j+1,x,h=>by
  rw[cH]
  exact (List.Perm.swap _ _ _).trans ((jI (by simpa using h)).cons y)
theorem Zg{H H':Hp}{p:oP}(s:Same H H')(h:H' p=sG):H p=sG:=by
 cases e:H p with
 | none=>rfl
 | some o =>
  rw[s _ _ e] at h
  cases h
theorem ZS{α β:Type}{g:α->β}:∀{xs:List α} {j:Nat},(xs.map g).eraseIdx j=(xs.eraseIdx j).map g
 | [],j=>by rw[aN,dW,dW];rfl
 | x::xs,0=>rfl
 | x::xs,j+1=>by rw[aC,cH,cH,aC,ZS]
def qE(K:oO):Sp:=λvs H Q _=>∃(a:oP) (c:Int) (rs:List zr),vs=[.ref a,.int c]/\uq c/\LsA K H a (rs.map dR)/\rs.length<=20/\∀(D:oP) (H':Hp) (rs':List zr),H D=sG->Same H H'->LsA K H' D (rs'.map dR)->Alk rs rs'->Q (.ref D) H'
theorem gv:zq ["_law_pacts","_law_cell_here","_law_number","_law_left","_law_pact","_law_told_here"] ["_law_pacts","_law_cell_here"] (zb ve):=⟨rfl,rfl,rfl,by decide +kernel,rfl,by decide +kernel,by decide +kernel⟩
theorem Vn(B:Bt mg)(F:Fun K "_law_turned" "_law_turned" ve f fd)(fY:Df P w K mg base CX0 1 "_law_mixed" ["_law_cell_here","_law_turn"] [] xx):FnOk P w K mg base CX0 2 f fd ["_law_pacts","_law_cell_here"] (qE K):=by
 refine F.ok gv (λvs H Q E h=>?_) (λcdv A outer s H vs Q E hr h=>?_)
 ·obtain⟨a,c,rs,rfl,_⟩:=h
  rfl
 ·obtain⟨a,c,rs,rfl,hc,hA,hrl,q⟩:=h
  refine⟨_,(zi (zt (i:=2) gv.nd rfl (Or.inl rfl) (cl0 fY hr .nil rfl (za (pv 1) (za zg ze))))
   (zi (zt (i:=3) gv.nd rfl (Or.inl rfl) (xU ze))
   (zi (yE PassesOwn.never rfl (yC (pv 0)) (zC (i:=4) gv.nd rfl (Or.inl rfl))
    (zi (xM (vM bc bB bC yU (pv 3) (za (zw ix_list (xU (za (pv 4) (za (ya (za (zw ix_tup (pv 4) zg (λ_ _=>rfl)) (za (zw ix_tup (pv 4) zg (λ_ _=>rfl)) ze))) ze))) (zB yJ (pv 2) zg) (λ_ _=>rfl)) ze)))
    (zh (zt (i:=2) gv.nd rfl (Or.inl rfl) (zB yT (pv 2) zg)))))
   (zi (zt (i:=2) gv.nd rfl (Or.inl rfl) (cl0 fY hr .nil rfl (za (pv 1) (za zg ze))))
   (zi (zt (i:=5) gv.nd rfl (Or.inl rfl) (xU ze))
   (zi (kG PassesOwn.never (zI op_gt (zp zX rfl B.len aB (za (pv 3) ze)) zg (zK _))
    (zi (xM (vM bc bB bC yU (pv 5) (za (vM bc PySem.F.slot_list_pop PySem.F.type_list_pop U1 (pv 3) (za (zB yJ (pv 2) (zp zX rfl B.len aB (za (pv 3) ze))) ze)) ze)))
    (zh (zt (i:=2) gv.nd rfl (Or.inl rfl) (zB yT (pv 2) (zB op_add (zp zX rfl B.len aB (za (pv 3) ze)) zg))))))
   (zh (zx (pv 5))))))))),?_⟩
  have s16:=ym
  have s16:=ym
  obtain⟨xs,hX,hI⟩:=id hA
  have hxl:=hI.len
  rw[ae] at hxl
  refine zj (λσ H'=>H'=H/\∃z:Int,σ=[sF (.ref a),sF (.int c),sF (.int z),sG,sG,sG]) ?_ ?_
  ·rfl'
   exact xn hc (by decide) (by decide) λz _=>⟨rfl,z,rfl⟩
  rintro σ H1 ⟨rfl,z,rfl⟩
  refine zj (λσ H'=>∃D:oP,H1 D=sG/\H'=upd H1 D (.lst [])/\σ=[sF (.ref a),sF (.int c),sF (.int z),sF (.ref D),sG,sG]) ?_ ?_
  ·rfl'
   exact⟨by lia,λp hp=>⟨p,hp,rfl,rfl⟩⟩
  rintro σ H2 ⟨D,hD,rfl,rfl⟩
  refine zj (λσ H'=>Same H1 H'/\(∃rs1:List zr,LsA K H' D (rs1.map dR)/\Alk rs rs1)/\∃(z:Int) (v:Option V),σ=[sF (.ref a),sF (.int c),sF (.int z),sF (.ref D),v,sG]) ?_ ?_
  ·rfl'
   refine⟨⟨_,SqL.of (zd hD _ _ hX)⟩,ForL.by (xs:=xs) (λi σ H'=>Same H1 H'/\(∃rs1:List zr,LsA K H' D (rs1.map dR)/\Alk (rs.take i) rs1)/\∃(z:Int) (v:Option V),σ=[sF (.ref a),sF (.int c),sF (.int z),sF (.ref D),v,sG]) ⟨zd hD,⟨[],LsA.nil,rfl,λp h=>(nomatch h),λp h=>(nomatch h)⟩,_,_,rfl⟩ (λi σ H' _ h=>SqL.of (h.1 _ _ hX)) ?_ ?_⟩
   ·rintro i x σ H3 hx ⟨s3,⟨rs1,hL1,hAk⟩,z,v,rfl⟩
    have hi:=(List.getElem?_eq_some_iff.mp hx).1
    obtain⟨r,p,hr,rfl,hsq⟩:=hI.getR hx
    have hsq3:=zl s3 hsq
    obtain⟨ys,hY,hJ⟩:=hL1
    have hyl:=hJ.len
    rw[ae,hAk.1,aK] at hyl
    have m0:=be z (b:=2) (by decide)
    have m1:=ba z (b:=2) (by decide)
    simp only[xy,bj,bi]
    refine zj (λσ H'=>Same H1 H'/\(∃rs1:List zr,LsA K H' D (rs1.map dR)/\Alk (rs.take (i+1)) rs1)/\σ=[sF (.ref a),sF (.int c),sF (.int z),sF (.ref D),sF (.ref p),sG]) ?_ ?_
    ·rfl'
     have et:rs.take (i+1)=rs.take i ++ [r]:=by
      rw[List.take_add_one,hr]
      rfl
     rw[et]
     refine⟨.inl ⟨_,SqL.of hY⟩,_,hsq3,_,rfl,_,hsq3,_,rfl,by lia,λp1 hp1=>⟨by lia,λp2 hp2=>⟨by decide,_,SqL.of zf,?_⟩⟩⟩
     have s5:=(zd (o:=.tup [.str (tx r.2),.str (tx r.1)]) hp1).trans (zd (o:=.lst [V.ref p,V.ref p1]) hp2)
     have hr5:SqT K _ p1 [.str (tx r.2),.str (tx r.1)]:=SqT.of (zd (o:=.lst [V.ref p,V.ref p1]) hp2 _ _ zf)
     rcases (show z % 2=0\/z % 2=1 by lia) with e | e <;> rw[e]
     ·refine⟨_,rfl,ys,s5 _ _ hY,by lia,zG (s3.trans s5) hD,rs1 ++ [r],?_,hAk.snoc (.inl rfl)⟩
      rw[aH]
      exact LsA.snoc (s5 _ _ hY) (Iss.same s5 _ _ hJ) (yV rs1) (ji r) (Wb (zl s5 hsq3))
     ·refine⟨_,rfl,ys,s5 _ _ hY,by lia,zG (s3.trans s5) hD,rs1 ++ [(r.2,r.1)],?_,hAk.snoc (.inr rfl)⟩
      rw[aH]
      exact LsA.snoc (s5 _ _ hY) (Iss.same s5 _ _ hJ) (yV rs1) (ji (r.2,r.1)) (Wb hr5)
    rintro σ H4 ⟨s4,⟨rs4,hL4,hA4⟩,rfl⟩
    rfl'
    exact⟨⟨by decide,by decide⟩,s4,rs4,hL4,hA4⟩
   ·rintro σ H' ⟨s',⟨rs1,h1,h2⟩,z,v,rfl⟩
    rw[bf (by lia)] at h2
    exact⟨s',⟨rs1,h1,h2⟩,z,v,rfl⟩
  rintro σ H3 ⟨s3,⟨rs1,hL1,hAk⟩,z,v,rfl⟩
  refine zj (λσ H'=>H'=H3/\∃(z:Int) (v:Option V),σ=[sF (.ref a),sF (.int c),sF (.int z),sF (.ref D),v,sG]) ?_ ?_
  ·rfl'
   exact xn hc (by decide) (by decide) λz _=>⟨rfl,z,rfl⟩
  rintro σ H4 ⟨rfl,z,v,rfl⟩
  refine zj (λσ H'=>∃J:oP,H4 J=sG/\H'=upd H4 J (.lst [])/\∃v:Option V,σ=[sF (.ref a),sF (.int c),sF (.int z),sF (.ref D),v,sF (.ref J)]) ?_ ?_
  ·rfl'
   exact⟨by lia,λp hp=>⟨p,hp,rfl,rfl⟩⟩
  rintro σ H5 ⟨J,hJ,rfl,v,rfl⟩
  have hJD:J≠D:=λe=>by
   obtain⟨_,h,_⟩:=hL1
   rw[<- e,hJ] at h
   cases h
  have hJ1:H1 J=sG:=Zg s3 hJ
  refine zj (λσ H'=>Same H1 H'/\∃rs2:List zr,rs2.Perm rs1/\LsA K H' J (rs2.map dR)/\∃(z:Int) (v:Option V),σ=[sF (.ref a),sF (.int c),sF (.int z),sF (.ref D),v,sF (.ref J)]) ?_ ?_
  ·unfold Xl
   refine⟨λm σ H'=>Same H1 H'/\∃la lb:List zr,la.length=m/\(lb ++ la).Perm rs1/\LsA K H' D (la.map dR)/\LsA K H' J (lb.map dR)/\∃(z:Int) (v:Option V),σ=[sF (.ref a),sF (.int c),sF (.int z),sF (.ref D),v,sF (.ref J)],⟨_,s3.trans (zd hJ),rs1,[],rfl,.refl _,hL1.same (zd hJ),LsA.nil,_,_,rfl⟩,?_⟩
   rintro m σ H' ⟨s',la,lb,rfl,hpm,hLa,hLb,z,v,rfl⟩
   have hpl:=hpm.length_eq
   have ha1:=hAk.1
   rw[am] at hpl
   obtain⟨xa,hXa,hIa⟩:=id hLa
   obtain⟨xb,hXb,hIb⟩:=id hLb
   have hal:=hIa.len
   have hbl:=hIb.len
   rw[ae] at hal hbl
   rfl'
   refine⟨_,.inl ⟨_,SqL.of hXa,rfl⟩,xh (λhpos=>?_) λhn=>?_⟩
   ·refine⟨λσ' H''=>Same H1 H''/\∃la' lb':List zr,la'.length+1=la.length/\(lb' ++ la').Perm rs1/\LsA K H'' D (la'.map dR)/\LsA K H'' J (lb'.map dR)/\∃(z:Int) (v:Option V),σ'=[sF (.ref a),sF (.int c),sF (.int z),sF (.ref D),v,sF (.ref J)],?_,?_⟩
    ·rintro σ' H'' ⟨t1,la',lb',t2,t3,t4,t5,z,v,rfl⟩
     exact⟨la'.length,by lia,t1,la',rfl,lb',t3,t4,t5,z,v,rfl⟩
    refine zj (λσ H''=>Same H1 H''/\∃la' lb':List zr,la'.length+1=la.length/\(lb' ++ la').Perm rs1/\LsA K H'' D (la'.map dR)/\LsA K H'' J (lb'.map dR)/\σ=[sF (.ref a),sF (.int c),sF (.int z),sF (.ref D),v,sF (.ref J)]) ?_ ?_
    ·rfl'
     have m0:=be z (b:=(xa.length:Int)) (by lia)
     have m1:=ba z (b:=(xa.length:Int)) (by lia)
     obtain⟨y,e1,_⟩:=vF (xs:=xa) m0 m1
     obtain⟨j,hj,hy,_⟩:=kH e1
     obtain⟨r,pr,hr,rfl,hsq⟩:=hIa.getR hy
     have ep:=jI hr
     have epl:=ep.length_eq
     rw[aM] at epl
     refine⟨.inl ⟨_,SqL.of hXb⟩,.inl ⟨_,SqL.of hXa⟩,_,.inl ⟨_,SqL.of hXa,rfl⟩,by lia,D,xa,_,j,_,rfl,rfl,hXa,by lia,by lia,hj,hy,?_⟩
     have hXb8:upd H' D (.lst (xa.eraseIdx j)) J=sF (.lst xb):=by
      rw[zo hJD]
      exact hXb
     have hIa8:Iss K (upd H' D (.lst (xa.eraseIdx j))) ((la.eraseIdx j).map dR) (xa.eraseIdx j):=by
      have h:=Iss.erase (j:=j) (Iss.updL (zs:=xa.eraseIdx j) hXa _ _ (yV la) hIa)
      rw[ZS] at h
      exact h
     have hIb8:=Iss.updL (zs:=xa.eraseIdx j) hXa _ _ (yV lb) hIb
     refine⟨xb,hXb8,by lia,zG (zG s' hD) hJ1,la.eraseIdx j,epl,lb ++ [r],?_,⟨xa.eraseIdx j,?_,Iss.updL hXb8 _ _ (yV _) hIa8⟩,?_⟩
     ·rw[ax]
      exact (ep.append_left lb).trans hpm
     ·rw[zo (Ne.symm hJD)]
      exact zf
     ·rw[aH]
      exact LsA.snoc hXb8 hIb8 (yV lb) (ji r) (Wb (qh hXa hsq))
    rintro σ H7 ⟨t1,la',lb',t2,t3,t4,t5,rfl⟩
    obtain⟨xc,hXc,hIc⟩:=id t4
    have hcl:=hIc.len
    rw[ae] at hcl
    rfl'
    exact⟨_,.inl ⟨_,SqL.of hXc,rfl⟩,⟨by lia,by lia⟩,t1,la',t2,lb',t3,t4,t5⟩
   ·have hla:la=[]:=List.length_eq_zero_iff.mp (by lia)
    subst hla
    rw[aS] at hpm
    exact⟨s',lb,hpm,xb,hXb,hIb⟩
  rintro σ H6 ⟨s6,rs2,hp,hL2,z,v,rfl⟩
  rfl'
  exact q _ _ rs2 hJ1 s6 hL2 (hAk.perm hp)
structure Drw(H:Hp)(k:Int)(l:List Nat)(ws:List Int)(W:oP):Prop where
 k0:0<=k
 k3:k<3
 g:kO l=sH
 n:ws.length=l.length
 b:∀n ∈ ws,1<=n/\n<=1000000
 w:H W=sF (.lst (ws.map V.int))
structure PG(l:List Nat)(rs:List zr):Prop where
 n:rs.length<=6
 p:1<=rs.length
 s:∀r ∈ rs,r.1.length<=3/\r.2.length<=3/\(∀x ∈ r.1,x ∈ l)/\∀x ∈ r.2,x ∈ l
theorem PG.ok{l:List Nat}(h:PG l rs):jj rs:=⟨by have:=h.n;lia,λr hr=>by have:=h.s r hr;lia⟩
structure Gdp(l:List Nat)(rs:List zr)(p:zr):Prop where
 a:p.1.length<=60
 b:p.2.length<=60
 ma:∀c ∈ p.1,c ∈ l
 mb:∀c ∈ p.2,c ∈ l
 e:EqR rs p.1 p.2
def AG(l:List Nat)(rs rs':List zr):Prop:=(∀p ∈ rs',Gdp l rs p)/\∀p ∈ rs,EqR rs' p.1 p.2
theorem AG.more{l:List Nat}{rs rs' rs'':List zr}(h:AG l rs rs')(h1:∀p ∈ rs'',p ∈ rs'\/Gdp l rs p)(h2:∀p ∈ rs',p ∈ rs''):AG l rs rs'' :=
 ⟨λp hp=>(h1 p hp).elim (h.1 p) id,λp hp=>qH (xT _) (λp hp=>wo (h2 p hp)) (h.2 p hp)⟩
theorem PG.gdp{l:List Nat}(h:PG l rs)(hp:p ∈ rs):Gdp l rs p:=by
 obtain⟨h1,h2,h3,h4⟩:=h.s p hp
 exact⟨by lia,by lia,h3,h4,wo hp⟩
theorem Alk.ag{l:List Nat}{rs rs':List zr}(hP:PG l rs)(h:Alk rs rs'):AG l rs rs':=by
 refine⟨λp hp=>?_,λp hp=>?_⟩
 ·rcases h.2.1 p hp with h | h
  ·exact hP.gdp h
  ·have g:=hP.gdp h
   exact⟨g.b,g.a,g.mb,g.ma,.symm g.e⟩
 ·rcases h.2.2 p hp with h | h
  ·exact wo h
  ·exact .symm (wo h)
theorem Vy(l:List Nat):Ww λu v:List Nat=>(∀c ∈ u,c ∈ l) ↔ ∀c ∈ v,c ∈ l :=
 ⟨λ_=>.rfl,.symm,.trans,λ{u v} a b h=>by
  simp only[List.mem_append]
  exact⟨λg c hc=>hc.elim (λhc=>hc.elim (λhc=>g c (.inl (.inl hc))) (h.mp (λc hc=>g c (.inl (.inr hc))) c)) (λhc=>g c (.inr hc)),λg c hc=>hc.elim (λhc=>hc.elim (λhc=>g c (.inl (.inl hc))) (h.mpr (λc hc=>g c (.inl (.inr hc))) c)) (λhc=>g c (.inr hc))⟩⟩
theorem PG.walk{l:List Nat}(h:PG l rs){w w':List Nat}(hw:∀c ∈ w,c ∈ l)(hl:w.length<=60)(hl':w'.length<=60)(hs:yd rs w ss=sF w'):Gdp l rs (w,w') :=
 ⟨hl,hl',hw,(Y8 (Vy l) (λp hp=>⟨λ_=>(h.s p hp).2.2.2,λ_=>(h.s p hp).2.2.1⟩) hs).mp hw,Y8 (xT _) (λp hp=>wo hp) hs⟩
theorem AG.eb{l:List Nat}{rs rs':List zr}(h:AG l rs rs'):∀e ∈ fEs rs' rs'.length,EB l e:=λe he=>by
 obtain⟨i,p,hi,hp,rfl⟩:=kq he
 have g:=h.1 p (af hp)
 exact⟨g.a,g.b,by show ([((i:Int),(0:Int),sH)]:List Stp).length<=600;simp,g.ma,g.mb⟩
theorem PG.ag{l:List Nat}(h:PG l rs):AG l rs rs:=⟨λ_ hp=>h.gdp hp,λ_ hp=>wo hp⟩
def Tld(K:oO)(H:Hp)(k:Nat)(l:List Nat)(ws:List Int)(rs:List zr)(p:oP)(w:Bool)(D:oP)(es:List Ent):Prop:=H p=sF (.tup [.bl w,.ref D])/\EnsM K H D es/\Gd rs k l ws es/\∃m,Cpl k l ws m [] (fEs rs rs.length) w es
theorem Tld.thin{l:List Nat}{ws:List Int}{p D:oP}{w:Bool}(h:Tld K H k l ws rs p w D es):ThinL k l ws es/\es.length<=12:=by
 rcases h.2.2.1.2 with rfl | ⟨h,hb,_⟩
 ·exact⟨⟨⟨λe he=>(nomatch he),λe he=>(nomatch he)⟩,λi j a b h=>by simp at h,λi j a b h=>by simp at h,λi j a b h=>by simp at h⟩,aJ _⟩
 ·exact⟨h,(kR hb).1⟩
def YJ(K:oO)(T:oP):Sp:=λvs H Q _=>∃(a:oP) (ns:List Int),vs=[.ref a]/\SqL K H a (ns.map V.int)/\(∀z ∈ ns,uq z)/\H T=sF (.tbl #[])/\∀H',Q (.bl sH) H'
theorem gu:zq ["_law_script","_law_kind","_law_letters_here","_law_weights","_law_count","_law_pacts","_law_again","_law_word_here","_law_order_here","_law_one","_law_other","_law_pairs"] ["_law_script"] (zb uN):=⟨rfl,rfl,rfl,by decide +kernel,rfl,by decide +kernel,by decide +kernel⟩
theorem zax{f CO CR CW TB:oP}(B:Bt mg)(F:Fun K "law" "law" uN f fd)(oE:Df P w K mg base CX0 3 "_law_draw" ["_law_cell_here"] [] Yp)(mq:Df P w K mg base CX0 1 "_law_cell" ["_law_script","_law_k"] [] (qu K))(oo:Df P w K mg base CX0 2 "_law_turned" ["_law_pacts","_law_cell_here"] [] (qE K))(oy:Df P w K mg base CX0 6 "_law_order" ["_law_kind","_law_letters_here","_law_weights"] [] (kz K CO CR CW))(mP:Df P w K mg base CX0 10 "completed" ["order","pacts","rounds"] [] (W1 K CO CR CW TB))(oF:Df P w K mg base CX0 2 "_law_pair" ["_law_cell_here","_law_letters_here","_law_most"] [] qk)(ni:Df P w K mg base CX0 1 "_law_word" ["_law_number","_law_letters_here","_law_most"] [] qC)(fY:Df P w K mg base CX0 1 "_law_mixed" ["_law_cell_here","_law_turn"] [] xx)(oj:Df P w K mg base CX0 4 "_law_told" ["_law_found"] [] (kn K))(oG:Df P w K mg base CX0 2 "_law_end" ["_law_pacts","_law_word_here","_law_steps_here"] [] (YT K))(oz:Df P w K mg base CX0 3 "_law_chain" ["_law_pacts","_law_word_here","_law_cells","_law_most"] [] (qe K)):FnOk P w K mg base CX0 11 f fd ["_law_script"] (YJ K TB):=by
 refine F.ok gu (λvs H Q E h=>?_) (λcdv A outer s H vs Q E hr h=>?_)
 ·obtain⟨a,ns,rfl,_⟩:=h
  rfl
 ·obtain⟨a,ns,rfl,hS,hB,hT,q⟩:=h
  refine⟨_,(zi (Ju (cl0 oE hr .nil rfl (za (cl0 mq hr .nil rfl (za (pv 0) (za zg ze))) ze)) (uA (n:=3) rfl (z8 (zC (i:=1) gu.nd rfl (Or.inl rfl)) (z8 (zC (i:=2) gu.nd rfl (Or.inr rfl)) (z8 (zC (i:=3) gu.nd rfl (Or.inl rfl)) wM)))))
   (zi (zt (i:=4) gu.nd rfl (Or.inl rfl) (cl0 mq hr .nil rfl (za (pv 0) (za zg ze))))
   (zi (vz (i:=5) gu.nd rfl (Or.inl rfl) (Or.inl rfl) (own:=["_law_k"]) (caps:=["_law_script","_law_letters_here"]) (ix:=[0,2]) (tt:=vS) (te:=(jr qk [] E0 (zP (jr (qu K) [] E0 (zP (xw 1) (zP (tOp Qv (tC (.int 2)) (xw 0)) vd))) (zP (xw 2) (zP (tC (.int 3)) vd))))) rfl (yb (sc:=zb uN) rfl (by decide +kernel) (by decide +kernel) (by decide +kernel) rfl (by decide +kernel) (by decide +kernel) rfl) (xN rfl B.range (za (zB op_add zg (zB yJ (pv 4) zg)) ze)) (λ_ _ _ _ _ _=>zC (i:=0) (show List.Nodup [_,_,_] by decide) rfl (Or.inl rfl)) (λ_ _ _ _ _ _=>xu) (λ_ _ _ _ _ _=>(cl0 oF hr .nil rfl (za (cl0 mq hr .nil rfl (za (pv 1) (za (zB kr zg (pv 0)) ze))) (za (pv 2) (za zg ze))))))
   (zi (zt (i:=6) gu.nd rfl (Or.inl rfl) (cl0 oo hr .nil rfl (za (pv 5) (za (cl0 mq hr .nil rfl (za (pv 0) (za zg ze))) ze))))
   (zi (z9 (zI qG (zB yJ (zB yT (pv 4) zg) zg) zg (zK _))
    (zh (zt (i:=6) gu.nd rfl (Or.inl rfl) (zB kr (pv 6) (xU (za (zw ix_list (pv 5) zg (λ_ _=>rfl)) ze)))))
    zD)
   (zi (z9 (zI qG (zB yJ (zB yT (pv 4) zg) zg) zg (zK _))
    (zi (zt (i:=7) gu.nd rfl (Or.inl rfl) (cl0 ni hr .nil rfl (za (cl0 fY hr .nil rfl (za (cl0 mq hr .nil rfl (za (pv 0) (za zg ze))) (za zg ze))) (za (pv 2) (za zg ze)))))
    (zh (xM (vM bc PySem.F.slot_list_insert PySem.F.type_list_insert JM (pv 6) (za zg (za (ya (za (pv 7) (za (cl0 oG hr .nil rfl (za (pv 5) (za (pv 7) (za (cl0 oz hr .nil rfl (za (pv 5) (za (pv 7) (za (yk sl_list (pv 0) (yf zg) (yf zg)) (za zg ze))))) ze)))) ze))) ze))))))
    zD)
   (zi (zt (i:=8) gu.nd rfl (Or.inl rfl) (cl0 oy hr .nil rfl (za (pv 1) (za (pv 2) (za (pv 3) ze)))))
   (zi (zt (i:=9) gu.nd rfl (Or.inl rfl) (cl0 mP hr .nil rfl (za (pv 8) (za (xH xo rfl B.list PySem.Pv.boot_list (za (pv 5) ze)) (za (zB op_add zg (zB yJ (zB yT (pv 4) zg) zg)) ze)))))
   (zi (zt (i:=10) gu.nd rfl (Or.inl rfl) (cl0 mP hr .nil rfl (za (pv 8) (za (xH xo rfl B.list PySem.Pv.boot_list (za (pv 6) ze)) (za (zB op_add zg (zB yJ (zB yT (pv 4) zg) zg)) ze)))))
   (zi (z9 (PW.pt (ub (yo (xz (cl0 oj hr .nil rfl (za (pv 9) ze)) (λ_=>rfl))) (vH (yo (xz (cl0 oj hr .nil rfl (za (pv 10) ze)) (λ_=>rfl))))))
    (zh (zx xO))
    zD)
   (zi (z9 (PW.pt (ub (yo (xz (zw ix_tup (pv 9) zg (λ_ _=>rfl)) (λ_=>rfl))) (vH (yo (xz (zw ix_tup (pv 10) zg (λ_ _=>rfl)) (λ_=>rfl))))))
    (zh (zx xO))
    zD)
   (zi (vz (i:=11) gu.nd rfl (Or.inl rfl) (Or.inl rfl) (own:=["_law_entry"]) (caps:=[]) (ix:=[]) (tt:=vS) (te:=(UA (zP (tOp (uM K) (xw 0) (tC (.int 0))) (zP (tOp (uM K) (xw 0) (tC (.int 1))) vd)))) rfl (yb (sc:=zb uN) rfl (by decide +kernel) (by decide +kernel) (by decide +kernel) rfl (by decide +kernel) (by decide +kernel) rfl) (yC (zw ix_tup (pv 9) zg (λ_ _=>rfl))) (λ_ _ _ _ _ _=>zC (i:=0) (show List.Nodup [_] by decide) rfl (Or.inl rfl)) (λ_ _ _ _ _ _=>xu) (λ_ _ _ _ _ _=>(ya (za (zw ix_tup (pv 0) zg (λ_ _=>rfl)) (za (zw ix_tup (pv 0) zg (λ_ _=>rfl)) ze)))))
   (zh (zx (ug (Jp (Yh hr)) (pv 11) (xY (own:=["_law_entry"]) (caps:=[]) (ix:=[]) (tt:=vS) (te:=(UA (zP (tOp (uM K) (xw 0) (tC (.int 0))) (zP (tOp (uM K) (xw 0) (tC (.int 1))) vd)))) rfl (yb (sc:=zb uN) rfl (by decide +kernel) (by decide +kernel) (by decide +kernel) rfl (by decide +kernel) (by decide +kernel) rfl) (yC (zw ix_tup (pv 10) zg (λ_ _=>rfl))) (λ_ _ _ _ _ _=>zC (i:=0) (show List.Nodup [_] by decide) rfl (Or.inl rfl)) (λ_ _ _ _ _ _=>xu) (λ_ _ _ _ _ _=>(ya (za (zw ix_tup (pv 0) zg (λ_ _=>rfl)) (za (zw ix_tup (pv 0) zg (λ_ _=>rfl)) ze))))) (zK _)))))))))))))))),?_⟩
  have s16:=ym
  have s16:=ym
  have hTab:TabOk H TB lp lq:=⟨#[],hT,trivial,.inl rfl⟩
  refine zj (λσ H'=>Same H H'/\∃(k:Int) (l:List Nat) (W:oP),(∃ws,Drw H' k l ws W)/\σ=[sF (.ref a),sF (.int k),sF (.str (tx l)),sF (.ref W),sG,sG,sG,sG,sG,sG,sG,sG]) ?_ ?_
  ·rfl'
   refine vG hS hB (by decide) λc hc=>⟨c,rfl,hc,λk l ws p W H' a1 a2 a3 a4 a5 s' hp hW=>?_⟩
   exact⟨p,rfl,_,SqT.of hp,rfl,_,_,rfl,_,_,rfl,_,_,rfl,rfl,s',k,l,W,⟨ws,a1,a2,a3,a4,a5,hW⟩,rfl,rfl,rfl⟩
  rintro σ H1 ⟨s1,k,l,W,⟨ws,hw⟩,rfl⟩
  obtain⟨l1,l6,lsm,lnd⟩:=of_decide_eq_true hw.g
  have hG:OG l ws k.toNat:=⟨hw.g,by have:=hw.k0;have:=hw.k3;lia,hw.n,hw.b⟩
  have hS1:=s1.seq hS
  refine zj (λσ H'=>H'=H1/\∃n:Int,σ=[sF (.ref a),sF (.int k),sF (.str (tx l)),sF (.ref W),sF (.int n),sG,sG,sG,sG,sG,sG,sG]) ?_ ?_
  ·rfl'
   exact vG hS1 hB (by decide) λn _=>⟨rfl,n,rfl⟩
  rintro σ H1 ⟨rfl,n,rfl⟩
  refine zj (λσ H'=>Same H1 H'/\∃pa:oP,(∃rs,LsA K H' pa (rs.map dR)/\PG l rs)/\σ=[sF (.ref a),sF (.int k),sF (.str (tx l)),sF (.ref W),sF (.int n),sF (.ref pa),sG,sG,sG,sG,sG,sG]) ?_ ?_
  ·rfl'
   have e0:=be n (b:=3) (by decide)
   have e1:=ba n (b:=3) (by decide)
   refine⟨by decide,by lia,by lia,λD hD=>CompR.by (λi sL H'=>Same H1 H'/\H' D=sF (.lst sL)/\∃rs:List zr,Iss K H' (rs.map dR) sL/\rs.length=i/\∀r ∈ rs,r.1.length<=3/\r.2.length<=3/\(∀x ∈ r.1,x ∈ l)/\∀x ∈ r.2,x ∈ l) ⟨zd hD,zf,[],by simp only[aN,Iss],rfl,λr h=>(nomatch h)⟩ ?_ ?_⟩
   ·rintro i sL H' hi ⟨hs,hH,rs,hI,hrl,hrb⟩
    have hal:=hI.len
    rw[ae] at hal
    have hi4:i<5:=by lia
    simp only[vS]
    rfl'
    refine⟨wD,vG (hs.seq hS1) hB (by lia) λc3 hc3=>Ql hc3 (by lia) (by lia) (by decide) (by decide) λo n p ho hn mo mn hp=>⟨zd hp _ _ hH,by lia,CNx.mk hi ⟨zG (hs.trans (zd hp)) hD,zf,rs ++ [(o,n)],?_,by rw[am,hrl];rfl,λr hr'=>?_⟩⟩⟩
    ·rw[aH]
     exact vc hH hI hp Qh (yV rs) (by simp only[zQ,xq,and_self])
    ·rcases List.mem_append.mp hr' with h | h
     ·exact hrb r h
     ·rw[List.mem_singleton.mp h]
      exact⟨by show o.length<=3;lia,by show n.length<=3;lia,mo,mn⟩
   ·rintro sL H' ⟨hs,hH,rs,hI,hrl,hrb⟩
    exact⟨hs,D,⟨rs,⟨sL,hH,hI⟩,by lia,by lia,hrb⟩,rfl⟩
  rintro σ H2 ⟨s2,pa,⟨rs,hP,hPG⟩,rfl⟩
  obtain⟨px,hPx,hPi⟩:=id hP
  have hpn:=hPG.n
  have hpp:=hPG.p
  refine zj (λσ H'=>Same H2 H'/\∃ag:oP,H2 ag=sG/\(∃rs',LsA K H' ag (rs'.map dR)/\rs'.length=rs.length/\AG l rs rs')/\σ=[sF (.ref a),sF (.int k),sF (.str (tx l)),sF (.ref W),sF (.int n),sF (.ref pa),sF (.ref ag),sG,sG,sG,sG,sG]) ?_ ?_
  ·rfl'
   exact vG (s2.seq hS1) hB (by decide) λc hc=>⟨pa,c,rs,rfl,hc,hP,by lia,λD H' rs' hn s' hL hk=>⟨s',D,hn,⟨rs',hL,hk.1,hk.ag hPG⟩,rfl⟩⟩
  rintro σ H3 ⟨s3,ag,hag,⟨rs3,hA3,hn3,hg3⟩,rfl⟩
  refine zj (λσ H'=>Same H3 H'/\∃ag:oP,H2 ag=sG/\(∃rs',LsA K H' ag (rs'.map dR)/\rs'.length<=7/\AG l rs rs')/\σ=[sF (.ref a),sF (.int k),sF (.str (tx l)),sF (.ref W),sF (.int n),sF (.ref pa),sF (.ref ag),sG,sG,sG,sG,sG]) ?_ ?_
  ·rfl'
   refine⟨⟨by decide,by decide⟩,by decide,xh (λ_=>?_) λ_=>⟨Same.refl _,ag,hag,⟨rs3,hA3,by lia,hg3⟩,rfl⟩⟩
   obtain⟨xp,hXp,hIp⟩:=hP.same s3
   obtain⟨xa,hXa,hIa⟩:=hA3
   have hxl:=hIp.len
   have hxa:=hIa.len
   rw[ae] at hxl hxa
   obtain⟨v0,e1,e2⟩:=vF (xs:=xp) (i:=0) (by decide) (by lia)
   obtain⟨r,pr,hr,rfl,hsq⟩:=hIp.getR e2
   refine⟨_,SqL.of hXp,_,e1,by lia,λp hp=>⟨xa,zd hp _ _ hXa,_,zf,by simp only[cu];lia,λp1 hp1=>⟨(zd hp).trans (zd hp1),p1,s3.free ((zd hp).free hp1),⟨rs3 ++ [r],⟨_,zf,?_⟩,by simp only[am,cu];lia,hg3.more (λp hp=>?_) λp hp=>aR _ hp⟩,rfl⟩⟩⟩
   ·rw[aH]
    exact Iss.append (Iss.same ((zd hp).trans (zd hp1)) _ _ hIa) (Us (Is.same ((zd hp).trans (zd hp1)) _ _ (Wb hsq)))
   ·rcases List.mem_append.mp hp with hp | hp
    ·exact .inl hp
    ·rw[List.mem_singleton.mp hp]
     exact .inr (hPG.gdp (af hr))
  rintro σ H4 ⟨s4,ag,hag,⟨rs4,hA4,hn4,hg4⟩,rfl⟩
  have hS4:=(s2.trans (s3.trans s4)).seq hS1
  refine zj (λσ H'=>Same H2 H'/\(∃rs',LsA K H' ag (rs'.map dR)/\rs'.length<=8/\AG l rs rs')/\∃v:Option V,σ=[sF (.ref a),sF (.int k),sF (.str (tx l)),sF (.ref W),sF (.int n),sF (.ref pa),sF (.ref ag),v,sG,sG,sG,sG]) ?_ ?_
  ·rfl'
   refine⟨⟨by decide,by decide⟩,by decide,xh (λ_=>?_) λ_=>⟨s3.trans s4,rs4,hA4,by lia,hg4⟩⟩
   refine zj (λσ H'=>H'=H4/\∃w:List Nat,w.length<=3/\(∀c ∈ w,c ∈ l)/\σ=[sF (.ref a),sF (.int k),sF (.str (tx l)),sF (.ref W),sF (.int n),sF (.ref pa),sF (.ref ag),sF (.str (tx w)),sG,sG,sG,sG]) ?_ ?_
   ·rfl'
    exact vG hS4 hB (by decide) λc hc=>xn hc (by decide) (by decide) λz hz=>kg hz (by lia) (by lia) (by decide) (by decide) λw hw1 hw2=>⟨rfl,w,by lia,hw2,rfl⟩
   rintro σ H5 ⟨rfl,w,hwl,hwi,rfl⟩
   obtain⟨xa,hXa,hIa⟩:=id hA4
   have hal:=hIa.len
   rw[ae] at hal
   rfl'
   refine⟨.inl ⟨_,SqL.of hXa⟩,_,hS4,λp hp=>?_⟩
   rw[Ua ns (by decide) (by decide)]
   have hcb:∀z ∈ (ns.drop (7:Int).toNat).take ((14:Int) - 7).toNat,uq z:=λz hz=>hB z (cf (bu hz))
   have hcl:((ns.drop (7:Int).toNat).take ((14:Int) - 7).toNat).length<=7:=by rw[aK];exact Nat.min_le_left _ _
   generalize (ns.drop (7:Int).toNat).take ((14:Int) - 7).toNat=cs at hcb hcl ⊢
   have sp:=zd (o:=.lst (cs.map V.int)) hp
   have hP5:=hP.same (s3.trans s4)
   refine Va (hP5.same sp).is hPG.ok (by lia) (by decide) (SqL.of zf) hcb (by lia) λT H6 ss w' hT s6 hL6 hwk hw' hsl _=>KY (hP5.same (sp.trans s6)).is hPG.ok (by lia) hL6.is (by lia) hwk ⟨by lia,λp2 hp2=>?_⟩
   have s7:=(sp.trans s6).trans (zd (o:=.tup [.str (tx w),.str (tx w')]) hp2)
   have hXa7:=s7 _ _ hXa
   refine⟨ag,xa,_,rfl,rfl,hXa7,by lia,zG ((s3.trans s4).trans s7) hag,(w,w')::rs4,⟨_,zf,?_⟩,by rw[aM];lia,hg4.more (λp hp=>?_) λp hp=>aw _ hp⟩
   ·rw[aC]
    simp only[Iss]
    exact⟨_,_,rfl,Is.updL hXa7 _ _ (ji _) (Wb (SqT.of zf)),Iss.updL hXa7 _ _ (yV _) (Iss.same s7 _ _ hIa)⟩
   ·rcases List.mem_cons.mp hp with rfl | hp
    ·exact .inr (hPG.walk hwi (by lia) hw' hwk)
    ·exact .inl hp
  rintro σ H5 ⟨s5,⟨rs5,hA5,hn5,hg5⟩,v,rfl⟩
  have sX:=s1.trans (s2.trans s5)
  refine zj (λσ H'=>Same H5 H'/\∃o:oP,OrdAt CO CR CW H' o k.toNat l ws/\σ=[sF (.ref a),sF (.int k),sF (.str (tx l)),sF (.ref W),sF (.int n),sF (.ref pa),sF (.ref ag),v,sF (.ref o),sG,sG,sG]) ?_ ?_
  ·rfl'
   exact⟨k,l,W,ws,rfl,hw.k0,hw.k3,hw.g,(s2.trans s5) _ _ hw.w,hw.n,hw.b,λo H' s' ho=>⟨s',o,ho,rfl⟩⟩
  rintro σ H6 ⟨s6,o,ho,rfl⟩
  have hTab6:=hTab.same (sX.trans s6)
  obtain⟨tp,htp,_⟩:=id hTab6
  have hP6:=hP.same (s5.trans s6)
  have hA6:=hA5.same s6
  refine zj (λσ H'=>SamT TB H6 H'/\TabOk H' TB lp lq/\∃(fp D:oP) (w:Bool) (es:List Ent),Tld K H' k.toNat l ws rs fp w D es/\σ=[sF (.ref a),sF (.int k),sF (.str (tx l)),sF (.ref W),sF (.int n),sF (.ref pa),sF (.ref ag),v,sF (.ref o),sF (.ref fp),sG,sG]) ?_ ?_
  ·ac_rfl
   have hag:=hPG.ag
   have c0:=be (n / 12) (b:=3) (by decide)
   have c1:=ba (n / 12) (b:=3) (by decide)
   obtain⟨px6,hPx6,hPi6⟩:=id hP6
   refine⟨_,.inl (SqL.of hPx6),λhd hh=>⟨⟨by decide,by decide⟩,by decide,?_⟩⟩
   rw[show 1+n / 12 % 3=((1+n / 12 % 3).toNat:Int) by lia]
   exact⟨o,hd,k.toNat,l,ws,rs,_,rfl,OrdAt.same ho (zd hh),hG,⟨px6,zf,Iss.same (zd hh) _ _ hPi6⟩,by lia,λp hp=>⟨aO (hag.1 p hp).a (by decide),aO (hag.1 p hp).b (by decide),(hag.1 p hp).ma,(hag.1 p hp).mb⟩,λp hp=>⟨(hag.1 p hp).a,(hag.1 p hp).b⟩,by lia,hTab6.same (zd hh),λw es p D H' hC hBG hs hTk hp hM=>⟨(SamT.of (zd hh)).trans hs,hTk,p,⟨D,w,es,hp,hM,Q5 hG hC hag.eb (λe he=>Xa he) ⟨λe he=>(nomatch he),.inl rfl⟩,_,hC⟩,rfl⟩⟩
  rintro σ H7 ⟨s7,hTab7,f1,D1,w1,es1,t1,rfl⟩
  obtain⟨tp7,htp7,_⟩:=id hTab7
  refine zj (λσ H'=>SamT TB H7 H'/\∃(fp D:oP) (w:Bool) (es:List Ent),Tld K H' k.toNat l ws rs5 fp w D es/\σ=[sF (.ref a),sF (.int k),sF (.str (tx l)),sF (.ref W),sF (.int n),sF (.ref pa),sF (.ref ag),v,sF (.ref o),sF (.ref f1),sF (.ref fp),sG]) ?_ ?_
  ·ac_rfl
   have c0:=be (n / 36) (b:=3) (by decide)
   have c1:=ba (n / 36) (b:=3) (by decide)
   obtain⟨px6,hPx6,hPi6⟩:=id (LsA.samT hA6 s7 htp)
   refine⟨_,.inl (SqL.of hPx6),λhd hh=>⟨⟨by decide,by decide⟩,by decide,?_⟩⟩
   rw[show 1+n / 36 % 3=((1+n / 36 % 3).toNat:Int) by lia]
   exact⟨o,hd,k.toNat,l,ws,rs5,_,rfl,OrdAt.same (ho.samT s7 htp) (zd hh),hG,⟨px6,zf,Iss.same (zd hh) _ _ hPi6⟩,by lia,λp hp=>⟨aO (hg5.1 p hp).a (by decide),aO (hg5.1 p hp).b (by decide),(hg5.1 p hp).ma,(hg5.1 p hp).mb⟩,λp hp=>⟨(hg5.1 p hp).a,(hg5.1 p hp).b⟩,by lia,hTab7.same (zd hh),λw es p D H' hC hBG hs hTk hp hM=>⟨(SamT.of (zd hh)).trans hs,p,⟨D,w,es,hp,hM,Q5 hG hC hg5.eb (λe he=>Xa he) ⟨λe he=>(nomatch he),.inl rfl⟩,_,hC⟩,rfl⟩⟩
  rintro σ H8 ⟨s8,f2,D2,w2,es2,t2,rfl⟩
  have t3:Tld K H8 k.toNat l ws rs f1 w1 D1 es1:=⟨s8.at htp7 t1.1 (λ_ z=>by cases z),t1.2.1.samT s8 htp7,t1.2.2⟩
  refine zj (λσ H'=>H'=H8/\σ=[sF (.ref a),sF (.int k),sF (.str (tx l)),sF (.ref W),sF (.int n),sF (.ref pa),sF (.ref ag),v,sF (.ref o),sF (.ref f1),sF (.ref f2),sG]) ?_ ?_
  ·ac_rfl
   exact⟨f1,D1,w1,es1,rfl,t3.1,t3.2.1.l,sH,rfl,xh (λe=>by cases e) λ_=>⟨f2,D2,w2,es2,rfl,t2.1,t2.2.1.l,sH,rfl,xh (λe=>by cases e) λ_=>rfl⟩⟩
  rintro σ H9 ⟨rfl,rfl⟩
  refine zj (λσ H'=>H'=H9/\w1=sH/\w2=sH/\σ=[sF (.ref a),sF (.int k),sF (.str (tx l)),sF (.ref W),sF (.int n),sF (.ref pa),sF (.ref ag),v,sF (.ref o),sF (.ref f1),sF (.ref f2),sG]) ?_ ?_
  ·ac_rfl
   exact⟨_,SqT.of t3.1,_,rfl,_,rfl,xh (λ_=>q _) λh1=>⟨_,SqT.of t2.1,_,rfl,_,rfl,xh (λ_=>q _) λh2=>⟨by simpa using h1,by simpa using h2⟩⟩⟩
  rintro σ H10 ⟨rfl,rfl,rfl,rfl⟩
  refine zj (λσ H'=>Same H10 H'/\∃E:oP,LsA K H' E ((zc es1).map dR)/\σ=[sF (.ref a),sF (.int k),sF (.str (tx l)),sF (.ref W),sF (.int n),sF (.ref pa),sF (.ref ag),v,sF (.ref o),sF (.ref f1),sF (.ref f2),sF (.ref E)]) ?_ ?_
  ·ac_rfl
   obtain⟨xe,hXe,hEn⟩:=id t3.2.1
   have hxl:=hEn.len
   have hpl:=vR es1
   have hle:=t3.thin.2
   refine⟨_,SqT.of t3.1,_,rfl,D1,rfl,⟨_,SqL.of hXe⟩,λD hD=>CompL.by (xs:=xe) (λi sL H'=>Same H10 H'/\H' D=sF (.lst sL)/\Iss K H' (((zc es1).take i).map dR) sL) ⟨zd hD,zf,by simp only[bA,aN,Iss]⟩ (λi sL H' _ h=>SqL.of (h.1 _ _ hXe)) ?_ ?_⟩
   ·rintro i x sL H' hx ⟨hs,hH,hA⟩
    have hi:=(List.getElem?_eq_some_iff.mp hx).1
    obtain⟨e,pe,se,hei,rfl,hqe,_⟩:=hEn.get hx
    have hm:(zc es1)[i]? = sF (e.1,e.2.1):=by unfold zc;rw[aG,hei];rfl
    have hal:=hA.len
    rw[ae,aK] at hal
    simp only[vS]
    rfl'
    refine⟨wD,_,zl hs hqe,_,rfl,_,zl hs hqe,_,rfl,by lia,λp hp=>⟨zd hp _ _ hH,by lia,CNx.mk hi ⟨zG (hs.trans (zd hp)) hD,zf,?_⟩⟩⟩
    rw[zW hm,aH]
    exact vc hH hA hp Qh (yV _) (by simp only[zQ,xq,and_self])
   ·rintro sL H' ⟨hs,hH,hA⟩
    rw[hxl,<- hpl,aQ] at hA
    exact⟨hs,D,⟨sL,hH,hA⟩,rfl⟩
  rintro σ H11 ⟨s11,E1,hE1,rfl⟩
  obtain⟨m1,hC1⟩:=t3.2.2.2
  obtain⟨m2,hC2⟩:=t2.2.2.2
  have hone:zc es1=zc es2:=WG hG hC1 hC2 t3.2.2.1 t2.2.2.1 t3.thin.1 t2.thin.1 (λp hp=>(hg5.1 p hp).e) hg5.2
  have t4:=t2.2.1.same s11
  obtain⟨xe,hXe,hEn⟩:=id t4
  have hxl:=hEn.len
  have hpl:=vR es2
  have hle:=t2.thin.2
  ac_rfl
  refine⟨_,SqT.of (s11 _ _ t2.1),_,rfl,D2,rfl,⟨_,SqL.of hXe⟩,λD hD=>CompL.by (xs:=xe) (λi sL H'=>Same H11 H'/\H' D=sF (.lst sL)/\Iss K H' (((zc es2).take i).map dR) sL) ⟨zd hD,zf,by simp only[bA,aN,Iss]⟩ (λi sL H' _ h=>SqL.of (h.1 _ _ hXe)) ?_ ?_⟩
  ·rintro i x sL H' hx ⟨hs,hH,hA⟩
   have hi:=(List.getElem?_eq_some_iff.mp hx).1
   obtain⟨e,pe,se,hei,rfl,hqe,_⟩:=hEn.get hx
   have hm:(zc es2)[i]? = sF (e.1,e.2.1):=by unfold zc;rw[aG,hei];rfl
   have hal:=hA.len
   rw[ae,aK] at hal
   simp only[vS]
   rfl'
   refine⟨wD,_,zl hs hqe,_,rfl,_,zl hs hqe,_,rfl,by lia,λp hp=>⟨zd hp _ _ hH,by lia,CNx.mk hi ⟨zG (hs.trans (zd hp)) hD,zf,?_⟩⟩⟩
   rw[zW hm,aH]
   exact vc hH hA hp Qh (yV _) (by simp only[zQ,xq,and_self])
  ·rintro sL H' ⟨hs,hH,hA⟩
   rw[hxl,<- hpl,aQ] at hA
   refine Vv (.inl ⟨(hE1.same hs).is,LsA.is ⟨sL,hH,hA⟩⟩) (cp (Jq _) (by decide)) ?_
   rw[hone,vC]
   exact q _
end
theorem Zs{us:List oQ}(h:us.length=1):∃a,us=[a]:=List.length_eq_one_iff.mp h
theorem vU{us:List oQ}(h:us.length=2):∃a0 a1,us=[a0,a1]:=by
 cases us with
 | nil=>cases h
 | cons a r =>
  obtain⟨a1,rfl⟩:=Zs (Nat.succ.inj h)
  exact⟨a,a1,rfl⟩
theorem Yk{us:List oQ}(h:us.length=3):∃a0 a1 a2,us=[a0,a1,a2]:=by
 cases us with
 | nil=>cases h
 | cons a r =>
  obtain⟨a1,a2,rfl⟩:=vU (Nat.succ.inj h)
  exact⟨a,a1,a2,rfl⟩
theorem K6{us:List oQ}(h:us.length=4):∃a0 a1 a2 a3,us=[a0,a1,a2,a3]:=by
 cases us with
 | nil=>cases h
 | cons a r =>
  obtain⟨a1,a2,a3,rfl⟩:=Yk (Nat.succ.inj h)
  exact⟨a,a1,a2,a3,rfl⟩
theorem zc9{us:List oQ}(h:us.length=5):∃a0 a1 a2 a3 a4,us=[a0,a1,a2,a3,a4]:=by
 cases us with
 | nil=>cases h
 | cons a r =>
  obtain⟨a1,a2,a3,a4,rfl⟩:=K6 (Nat.succ.inj h)
  exact⟨a,a1,a2,a3,a4,rfl⟩
theorem zc8{us:List oQ}(h:us.length=6):∃a0 a1 a2 a3 a4 a5,us=[a0,a1,a2,a3,a4,a5]:=by
 cases us with
 | nil=>cases h
 | cons a r =>
  obtain⟨a1,a2,a3,a4,a5,rfl⟩:=zc9 (Nat.succ.inj h)
  exact⟨a,a1,a2,a3,a4,a5,rfl⟩
theorem zdx{us:List oQ}(h:us.length=7):∃a0 a1 a2 a3 a4 a5 a6,us=[a0,a1,a2,a3,a4,a5,a6]:=by
 cases us with
 | nil=>cases h
 | cons a r =>
  obtain⟨a1,a2,a3,a4,a5,a6,rfl⟩:=zc8 (Nat.succ.inj h)
  exact⟨a,a1,a2,a3,a4,a5,a6,rfl⟩
theorem all_mk{l:PySem.W.OpenLaw}{w:oX}{K:oO}{h:pb}{mg:oW->Option oQ}{fa f0 f1 f2 f3 f4 f5 f6 f7 f8 f9 f10 f11 f12 f13 f14 f15 f16 f17 f18 f19 f20 f21 f22 f23 f24 f25 f26 f27 f28 f29 f30 f31 f32 f33 f34 f35 f36 f37 f38 f39 f40 f41 f42 f43 f44 f45 f46 nF fM fP fG fF fB fJ fL fQ fH:oP}{cc TB:oP}(X:K.In h)(G:h.Ns oK mg)(hfa:mg "law" = sF (.ref fa))(hlam:∃a o fd,mg "in_order" = sF (.ref a)/\h.get? a=sF o/\o.data=.func fd/\fd.code=.ref cc)(hgT:oK≠TB)
{od0 an0 od1 an1 od2 an2 od3 an3 od4 an4 od5 an5 od6 an6 od7 an7 od8 an8 od9 an9 od10 an10 od11 an11 od12 an12 od13 an13 od14 an14 od15 an15 od16 an16 od17 an17 od18 an18 od19 an19 od20 an20 od21 an21 od22 an22 od23 an23 od24 an24 od25 an25 od26 an26 od27 an27 od28 an28 od29 an29 od30 an30 od31 an31 od32 an32 od33 an33 od34 an34 od35 an35 od36 an36 od37 an37 od38 an38 od39 an39 od40 an40 od41 an41 od42 an42 od43 an43 od44 an44 od45 an45 od46 an46:Option oP}{sl0 sl1 sl2 sl3 sl4 sl5 sl6 sl7 sl8 sl9 sl10 sl11 sl12 sl13 sl14 sl15 ym sl17 sl18 sl19 sl20 sl21 sl22 sl23 sl24 sl25 sl26 sl27 sl28 sl29 sl30 sl31 sl32 sl33 sl34 sl35 sl36 sl37 sl38 sl39 sl40 sl41 sl42 sl43 sl44 sl45 sl46:Array (Option oQ)}{oc0 kV0 dc0 pm0 cd0 ct0 oc1 kV1 dc1 pm1 cd1 ct1 oc2 kV2 dc2 pm2 cd2 ct2 oc3 kV3 dc3 pm3 cd3 ct3 oc4 kV4 dc4 pm4 cd4 ct4 oc5 kV5 dc5 pm5 cd5 ct5 oc6 kV6 dc6 pm6 cd6 ct6 oc7 kV7 dc7 pm7 cd7 ct7 oc8 kV8 dc8 pm8 cd8 ct8 oc9 kV9 dc9 pm9 cd9 ct9 oc10 kV10 dc10 pm10 cd10 ct10 oc11 kV11 dc11 pm11 cd11 ct11 oc12 kV12 dc12 pm12 cd12 ct12 oc13 kV13 dc13 pm13 cd13 ct13 oc14 kV14 dc14 pm14 cd14 ct14 oc15 kV15 dc15 pm15 cd15 ct15 oc16 kV16 dc16 pm16 cd16 ct16 oc17 kV17 dc17 pm17 cd17 ct17 oc18 kV18 dc18 pm18 cd18 ct18 oc19 kV19 dc19 pm19 cd19 ct19 oc20 kV20 dc20 pm20 cd20 ct20 oc21 kV21 dc21 pm21 cd21 ct21 oc22 kV22 dc22 pm22 cd22 ct22 oc23 kV23 dc23 pm23 cd23 ct23 oc24 kV24 dc24 pm24 cd24 ct24 oc25 kV25 dc25 pm25 cd25 ct25 oc26 kV26 dc26 pm26 cd26 ct26 oc27 kV27 dc27 pm27 cd27 ct27 oc28 kV28 dc28 pm28 cd28 ct28 oc29 kV29 dc29 pm29 cd29 ct29 oc30 kV30 dc30 pm30 cd30 ct30 oc31 kV31 dc31 pm31 cd31 ct31 oc32 kV32 dc32 pm32 cd32 ct32 oc33 kV33 dc33 pm33 cd33 ct33 oc34 kV34 dc34 pm34 cd34 ct34 oc35 kV35 dc35 pm35 cd35 ct35 oc36 kV36 dc36 pm36 cd36 ct36 oc37 kV37 dc37 pm37 cd37 ct37 oc38 kV38 dc38 pm38 cd38 ct38 oc39 kV39 dc39 pm39 cd39 ct39 oc40 kV40 dc40 pm40 cd40 ct40 oc41 kV41 dc41 pm41 cd41 ct41 oc42 kV42 dc42 pm42 cd42 ct42 oc43 kV43 dc43 pm43 cd43 ct43 oc44 kV44 dc44 pm44 cd44 ct44 oc45 kV45 dc45 pm45 cd45 ct45 oc46 kV46 dc46 pm46 cd46 ct46:oQ}
  {t6 t7:rD}
  {fI:oP}
  {odI anI:Option oP}
  {slI:Array (Option oQ)}
  {ocI kVI dcI pmI cdI ctI:oQ}
  {t8:rD}
  {fU:oP}
  {odU anU:Option oP}
  {slU:Array (Option oQ)}
  {ocU kVU dcU pmU cdU ctU:oQ}
  {tmu tms tmd tmp:rD}
  {tcu tce tcd tcp:rD}
  {gc:oP}
  {od_order_init an_order_init:Option oP}
  {sl_order_init:Array (Option oQ)}
  {oc_order_init kV_order_init dc_order_init pm_order_init cd_order_init ct_order_init:oQ}
  {gh:oP}
  {od_order_weight an_order_weight:Option oP}
  {sl_order_weight:Array (Option oQ)}
  {oc_order_weight kV_order_weight dc_order_weight pm_order_weight cd_order_weight ct_order_weight:oQ}
  {gB:oP}
  {od_order_seen an_order_seen:Option oP}
  {sl_order_seen:Array (Option oQ)}
  {oc_order_seen kV_order_seen dc_order_seen pm_order_seen cd_order_seen ct_order_seen:oQ}
  {gp:oP}
  {od_fromright_seen an_fromright_seen:Option oP}
  {sl_fromright_seen:Array (Option oQ)}
  {oc_fromright_seen kV_fromright_seen dc_fromright_seen pm_fromright_seen cd_fromright_seen ct_fromright_seen:oQ}
  {gq:oP}
  {od_byweights_init an_byweights_init:Option oP}
  {sl_byweights_init:Array (Option oQ)}
  {oc_byweights_init kV_byweights_init dc_byweights_init pm_byweights_init cd_byweights_init ct_byweights_init:oQ}
  {fZ:oP}
  {od_byweights_weight an_byweights_weight:Option oP}
  {sl_byweights_weight:Array (Option oQ)}
  {oc_byweights_weight kV_byweights_weight dc_byweights_weight pm_byweights_weight cd_byweights_weight ct_byweights_weight:oQ}
  {gd:oP}
  {od_order_rank an_order_rank:Option oP}
  {sl_order_rank:Array (Option oQ)}
  {oc_order_rank kV_order_rank dc_order_rank pm_order_rank cd_order_rank ct_order_rank:oQ}
  {fR:oP}
  {od_order_before an_order_before:Option oP}
  {sl_order_before:Array (Option oQ)}
  {oc_order_before kV_order_before dc_order_before pm_order_before cd_order_before ct_order_before:oQ}
  {gM:oP}
  {od_system_init an_system_init:Option oP}
  {sl_system_init:Array (Option oQ)}
  {oc_system_init kV_system_init dc_system_init pm_system_init cd_system_init ct_system_init:oQ}
  {fW:oP}
  {od_system_rules_told an_system_rules_told:Option oP}
  {sl_system_rules_told:Array (Option oQ)}
  {oc_system_rules_told kV_system_rules_told dc_system_rules_told pm_system_rules_told cd_system_rules_told ct_system_rules_told:oQ}
  {mH:oP}
  {lr:rD}
  {d1_gone:oQ}
  {d2_gone:Option oP}
  {d3_gone:Nat}
  {d4_gone:Array (Option oQ)}
  {lV:oP}
  {lT:rD}
  {d1_unmet:oQ}
  {d2_unmet:Option oP}
  {d3_unmet:Nat}
  {d4_unmet:Array (Option oQ)}
  (a0:ak K oK "is_small_letter" = sF (sF (.ref f0))) (l0:K.lookup f0=sF ⟨oc0,od0,.func (av "is_small_letter" "is_small_letter" (zm zU) (zk zU) (zb zU) .none kV0 dc0 pm0 an0 cd0 ct0),sl0⟩) (k0:ar K cd0 "is_small_letter" = sH) (p0:aj K (.ref f0)=sH)
  (a1:ak K oK "letters_of" = sF (sF (.ref f1))) (l1:K.lookup f1=sF ⟨oc1,od1,.func (av "letters_of" "letters_of" (zm yO) (zk yO) (zb yO) .none kV1 dc1 pm1 an1 cd1 ct1),sl1⟩) (k1:ar K cd1 "letters_of" = sH) (p1:aj K (.ref f1)=sH)
  (a2:ak K oK "stands_at" = sF (sF (.ref f2))) (l2:K.lookup f2=sF ⟨oc2,od2,.func (av "stands_at" "stands_at" (zm xj) (zk xj) (zb xj) .none kV2 dc2 pm2 an2 cd2 ct2),sl2⟩) (k2:ar K cd2 "stands_at" = sH) (p2:aj K (.ref f2)=sH)
  (a3:ak K oK "put" = sF (sF (.ref f3))) (l3:K.lookup f3=sF ⟨oc3,od3,.func (av "put" "put" (zm XO) (zk XO) (zb XO) .none kV3 dc3 pm3 an3 cd3 ct3),sl3⟩) (k3:ar K cd3 "put" = sH) (p3:aj K (.ref f3)=sH)
  (a4:ak K oK "first_within" = sF (sF (.ref f4))) (l4:K.lookup f4=sF ⟨oc4,od4,.func (av "first_within" "first_within" (zm yw) (zk yw) (zb yw) .none kV4 dc4 pm4 an4 cd4 ct4),sl4⟩) (k4:ar K cd4 "first_within" = sH) (p4:aj K (.ref f4)=sH)
  (a5:ak K oK "first_from" = sF (sF (.ref f5))) (l5:K.lookup f5=sF ⟨oc5,od5,.func (av "first_from" "first_from" (zm yM) (zk yM) (zb yM) .none kV5 dc5 pm5 an5 cd5 ct5),sl5⟩) (k5:ar K cd5 "first_from" = sH) (p5:aj K (.ref f5)=sH)
  (a6:ak K oK "gone" = sF (sF (.ref f6))) (l6:K.lookup f6=sF ⟨oc6,od6,.func (av "gone" "gone" (zm vn) (zk vn) (zb vn) (.ref mH) kV6 dc6 pm6 an6 cd6 ct6),sl6⟩) (k6:ar K cd6 "gone" = sH) (p6:aj K (.ref f6)=sH)
  (a7:ak K oK "back" = sF (sF (.ref f7))) (l7:K.lookup f7=sF ⟨oc7,od7,.func (av "back" "back" (zm qO) (zk qO) (zb qO) .none kV7 dc7 pm7 an7 cd7 ct7),sl7⟩) (k7:ar K cd7 "back" = sH) (p7:aj K (.ref f7)=sH)
  (a8:ak K oK "moved" = sF (sF (.ref f8))) (l8:K.lookup f8=sF ⟨oc8,od8,.func (av "moved" "moved" (zm vA) (zk vA) (zb vA) .none kV8 dc8 pm8 an8 cd8 ct8),sl8⟩) (k8:ar K cd8 "moved" = sH) (p8:aj K (.ref f8)=sH)
  (a9:ak K oK "by_pacts" = sF (sF (.ref f9))) (l9:K.lookup f9=sF ⟨oc9,od9,.func (av "by_pacts" "by_pacts" (zm xE) (zk xE) (zb xE) .none kV9 dc9 pm9 an9 cd9 ct9),sl9⟩) (k9:ar K cd9 "by_pacts" = sH) (p9:aj K (.ref f9)=sH)
  (a10:ak K oK "pairs_of" = sF (sF (.ref f10))) (l10:K.lookup f10=sF ⟨oc10,od10,.func (av "pairs_of" "pairs_of" (zm yZ) (zk yZ) (zb yZ) .none kV10 dc10 pm10 an10 cd10 ct10),sl10⟩) (k10:ar K cd10 "pairs_of" = sH) (p10:aj K (.ref f10)=sH)
  (a11:ak K oK "as_rule" = sF (sF (.ref f11))) (l11:K.lookup f11=sF ⟨oc11,od11,.func (av "as_rule" "as_rule" (zm wc) (zk wc) (zb wc) .none kV11 dc11 pm11 an11 cd11 ct11),sl11⟩) (k11:ar K cd11 "as_rule" = sH) (p11:aj K (.ref f11)=sH)
  (a12:ak K oK "in_order" = sF (sF (.ref f12))) (l12:K.lookup f12=sF ⟨oc12,od12,.func (av "in_order" "in_order" (zm yN) (zk yN) (zb yN) .none kV12 dc12 pm12 an12 cd12 ct12),sl12⟩) (k12:ar K cd12 "in_order" = sH) (p12:aj K (.ref f12)=sH)
  (a13:ak K oK "brought_down" = sF (sF (.ref f13))) (l13:K.lookup f13=sF ⟨oc13,od13,.func (av "brought_down" "brought_down" (zm yq) (zk yq) (zb yq) .none kV13 dc13 pm13 an13 cd13 ct13),sl13⟩) (k13:ar K cd13 "brought_down" = sH) (p13:aj K (.ref f13)=sH)
  (a14:ak K oK "refuse_beyond" = sF (sF (.ref f14))) (l14:K.lookup f14=sF ⟨oc14,od14,.func (av "refuse_beyond" "refuse_beyond" (zm yg) (zk yg) (zb yg) .none kV14 dc14 pm14 an14 cd14 ct14),sl14⟩) (k14:ar K cd14 "refuse_beyond" = sH) (p14:aj K (.ref f14)=sH)
  (a15:ak K oK "built_anew" = sF (sF (.ref f15))) (l15:K.lookup f15=sF ⟨oc15,od15,.func (av "built_anew" "built_anew" (zm yL) (zk yL) (zb yL) .none kV15 dc15 pm15 an15 cd15 ct15),sl15⟩) (k15:ar K cd15 "built_anew" = sH) (p15:aj K (.ref f15)=sH)
  (a16:ak K oK "thinned" = sF (sF (.ref f16))) (l16:K.lookup f16=sF ⟨oc16,od16,.func (av "thinned" "thinned" (zm wf) (zk wf) (zb wf) .none kV16 dc16 pm16 an16 cd16 ct16),ym⟩) (k16:ar K cd16 "thinned" = sH) (p16:aj K (.ref f16)=sH)
  (a17:ak K oK "_law_cell" = sF (sF (.ref f17))) (l17:K.lookup f17=sF ⟨oc17,od17,.func (av "_law_cell" "_law_cell" (zm jC) (zk jC) (zb jC) .none kV17 dc17 pm17 an17 cd17 ct17),sl17⟩) (k17:ar K cd17 "_law_cell" = sH) (p17:aj K (.ref f17)=sH)
  (a18:ak K oK "_law_mixed" = sF (sF (.ref f18))) (l18:K.lookup f18=sF ⟨oc18,od18,.func (av "_law_mixed" "_law_mixed" (zm uw) (zk uw) (zb uw) .none kV18 dc18 pm18 an18 cd18 ct18),sl18⟩) (k18:ar K cd18 "_law_mixed" = sH) (p18:aj K (.ref f18)=sH)
  (a19:ak K oK "_law_letters" = sF (sF (.ref f19))) (l19:K.lookup f19=sF ⟨oc19,od19,.func (av "_law_letters" "_law_letters" (zm we) (zk we) (zb we) .none kV19 dc19 pm19 an19 cd19 ct19),sl19⟩) (k19:ar K cd19 "_law_letters" = sH) (p19:aj K (.ref f19)=sH)
  (a20:ak K oK "_law_word" = sF (sF (.ref f20))) (l20:K.lookup f20=sF ⟨oc20,od20,.func (av "_law_word" "_law_word" (zm jz) (zk jz) (zb jz) .none kV20 dc20 pm20 an20 cd20 ct20),sl20⟩) (k20:ar K cd20 "_law_word" = sH) (p20:aj K (.ref f20)=sH)
  (a21:ak K oK "_law_pair" = sF (sF (.ref f21))) (l21:K.lookup f21=sF ⟨oc21,od21,.func (av "_law_pair" "_law_pair" (zm jy) (zk jy) (zb jy) .none kV21 dc21 pm21 an21 cd21 ct21),sl21⟩) (k21:ar K cd21 "_law_pair" = sH) (p21:aj K (.ref f21)=sH)
  (a22:ak K oK "_law_whole" = sF (sF (.ref f22))) (l22:K.lookup f22=sF ⟨oc22,od22,.func (av "_law_whole" "_law_whole" (zm um) (zk um) (zb um) .none kV22 dc22 pm22 an22 cd22 ct22),sl22⟩) (k22:ar K cd22 "_law_whole" = sH) (p22:aj K (.ref f22)=sH)
  (a23:ak K oK "_law_steps" = sF (sF (.ref f23))) (l23:K.lookup f23=sF ⟨oc23,od23,.func (av "_law_steps" "_law_steps" (zm ur) (zk ur) (zb ur) .none kV23 dc23 pm23 an23 cd23 ct23),sl23⟩) (k23:ar K cd23 "_law_steps" = sH) (p23:aj K (.ref f23)=sH)
  (a24:ak K oK "_law_used" = sF (sF (.ref f24))) (l24:K.lookup f24=sF ⟨oc24,od24,.func (av "_law_used" "_law_used" (zm jR) (zk jR) (zb jR) .none kV24 dc24 pm24 an24 cd24 ct24),sl24⟩) (k24:ar K cd24 "_law_used" = sH) (p24:aj K (.ref f24)=sH)
  (a25:ak K oK "_law_uses" = sF (sF (.ref f25))) (l25:K.lookup f25=sF ⟨oc25,od25,.func (av "_law_uses" "_law_uses" (zm jP) (zk jP) (zb jP) .none kV25 dc25 pm25 an25 cd25 ct25),sl25⟩) (k25:ar K cd25 "_law_uses" = sH) (p25:aj K (.ref f25)=sH)
  (a26:ak K oK "_law_chain" = sF (sF (.ref f26))) (l26:K.lookup f26=sF ⟨oc26,od26,.func (av "_law_chain" "_law_chain" (zm vX) (zk vX) (zb vX) .none kV26 dc26 pm26 an26 cd26 ct26),sl26⟩) (k26:ar K cd26 "_law_chain" = sH) (p26:aj K (.ref f26)=sH)
  (a27:ak K oK "_law_end" = sF (sF (.ref f27))) (l27:K.lookup f27=sF ⟨oc27,od27,.func (av "_law_end" "_law_end" (zm XL) (zk XL) (zb XL) .none kV27 dc27 pm27 an27 cd27 ct27),sl27⟩) (k27:ar K cd27 "_law_end" = sH) (p27:aj K (.ref f27)=sH)
  (a28:ak K oK "_law_order" = sF (sF (.ref f28))) (l28:K.lookup f28=sF ⟨oc28,od28,.func (av "_law_order" "_law_order" (zm ui) (zk ui) (zb ui) .none kV28 dc28 pm28 an28 cd28 ct28),sl28⟩) (k28:ar K cd28 "_law_order" = sH) (p28:aj K (.ref f28)=sH)
  (a29:ak K oK "_law_draw" = sF (sF (.ref f29))) (l29:K.lookup f29=sF ⟨oc29,od29,.func (av "_law_draw" "_law_draw" (zm jw) (zk jw) (zb jw) .none kV29 dc29 pm29 an29 cd29 ct29),sl29⟩) (k29:ar K cd29 "_law_draw" = sH) (p29:aj K (.ref f29)=sH)
  (a30:ak K oK "_law_entries" = sF (sF (.ref f30))) (l30:K.lookup f30=sF ⟨oc30,od30,.func (av "_law_entries" "_law_entries" (zm wg) (zk wg) (zb wg) .none kV30 dc30 pm30 an30 cd30 ct30),sl30⟩) (k30:ar K cd30 "_law_entries" = sH) (p30:aj K (.ref f30)=sH)
  (a31:ak K oK "agree" = sF (sF (.ref f31))) (l31:K.lookup f31=sF ⟨oc31,od31,.func (av "agree" "agree" (zm uf) (zk uf) (zb uf) .none kV31 dc31 pm31 an31 cd31 ct31),sl31⟩) (k31:ar K cd31 "agree" = sH) (p31:aj K (.ref f31)=sH)
  (a32:ak K oK "overlaps" = sF (sF (.ref f32))) (l32:K.lookup f32=sF ⟨oc32,od32,.func (av "overlaps" "overlaps" (zm xA) (zk xA) (zb xA) .none kV32 dc32 pm32 an32 cd32 ct32),sl32⟩) (k32:ar K cd32 "overlaps" = sH) (p32:aj K (.ref f32)=sH)
  (a33:ak K oK "peak" = sF (sF (.ref f33))) (l33:K.lookup f33=sF ⟨oc33,od33,.func (av "peak" "peak" (zm jA) (zk jA) (zb jA) .none kV33 dc33 pm33 an33 cd33 ct33),sl33⟩) (k33:ar K cd33 "peak" = sH) (p33:aj K (.ref f33)=sH)
  (a34:ak K oK "form_of" = sF (sF (.ref f34))) (l34:K.lookup f34=sF ⟨oc34,od34,.func (av "form_of" "form_of" (zm wb) (zk wb) (zb wb) .none kV34 dc34 pm34 an34 cd34 ct34),sl34⟩) (k34:ar K cd34 "form_of" = sH) (p34:aj K (.ref f34)=sH)
  (a35:ak K oK "is_met" = sF (sF (.ref f35))) (l35:K.lookup f35=sF ⟨oc35,od35,.func (av "is_met" "is_met" (zm wY) (zk wY) (zb wY) .none kV35 dc35 pm35 an35 cd35 ct35),sl35⟩) (k35:ar K cd35 "is_met" = sH) (p35:aj K (.ref f35)=sH)
  (a36:ak K oK "unmet" = sF (sF (.ref f36))) (l36:K.lookup f36=sF ⟨oc36,od36,.func (av "unmet" "unmet" (zm x0) (zk x0) (zb x0) (.ref lV) kV36 dc36 pm36 an36 cd36 ct36),sl36⟩) (k36:ar K cd36 "unmet" = sH) (p36:aj K (.ref f36)=sH)
  (a37:ak K oK "system_by" = sF (sF (.ref f37))) (l37:K.lookup f37=sF ⟨oc37,od37,.func (av "system_by" "system_by" (zm xf) (zk xf) (zb xf) .none kV37 dc37 pm37 an37 cd37 ct37),sl37⟩) (k37:ar K cd37 "system_by" = sH) (p37:aj K (.ref f37)=sH)
  (a38:ak K oK "first_entries" = sF (sF (.ref f38))) (l38:K.lookup f38=sF ⟨oc38,od38,.func (av "first_entries" "first_entries" (zm zV) (zk zV) (zb zV) .none kV38 dc38 pm38 an38 cd38 ct38),sl38⟩) (k38:ar K cd38 "first_entries" = sH) (p38:aj K (.ref f38)=sH)
  (a39:ak K oK "is_beyond" = sF (sF (.ref f39))) (l39:K.lookup f39=sF ⟨oc39,od39,.func (av "is_beyond" "is_beyond" (zm yH) (zk yH) (zb yH) .none kV39 dc39 pm39 an39 cd39 ct39),sl39⟩) (k39:ar K cd39 "is_beyond" = sH) (p39:aj K (.ref f39)=sH)
  (a40:ak K oK "thinned_within" = sF (sF (.ref f40))) (l40:K.lookup f40=sF ⟨oc40,od40,.func (av "thinned_within" "thinned_within" (zm z7) (zk z7) (zb z7) .none kV40 dc40 pm40 an40 cd40 ct40),sl40⟩) (k40:ar K cd40 "thinned_within" = sH) (p40:aj K (.ref f40)=sH)
  (a41:ak K oK "unmet_within" = sF (sF (.ref f41))) (l41:K.lookup f41=sF ⟨oc41,od41,.func (av "unmet_within" "unmet_within" (zm yt) (zk yt) (zb yt) .none kV41 dc41 pm41 an41 cd41 ct41),sl41⟩) (k41:ar K cd41 "unmet_within" = sH) (p41:aj K (.ref f41)=sH)
  (a42:ak K oK "entry_of" = sF (sF (.ref f42))) (l42:K.lookup f42=sF ⟨oc42,od42,.func (av "entry_of" "entry_of" (zm xB) (zk xB) (zb xB) .none kV42 dc42 pm42 an42 cd42 ct42),sl42⟩) (k42:ar K cd42 "entry_of" = sH) (p42:aj K (.ref f42)=sH)
  (a43:ak K oK "completed" = sF (sF (.ref f43))) (l43:K.lookup f43=sF ⟨oc43,od43,.func (av "completed" "completed" (zm yG) (zk yG) (zb yG) .none kV43 dc43 pm43 an43 cd43 ct43),sl43⟩) (k43:ar K cd43 "completed" = sH) (p43:aj K (.ref f43)=sH)
  (a44:ak K oK "_law_told" = sF (sF (.ref f44))) (l44:K.lookup f44=sF ⟨oc44,od44,.func (av "_law_told" "_law_told" (zm jJ) (zk jJ) (zb jJ) .none kV44 dc44 pm44 an44 cd44 ct44),sl44⟩) (k44:ar K cd44 "_law_told" = sH) (p44:aj K (.ref f44)=sH)
  (a45:ak K oK "_law_turned" = sF (sF (.ref f45))) (l45:K.lookup f45=sF ⟨oc45,od45,.func (av "_law_turned" "_law_turned" (zm ve) (zk ve) (zb ve) .none kV45 dc45 pm45 an45 cd45 ct45),sl45⟩) (k45:ar K cd45 "_law_turned" = sH) (p45:aj K (.ref f45)=sH)
  (a46:ak K oK "law" = sF (sF (.ref f46))) (l46:K.lookup f46=sF ⟨oc46,od46,.func (av "law" "law" (zm uN) (zk uN) (zb uN) .none kV46 dc46 pm46 an46 cd46 ct46),sl46⟩) (k46:ar K cd46 "law" = sH) (p46:aj K (.ref f46)=sH)
  (g_LetterError:ak K oK "LetterError" = sF (sF (.ref nF)))
  (g_NoLetters:ak K oK "NoLetters" = sF (sF (.ref fM)))
  (g_NoOrder:ak K oK "NoOrder" = sF (sF (.ref fP)))
  (g_Order:ak K oK "Order" = sF (sF (.ref fG)))
  (g_FromRight:ak K oK "FromRight" = sF (sF (.ref fF)))
  (g_ByWeights:ak K oK "ByWeights" = sF (sF (.ref fB)))
  (g_NotTurned:ak K oK "NotTurned" = sF (sF (.ref fJ)))
  (g_System:ak K oK "System" = sF (sF (.ref fL)))
  (g_NoUse:ak K oK "NoUse" = sF (sF (.ref fQ)))
  (g_TooFar:ak K oK "TooFar" = sF (sF (.ref fH)))
  (kbb:aT K (.type "bool") (.type "bool")=sF sH)
  (kt:aT K (.type "tuple") (.type "tuple")=sF sH)
  (ki:aT K (.type "int") (.type "int")=sF sH)
  (kb:aT K (.type "int") (.type "bool")=sF sI)
  (kl:aT K (.type "list") (.type "list")=sF sH)
  (x7:cA K (.builtin "object.__class__") "__get__" = sF (sF (.builtin "getset_descriptor.__get__")))
  (x8:du K (.builtin "object.__class__")=sF sH)
  (x1:Z5 K fM=sH)
  (x2:ah K (.ref fM) "__setattr__" = sF (sF (.builtin "object.__setattr__")))
  (x3:ah K (.ref fM) "__getattribute__" = sF (sF (.builtin "BaseException.__getattribute__")))
  (x4:ah K (.ref fM) "__getattr__" = sF sG)
  (x5:aj K (.ref fM)=sH)
  (x6:ah K (.ref fM) "__class__" = sF (sF (.builtin "object.__class__")))
  (x9:bP K fM (.type "object")=sF sH)
  (xi:ah K (.ref fM) "__init__" = sF (sF (.builtin "ValueError.__init__")))
  (y1:Z5 K fP=sH)
  (y2:ah K (.ref fP) "__setattr__" = sF (sF (.builtin "object.__setattr__")))
  (y3:ah K (.ref fP) "__getattribute__" = sF (sF (.builtin "BaseException.__getattribute__")))
  (y4:ah K (.ref fP) "__getattr__" = sF sG)
  (y5:aj K (.ref fP)=sH)
  (y6:ah K (.ref fP) "__class__" = sF (sF (.builtin "object.__class__")))
  (y9:bP K fP (.type "object")=sF sH)
  (yi:ah K (.ref fP) "__init__" = sF (sF (.builtin "ValueError.__init__")))
  (most:ak K oK "MOST_LETTERS" = sF (sF (.int 6 t6)))
  (mostw:ak K oK "MOST_WEIGHT" = sF (sF (.int 1000000 t7)))
  (mT:bT K fG eF=sH)
  (mU:bQ K fG=sH)
  (mV:cz K fG=sH)
  (mX:ah K (.ref fG) "__setattr__" = sF (sF (.builtin "object.__setattr__")))
  (mY:cK K fG=sH)
  (mZ:aj K (.ref fG)=sH)
  (nc:ah K (.ref fG) "letters" = sF sG)
  (nP:aT K (.ref fG) (.ref fG)=sF sH)
  (nQ:ah K (.ref fG) "__class__" = sF (sF (.builtin "object.__class__")))
  (nR:bP K fG (.type "object")=sF sH)
  (lu:bT K fF eF=sH)
  (lv:bQ K fF=sH)
  (lw:cz K fF=sH)
  (lx:ah K (.ref fF) "__setattr__" = sF (sF (.builtin "object.__setattr__")))
  (ly:cK K fF=sH)
  (lA:aj K (.ref fF)=sH)
  (lB:ah K (.ref fF) "letters" = sF sG)
  (mr:aT K (.ref fF) (.ref fG)=sF sH)
  (mv:ah K (.ref fF) "__class__" = sF (sF (.builtin "object.__class__")))
  (mw:bP K fF (.type "object")=sF sH)
  (lC:bT K fB eF=sH)
  (lD:bQ K fB=sH)
  (lE:cz K fB=sH)
  (lF:ah K (.ref fB) "__setattr__" = sF (sF (.builtin "object.__setattr__")))
  (lG:cK K fB=sH)
  (lH:aj K (.ref fB)=sH)
  (lJ:ah K (.ref fB) "letters" = sF sG)
  (mx:aT K (.ref fB) (.ref fG)=sF sH)
  (my:ah K (.ref fB) "__class__" = sF (sF (.builtin "object.__class__")))
  (mz:bP K fB (.type "object")=sF sH)
  (nw_ByWeights:ah K (.ref fB) "weights" = sF sG)
  (sgO:cA K (.ref fG) "__getattribute__" = sF (sF (.builtin "type.__getattribute__")))
  (rdO:fu K fG (.type "type")=sH)
  (win:ak K oK "WINDOW" = sF (sF (.int 128 t8)))
  (tt1:Z5 K fJ=sH)
  (tt2:ah K (.ref fJ) "__setattr__" = sF (sF (.builtin "object.__setattr__")))
  (tt3:ah K (.ref fJ) "__getattribute__" = sF (sF (.builtin "BaseException.__getattribute__")))
  (tt4:ah K (.ref fJ) "__getattr__" = sF sG)
  (tt5:aj K (.ref fJ)=sH)
  (tt6:ah K (.ref fJ) "__class__" = sF (sF (.builtin "object.__class__")))
  (tt9:bP K fJ (.type "object")=sF sH)
  (nn:ah K (.ref fJ) "number" = sF sG)
  (ini:ah K (.ref fJ) "__init__" = sF (sF (.ref fI)))
  (lI:K.lookup fI=sF ⟨ocI,odI,.func (av "__init__" "NotTurned.__init__" (zm z6) (zk z6) (zb z6) .none kVI dcI pmI anI cdI ctI),slI⟩)
  (kI:ar K cdI "NotTurned.__init__" = sH)
  (pI:aj K (.ref fI)=sH)
  (fnI:bg K (.ref fI)=sH)
  (mB:bT K fL eF=sH)
  (mC:bQ K fL=sH)
  (mD:cz K fL=sH)
  (mE:ah K (.ref fL) "__setattr__" = sF (sF (.builtin "object.__setattr__")))
  (mF:cK K fL=sH)
  (mG:aj K (.ref fL)=sH)
  (no_System:ah K (.ref fL) "order" = sF sG)
  (nr_System:ah K (.ref fL) "rules" = sF sG)
  (u1:Z5 K fQ=sH)
  (u2:ah K (.ref fQ) "__setattr__" = sF (sF (.builtin "object.__setattr__")))
  (u3:ah K (.ref fQ) "__getattribute__" = sF (sF (.builtin "BaseException.__getattribute__")))
  (u4:ah K (.ref fQ) "__getattr__" = sF sG)
  (u5:aj K (.ref fQ)=sH)
  (u6:ah K (.ref fQ) "__class__" = sF (sF (.builtin "object.__class__")))
  (u9:bP K fQ (.type "object")=sF sH)
  (ua:ah K (.ref fQ) "at" = sF sG)
  (iniU:ah K (.ref fQ) "__init__" = sF (sF (.ref fU)))
  (lU:K.lookup fU=sF ⟨ocU,odU,.func (av "__init__" "NoUse.__init__" (zm yP) (zk yP) (zb yP) .none kVU dcU pmU anU cdU ctU),slU⟩)
  (kU:ar K cdU "NoUse.__init__" = sH)
  (pU:aj K (.ref fU)=sH)
  (fnU:bg K (.ref fU)=sH)
  (v1:Z5 K fH=sH)
  (v2:ah K (.ref fH) "__setattr__" = sF (sF (.builtin "object.__setattr__")))
  (v3:ah K (.ref fH) "__getattribute__" = sF (sF (.builtin "BaseException.__getattribute__")))
  (v4:ah K (.ref fH) "__getattr__" = sF sG)
  (v5:aj K (.ref fH)=sH)
  (v6:ah K (.ref fH) "__class__" = sF (sF (.builtin "object.__class__")))
  (v9:bP K fH (.type "object")=sF sH)
  (vi:ah K (.ref fH) "__init__" = sF (sF (.builtin "ValueError.__init__")))
  (sFF:cJ K (.ref fH) (.ref fH)=sF sH)
  (ks:aT K (.type "str") (.type "str")=sF sH)
  (nany:ak K oK "any" = sF sG)
  (nsorted:ak K oK "sorted" = sF sG)
  (mou:ak K oK "MOST_USES_thinning" = sF (sF (.int 40 tmu)))
  (mos:ak K oK "MOST_STEPS" = sF (sF (.int 240 tms)))
  (mod_:ak K oK "MOST_SIDE_thinning" = sF (sF (.int 60 tmd)))
  (mop:ak K oK "MOST_PASSES" = sF (sF (.int 20 tmp)))
  (mcu:ak K oK "MOST_USES_completing" = sF (sF (.int 40 tcu)))
  (mce:ak K oK "MOST_ENTRIES" = sF (sF (.int 12 tce)))
  (mcd:ak K oK "MOST_SIDE_completing" = sF (sF (.int 10 tcd)))
  (mcp:ak K oK "MOST_PEAKS" = sF (sF (.int 8 tcp)))
  (iN:ah K (.ref fG) "__init__" = sF (sF (.ref gc)))
  (iO:K.lookup gc=sF ⟨oc_order_init,od_order_init,.func (av "__init__" "Order.__init__" (zm yK) (zk yK) (zb yK) .none kV_order_init dc_order_init pm_order_init an_order_init cd_order_init ct_order_init),sl_order_init⟩)
  (iP:ar K cd_order_init "Order.__init__" = sH)
  (ig:aj K (.ref gc)=sH)
  (ij:bg K (.ref gc)=sH)
  (ip:ah K (.ref fG) "weight" = sF (sF (.ref gh)))
  (iq:K.lookup gh=sF ⟨oc_order_weight,od_order_weight,.func (av "weight" "Order.weight" (zm yv) (zk yv) (zb yv) .none kV_order_weight dc_order_weight pm_order_weight an_order_weight cd_order_weight ct_order_weight),sl_order_weight⟩)
  (ir:ar K cd_order_weight "Order.weight" = sH)
  (gk:aj K (.ref gh)=sH)
  (gJ:bg K (.ref gh)=sH)
  (iQ:ah K (.ref fG) "seen" = sF (sF (.ref gB)))
  (iR:K.lookup gB=sF ⟨oc_order_seen,od_order_seen,.func (av "seen" "Order.seen" (zm yQ) (zk yQ) (zb yQ) .none kV_order_seen dc_order_seen pm_order_seen an_order_seen cd_order_seen ct_order_seen),sl_order_seen⟩)
  (iS:ar K cd_order_seen "Order.seen" = sH)
  (gC:aj K (.ref gB)=sH)
  (ik:bg K (.ref gB)=sH)
  (gN:ah K (.ref fF) "seen" = sF (sF (.ref gp)))
  (gP:K.lookup gp=sF ⟨oc_fromright_seen,od_fromright_seen,.func (av "seen" "FromRight.seen" (zm zZ) (zk zZ) (zb zZ) .none kV_fromright_seen dc_fromright_seen pm_fromright_seen an_fromright_seen cd_fromright_seen ct_fromright_seen),sl_fromright_seen⟩)
  (gQ:ar K cd_fromright_seen "FromRight.seen" = sH)
  (gr:aj K (.ref gp)=sH)
  (gT:bg K (.ref gp)=sH)
  (gU:ah K (.ref fB) "__init__" = sF (sF (.ref gq)))
  (gX:K.lookup gq=sF ⟨oc_byweights_init,od_byweights_init,.func (av "__init__" "ByWeights.__init__" (zm zY) (zk zY) (zb zY) .none kV_byweights_init dc_byweights_init pm_byweights_init an_byweights_init cd_byweights_init ct_byweights_init),sl_byweights_init⟩)
  (gY:ar K cd_byweights_init "ByWeights.__init__" = sH)
  (gZ:aj K (.ref gq)=sH)
  (ic:bg K (.ref gq)=sH)
  (gE:ah K (.ref fB) "weight" = sF (sF (.ref fZ)))
  (gF:K.lookup fZ=sF ⟨oc_byweights_weight,od_byweights_weight,.func (av "weight" "ByWeights.weight" (zm zM) (zk zM) (zb zM) .none kV_byweights_weight dc_byweights_weight pm_byweights_weight an_byweights_weight cd_byweights_weight ct_byweights_weight),sl_byweights_weight⟩)
  (gG:ar K cd_byweights_weight "ByWeights.weight" = sH)
  (gb:aj K (.ref fZ)=sH)
  (gH:bg K (.ref fZ)=sH)
  (iT:ah K (.ref fG) "rank" = sF (sF (.ref gd)))
  (iU:K.lookup gd=sF ⟨oc_order_rank,od_order_rank,.func (av "rank" "Order.rank" (zm yB) (zk yB) (zb yB) .none kV_order_rank dc_order_rank pm_order_rank an_order_rank cd_order_rank ct_order_rank),sl_order_rank⟩)
  (iV:ar K cd_order_rank "Order.rank" = sH)
  (ge:aj K (.ref gd)=sH)
  (gD:bg K (.ref gd)=sH)
  (iu:ah K (.ref fG) "before" = sF (sF (.ref fR)))
  (iw:K.lookup fR=sF ⟨oc_order_before,od_order_before,.func (av "before" "Order.before" (zm yu) (zk yu) (zb yu) .none kV_order_before dc_order_before pm_order_before an_order_before cd_order_before ct_order_before),sl_order_before⟩)
  (iz:ar K cd_order_before "Order.before" = sH)
  (fS:aj K (.ref fR)=sH)
  (gm:bg K (.ref fR)=sH)
  (iH:ah K (.ref fL) "__init__" = sF (sF (.ref gM)))
  (iI:K.lookup gM=sF ⟨oc_system_init,od_system_init,.func (av "__init__" "System.__init__" (zm yD) (zk yD) (zb yD) .none kV_system_init dc_system_init pm_system_init an_system_init cd_system_init ct_system_init),sl_system_init⟩)
  (iJ:ar K cd_system_init "System.__init__" = sH)
  (iK:aj K (.ref gM)=sH)
  (iL:bg K (.ref gM)=sH)
  (gw:ah K (.ref fL) "rules_told" = sF (sF (.ref fW)))
  (gx:K.lookup fW=sF ⟨oc_system_rules_told,od_system_rules_told,.func (av "rules_told" "System.rules_told" (zm zO) (zk zO) (zb zO) .none kV_system_rules_told dc_system_rules_told pm_system_rules_told an_system_rules_told cd_system_rules_told ct_system_rules_told),sl_system_rules_told⟩)
  (gy:ar K cd_system_rules_told "System.rules_told" = sH)
  (fX:aj K (.ref fW)=sH)
  (gz:bg K (.ref fW)=sH)
  (mI:K.lookup mH=sF ⟨d1_gone,d2_gone,.seq #[.int 4000 lr] d3_gone,d4_gone⟩)
  (lX:K.lookup lV=sF ⟨d1_unmet,d2_unmet,.seq #[.int 4000 lT] d3_unmet,d4_unmet⟩)
  (fcO:fv K (.ref fG) (.type "type") "__init__" = sF (.val (.ref gc)))
  (fiR_init:ah K (.ref fF) "__init__" = sF (sF (.ref gc)))
  (fiR_weight:ah K (.ref fF) "weight" = sF (sF (.ref gh)))
  (fiW_seen:ah K (.ref fB) "seen" = sF (sF (.ref gB)))
  (fiR_rank:ah K (.ref fF) "rank" = sF (sF (.ref gd)))
  (fiW_rank:ah K (.ref fB) "rank" = sF (sF (.ref gd)))
  (fiR_before:ah K (.ref fF) "before" = sF (sF (.ref fR)))
  (fiW_before:ah K (.ref fB) "before" = sF (sF (.ref fR)))
  (b0:ak K oK "len" = sF sG)
  (b1:ak K oK "range" = sF sG)
  (b2:ak K oK "isinstance" = sF sG)
  (b3:ak K oK "str" = sF sG)
  (b4:ak K oK "int" = sF sG)
  (b5:ak K oK "tuple" = sF sG)
  (b6:ak K oK "list" = sF sG)
  (b7:ak K oK "bool" = sF sG)
  (b8:ak K oK "enumerate" = sF sG)
  (b9:ak K oK "all" = sF sG)
  (b10:ak K oK "ValueError" = sF sG)
  (b11:ak K oK "max" = sF sG)
  (b12:ak K oK "reversed" = sF sG)
  (b13:ak K oK "zip" = sF sG)
  (b14:ak K oK "sum" = sF sG)
  (b15:ak K oK "sorted" = sF sG)
  : ∃fd:oU,(∀(s:oR) (v:oQ),rS s fd ⟨[v],[]⟩ [("_law_script",v)])/\∀base:pb,K.In base->base.Ns oK mg->base.BuiltinsAt mg TB->PySem.W.CodeHd base cc TB->FnOk l.prog w K mg base CX0 11 fa fd ["_law_script"] (YJ K TB):=by
 have e:=hfa.symm.trans (aq X G a46)
 cases e
 have B:Bt mg:=⟨aP X G b0,aP X G b1,aP X G b2,aP X G b3,aP X G b4,aP X G b5,aP X G b6,aP X G b7,aP X G b8,aP X G b9,aP X G b10,aP X G b11,aP X G b12,aP X G b13,aP X G b14,aP X G b15⟩
 have F0:=zE (st:=zU) l0 k0 p0
 have B0:=F0.binds (ps:=["sign"]) λ_ _ _ _ _ _ us hl=>by obtain⟨_,rfl⟩:=Zs hl;rfl
 have M0:=aq X G a0
 have F1:=zE (st:=yO) l1 k1 p1
 have B1:=F1.binds (ps:=["text"]) λ_ _ _ _ _ _ us hl=>by obtain⟨_,rfl⟩:=Zs hl;rfl
 have M1:=aq X G a1
 have F2:=zE (st:=xj) l2 k2 p2
 have B2:=F2.binds (ps:=["word","place","part"]) λ_ _ _ _ _ _ us hl=>by obtain⟨_,_,_,rfl⟩:=Yk hl;rfl
 have M2:=aq X G a2
 have F3:=zE (st:=XO) l3 k3 p3
 have B3:=F3.binds (ps:=["word","place","old","new"]) λ_ _ _ _ _ _ us hl=>by obtain⟨_,_,_,_,rfl⟩:=K6 hl;rfl
 have M3:=aq X G a3
 have F4:=zE (st:=yw) l4 k4 p4
 have B4:=F4.binds (ps:=["rules","word","start","end"]) λ_ _ _ _ _ _ us hl=>by obtain⟨_,_,_,_,rfl⟩:=K6 hl;rfl
 have M4:=aq X G a4
 have F5:=zE (st:=yM) l5 k5 p5
 have B5:=F5.binds (ps:=["rules","word","start"]) λ_ _ _ _ _ _ us hl=>by obtain⟨_,_,_,rfl⟩:=Yk hl;rfl
 have M5:=aq X G a5
 have F6:FunD K "gone" "gone" vn (.ref mH) f6 (av "gone" "gone" (zm vn) (zk vn) (zb vn) (.ref mH) kV6 dc6 pm6 an6 cd6 ct6):=⟨⟨_,_,_,_,_,_,_,_,_,rfl,l6,k6⟩⟩
 have M6:=aq X G a6
 have F7:=zE (st:=qO) l7 k7 p7
 have B7:=F7.binds (ps:=["steps"]) λ_ _ _ _ _ _ us hl=>by obtain⟨_,rfl⟩:=Zs hl;rfl
 have M7:=aq X G a7
 have F8:=zE (st:=vA) l8 k8 p8
 have B8:=F8.binds (ps:=["steps","size"]) λ_ _ _ _ _ _ us hl=>by obtain⟨_,_,rfl⟩:=vU hl;rfl
 have M8:=aq X G a8
 have F9:=zE (st:=xE) l9 k9 p9
 have B9:=F9.binds (ps:=["entries","steps"]) λ_ _ _ _ _ _ us hl=>by obtain⟨_,_,rfl⟩:=vU hl;rfl
 have M9:=aq X G a9
 have F10:=zE (st:=yZ) l10 k10 p10
 have B10:=F10.binds (ps:=["entries"]) λ_ _ _ _ _ _ us hl=>by obtain⟨_,rfl⟩:=Zs hl;rfl
 have M10:=aq X G a10
 have F11:=zE (st:=wc) l11 k11 p11
 have B11:=F11.binds (ps:=["order","entry"]) λ_ _ _ _ _ _ us hl=>by obtain⟨_,_,rfl⟩:=vU hl;rfl
 have M11:=aq X G a11
 have F12:=zE (st:=yN) l12 k12 p12
 have B12:=F12.binds (ps:=["order","entries"]) λ_ _ _ _ _ _ us hl=>by obtain⟨_,_,rfl⟩:=vU hl;rfl
 have M12:=aq X G a12
 have F13:=zE (st:=yq) l13 k13 p13
 have B13:=F13.binds (ps:=["entries","entry"]) λ_ _ _ _ _ _ us hl=>by obtain⟨_,_,rfl⟩:=vU hl;rfl
 have M13:=aq X G a13
 have F14:=zE (st:=yg) l14 k14 p14
 have B14:=F14.binds (ps:=["entry"]) λ_ _ _ _ _ _ us hl=>by obtain⟨_,rfl⟩:=Zs hl;rfl
 have M14:=aq X G a14
 have F15:=zE (st:=yL) l15 k15 p15
 have B15:=F15.binds (ps:=["order","entries"]) λ_ _ _ _ _ _ us hl=>by obtain⟨_,_,rfl⟩:=vU hl;rfl
 have M15:=aq X G a15
 have F16:=zE (st:=wf) l16 k16 p16
 have B16:=F16.binds (ps:=["order","entries"]) λ_ _ _ _ _ _ us hl=>by obtain⟨_,_,rfl⟩:=vU hl;rfl
 have M16:=aq X G a16
 have F17:=zE (st:=jC) l17 k17 p17
 have B17:=F17.binds (ps:=["_law_script","_law_k"]) λ_ _ _ _ _ _ us hl=>by obtain⟨_,_,rfl⟩:=vU hl;rfl
 have M17:=aq X G a17
 have F18:=zE (st:=uw) l18 k18 p18
 have B18:=F18.binds (ps:=["_law_cell_here","_law_turn"]) λ_ _ _ _ _ _ us hl=>by obtain⟨_,_,rfl⟩:=vU hl;rfl
 have M18:=aq X G a18
 have F19:=zE (st:=we) l19 k19 p19
 have B19:=F19.binds (ps:=["_law_cell_here","_law_many"]) λ_ _ _ _ _ _ us hl=>by obtain⟨_,_,rfl⟩:=vU hl;rfl
 have M19:=aq X G a19
 have F20:=zE (st:=jz) l20 k20 p20
 have B20:=F20.binds (ps:=["_law_number","_law_letters_here","_law_most"]) λ_ _ _ _ _ _ us hl=>by obtain⟨_,_,_,rfl⟩:=Yk hl;rfl
 have M20:=aq X G a20
 have F21:=zE (st:=jy) l21 k21 p21
 have B21:=F21.binds (ps:=["_law_cell_here","_law_letters_here","_law_most"]) λ_ _ _ _ _ _ us hl=>by obtain⟨_,_,_,rfl⟩:=Yk hl;rfl
 have M21:=aq X G a21
 have F22:=zE (st:=um) l22 k22 p22
 have B22:=F22.binds (ps:=["_law_found"]) λ_ _ _ _ _ _ us hl=>by obtain⟨_,rfl⟩:=Zs hl;rfl
 have M22:=aq X G a22
 have F23:=zE (st:=ur) l23 k23 p23
 have B23:=F23.binds (ps:=["_law_found"]) λ_ _ _ _ _ _ us hl=>by obtain⟨_,rfl⟩:=Zs hl;rfl
 have M23:=aq X G a23
 have F24:=zE (st:=jR) l24 k24 p24
 have B24:=F24.binds (ps:=["_law_pacts","_law_word_here","_law_step"]) λ_ _ _ _ _ _ us hl=>by obtain⟨_,_,_,rfl⟩:=Yk hl;rfl
 have M24:=aq X G a24
 have F25:=zE (st:=jP) l25 k25 p25
 have B25:=F25.binds (ps:=["_law_pacts","_law_word_here","_law_most"]) λ_ _ _ _ _ _ us hl=>by obtain⟨_,_,_,rfl⟩:=Yk hl;rfl
 have M25:=aq X G a25
 have F26:=zE (st:=vX) l26 k26 p26
 have B26:=F26.binds (ps:=["_law_pacts","_law_word_here","_law_cells","_law_most"]) λ_ _ _ _ _ _ us hl=>by obtain⟨_,_,_,_,rfl⟩:=K6 hl;rfl
 have M26:=aq X G a26
 have F27:=zE (st:=XL) l27 k27 p27
 have B27:=F27.binds (ps:=["_law_pacts","_law_word_here","_law_steps_here"]) λ_ _ _ _ _ _ us hl=>by obtain⟨_,_,_,rfl⟩:=Yk hl;rfl
 have M27:=aq X G a27
 have F28:=zE (st:=ui) l28 k28 p28
 have B28:=F28.binds (ps:=["_law_kind","_law_letters_here","_law_weights"]) λ_ _ _ _ _ _ us hl=>by obtain⟨_,_,_,rfl⟩:=Yk hl;rfl
 have M28:=aq X G a28
 have F29:=zE (st:=jw) l29 k29 p29
 have B29:=F29.binds (ps:=["_law_cell_here"]) λ_ _ _ _ _ _ us hl=>by obtain⟨_,rfl⟩:=Zs hl;rfl
 have M29:=aq X G a29
 have F30:=zE (st:=wg) l30 k30 p30
 have B30:=F30.binds (ps:=["_law_found"]) λ_ _ _ _ _ _ us hl=>by obtain⟨_,rfl⟩:=Zs hl;rfl
 have M30:=aq X G a30
 have F31:=zE (st:=uf) l31 k31 p31
 have B31:=F31.binds (ps:=["one","other","place"]) λ_ _ _ _ _ _ us hl=>by obtain⟨_,_,_,rfl⟩:=Yk hl;rfl
 have M31:=aq X G a31
 have F32:=zE (st:=xA) l32 k32 p32
 have B32:=F32.binds (ps:=["rules"]) λ_ _ _ _ _ _ us hl=>by obtain⟨_,rfl⟩:=Zs hl;rfl
 have M32:=aq X G a32
 have F33:=zE (st:=jA) l33 k33 p33
 have B33:=F33.binds (ps:=["rules","overlap"]) λ_ _ _ _ _ _ us hl=>by obtain⟨_,_,rfl⟩:=vU hl;rfl
 have M33:=aq X G a33
 have F34:=zE (st:=wb) l34 k34 p34
 have B34:=F34.binds (ps:=["rules","word","most","forms"]) λ_ _ _ _ _ _ us hl=>by obtain⟨_,_,_,_,rfl⟩:=K6 hl;rfl
 have M34:=aq X G a34
 have F35:=zE (st:=wY) l35 k35 p35
 have B35:=F35.binds (ps:=["rules","overlap","most","forms"]) λ_ _ _ _ _ _ us hl=>by obtain⟨_,_,_,_,rfl⟩:=K6 hl;rfl
 have M35:=aq X G a35
 have F36:FunD K "unmet" "unmet" x0 (.ref lV) f36 (av "unmet" "unmet" (zm x0) (zk x0) (zb x0) (.ref lV) kV36 dc36 pm36 an36 cd36 ct36):=⟨⟨_,_,_,_,_,_,_,_,_,rfl,l36,k36⟩⟩
 have M36:=aq X G a36
 have F37:=zE (st:=xf) l37 k37 p37
 have B37:=F37.binds (ps:=["order","entries"]) λ_ _ _ _ _ _ us hl=>by obtain⟨_,_,rfl⟩:=vU hl;rfl
 have M37:=aq X G a37
 have F38:=zE (st:=zV) l38 k38 p38
 have B38:=F38.binds (ps:=["pacts"]) λ_ _ _ _ _ _ us hl=>by obtain⟨_,rfl⟩:=Zs hl;rfl
 have M38:=aq X G a38
 have F39:=zE (st:=yH) l39 k39 p39
 have B39:=F39.binds (ps:=["entries"]) λ_ _ _ _ _ _ us hl=>by obtain⟨_,rfl⟩:=Zs hl;rfl
 have M39:=aq X G a39
 have F40:=zE (st:=z7) l40 k40 p40
 have B40:=F40.binds (ps:=["order","entries"]) λ_ _ _ _ _ _ us hl=>by obtain⟨_,_,rfl⟩:=vU hl;rfl
 have M40:=aq X G a40
 have F41:=zE (st:=yt) l41 k41 p41
 have B41:=F41.binds (ps:=["order","entries"]) λ_ _ _ _ _ _ us hl=>by obtain⟨_,_,rfl⟩:=vU hl;rfl
 have M41:=aq X G a41
 have F42:=zE (st:=xB) l42 k42 p42
 have B42:=F42.binds (ps:=["entries","overlap"]) λ_ _ _ _ _ _ us hl=>by obtain⟨_,_,rfl⟩:=vU hl;rfl
 have M42:=aq X G a42
 have F43:=zE (st:=yG) l43 k43 p43
 have B43:=F43.binds (ps:=["order","pacts","rounds"]) λ_ _ _ _ _ _ us hl=>by obtain⟨_,_,_,rfl⟩:=Yk hl;rfl
 have M43:=aq X G a43
 have F44:=zE (st:=jJ) l44 k44 p44
 have B44:=F44.binds (ps:=["_law_found"]) λ_ _ _ _ _ _ us hl=>by obtain⟨_,rfl⟩:=Zs hl;rfl
 have M44:=aq X G a44
 have F45:=zE (st:=ve) l45 k45 p45
 have B45:=F45.binds (ps:=["_law_pacts","_law_cell_here"]) λ_ _ _ _ _ _ us hl=>by obtain⟨_,_,rfl⟩:=vU hl;rfl
 have M45:=aq X G a45
 have F46:=zE (st:=uN) l46 k46 p46
 have B46:=F46.binds (ps:=["_law_script"]) λ_ _ _ _ _ _ us hl=>by obtain⟨_,rfl⟩:=Zs hl;rfl
 have M46:=aq X G a46
 have HCC:cd12=.ref cc:=by
  obtain⟨ai,oi,fdi,m1,m2,m3,m4⟩:=hlam
  have e1:=m1.symm.trans (aq X G a12)
  cases e1
  have e2:=m2.symm.trans (X _ _ l12)
  cases e2
  cases m3
  exact m4
 refine⟨av "law" "law" (zm uN) (zk uN) (zb uN) .none kV46 dc46 pm46 an46 cd46 ct46,λs v=>.of_eq rfl,λbase _ _ HBT HCH=>?_⟩
 have XIl:XI K fM:=⟨⟨x1,x2,x3,x4,x5⟩,x6,x7,x8,x9⟩
 have XIo:XI K fP:=⟨⟨y1,y2,y3,y4,y5⟩,y6,x7,x8,y9⟩
 have TL:zcW K mg fM:=⟨XIl,xi,aq X G g_NoLetters,t6,aq X G most⟩
 have TN:zcD K mg fP:=⟨XIo,yi,aq X G g_NoOrder,t7,aq X G mostw⟩
 have TO:TOrd K mg fG fF fB:=⟨⟨mT,mU,mV,mX⟩,⟨lu,lv,lw,lx⟩,⟨lC,lD,lE,lF⟩,aq X G g_Order,aq X G g_FromRight,aq X G g_ByWeights,nc,lB,lJ,nw_ByWeights⟩
 have XIt:XI K fJ:=⟨⟨tt1,tt2,tt3,tt4,tt5⟩,tt6,x7,x8,tt9⟩
 have TNt:TNT K mg fJ:=⟨XIt,aq X G g_NotTurned,nn⟩
 have FI:=zE (st:=z6) lI kI pI
 have BI:=FI.binds (ps:=["self","number"]) λ_ _ _ _ _ _ us hl=>by obtain⟨_,_,rfl⟩:=vU hl;rfl
 have TD:DNT l.prog w K mg base fJ:=⟨TNt,_,_,ini,fnI,uh TNt FI,BI⟩
 have TS:zas K mg fL:=⟨⟨mB,mC,mD,mE⟩,aq X G g_System,no_System,nr_System⟩
 have TWi:zcP mg:=⟨t8,aq X G win⟩
 have XIu:XI K fQ:=⟨⟨u1,u2,u3,u4,u5⟩,u6,x7,x8,u9⟩
 have TNu:TNU K mg fQ:=⟨XIu,aq X G g_NoUse,ua⟩
 have FU:=zE (st:=yP) lU kU pU
 have BU:=FU.binds (ps:=["self","at"]) λ_ _ _ _ _ _ us hl=>by obtain⟨_,_,rfl⟩:=vU hl;rfl
 have TUd:DNU l.prog w K mg base fQ:=⟨TNu,_,_,iniU,fnU,kE TNu FU,BU⟩
 have XIf:XI K fH:=⟨⟨v1,v2,v3,v4,v5⟩,v6,x7,x8,v9⟩
 have TF:K9 K mg fH:=⟨XIf,vi,aq X G g_TooFar⟩
 have TMk:TMo mg:=⟨⟨tmu,aq X G mou⟩,⟨tms,aq X G mos⟩,⟨tmd,aq X G mod_⟩,⟨tmp,aq X G mop⟩⟩
 have TMcc:TMc mg:=⟨⟨tcu,aq X G mcu⟩,⟨tce,aq X G mce⟩,⟨tcd,aq X G mcd⟩,⟨tcp,aq X G mcp⟩⟩
 have D0:Df l.prog w K mg base CX0 1 "is_small_letter" ["sign"] [] uU:=⟨_,_,Qk F0,M0,p0,B0⟩
 have D1:Df l.prog w K mg base (CXx l.prog w) 2 "letters_of" ["text"] [] (wv fM):=⟨_,_,kC B TL F1 D0,M1,p1,B1⟩
 have D2:Df l.prog w K mg base CX0 1 "stands_at" ["word","place","part"] [] xV:=⟨_,_,ZI B F2,M2,p2,B2⟩
 have D3:Df l.prog w K mg base (CXx l.prog w) 3 "put" ["word","place","old","new"] [] (ZD fQ):=⟨_,_,zam B TUd F3 D2,M3,p3,B3⟩
 have il:=zE (st:=yK) iO iP ig
 have iW:=il.binds (ps:=["self","letters"]) λ_ _ _ _ _ _ us hl=>by obtain⟨_,_,rfl⟩:=vU hl;rfl
 have nG:DMk l.prog w K mg base CX0 3 fG ["self","letters"] (uW K):=⟨_,_,⟨mY,iN,ij,mZ⟩,wy B il D1,iW⟩
 have DI:DOI l.prog w K mg base fG:=⟨_,_,⟨sgO,rdO,fcO,ig⟩,wy B il D1,iW⟩
 have iA:=zE (st:=yv) iq ir gk
 have lL:=iA.binds (ps:=["self","word"]) λ_ _ _ _ _ _ us hl=>by obtain⟨_,_,rfl⟩:=vU hl;rfl
 have nt:DM l.prog w K mg base CX0 1 fG "weight" ["self","word"] kN:=⟨_,_,⟨ip,gJ,gk⟩,wI B iA,lL⟩
 have iX:=zE (st:=yQ) iR iS gC
 have me:=iX.binds (ps:=["self","word"]) λ_ _ _ _ _ _ us hl=>by obtain⟨_,_,rfl⟩:=vU hl;rfl
 have nH:DM l.prog w K mg base CX0 1 fG "seen" ["self","word"] YY:=⟨_,_,⟨iQ,ik,gC⟩,vB B iX,me⟩
 have lg:=zE (st:=zZ) gP gQ gr
 have mJ:=lg.binds (ps:=["self","word"]) λ_ _ _ _ _ _ us hl=>by obtain⟨_,_,rfl⟩:=vU hl;rfl
 have mK:DM l.prog w K mg base CX0 1 fF "seen" ["self","word"] Yi:=⟨_,_,⟨gN,gT,gr⟩,uo B lg,mJ⟩
 have lh:=zE (st:=zY) gX gY gZ
 have mL:=lh.binds (ps:=["self","letters","weights"]) λ_ _ _ _ _ _ us hl=>by obtain⟨_,_,_,rfl⟩:=Yk hl;rfl
 have mM:DMk l.prog w K mg base (CXx l.prog w) 4 fB ["self","letters","weights"] (kT K fB):=⟨_,_,⟨lG,gU,ic,lH⟩,ue B TO TN DI lh,mL⟩
 have iD:=zE (st:=zM) gF gG gb
 have mf:=iD.binds (ps:=["self","word"]) λ_ _ _ _ _ _ us hl=>by obtain⟨_,_,rfl⟩:=vU hl;rfl
 have mh:DM l.prog w K mg base CX0 1 fB "weight" ["self","word"] (Yc fB):=⟨_,_,⟨gE,gH,gb⟩,vq B TO iD,mf⟩
 have TT:TWS l.prog w K mg base fG fF fB:=⟨TO,nG,⟨_,_,⟨ly,fiR_init,ij,lA⟩,wy B il D1,iW⟩,mM,nt,⟨_,_,⟨fiR_weight,gJ,gk⟩,wI B iA,lL⟩,mh,nH,mK,⟨_,_,⟨fiW_seen,ik,gC⟩,vB B iX,me⟩⟩
 have im:=zE (st:=yB) iU iV ge
 have iY:=im.binds (ps:=["self","word"]) λ_ _ _ _ _ _ us hl=>by obtain⟨_,_,rfl⟩:=vU hl;rfl
 have nI:DM l.prog w K mg base CX0 2 fG "rank" ["self","word"] (qY fG fF fB):=⟨_,_,⟨iT,gD,ge⟩,wz B TT im,iY⟩
 have DRk:DR l.prog w K mg base fG fF fB:=⟨λC h=>by rcases h with e | e | e; (rw[e];exact⟨TO.cO,nI⟩); (rw[e];exact⟨TO.cR,⟨_,_,⟨fiR_rank,gD,ge⟩,wz B TT im,iY⟩⟩); (rw[e];exact⟨TO.cW,⟨_,_,⟨fiW_rank,gD,ge⟩,wz B TT im,iY⟩⟩)⟩
 have gK:=zE (st:=yu) iw iz fS
 have iB:=gK.binds (ps:=["self","one","other"]) λ_ _ _ _ _ _ us hl=>by obtain⟨_,_,_,rfl⟩:=Yk hl;rfl
 have nv:DM l.prog w K mg base CX0 3 fG "before" ["self","one","other"] (Uf fG fF fB):=⟨_,_,⟨iu,gm,fS⟩,xK B DRk gK,iB⟩
 have DBk:DB l.prog w K mg base fG fF fB:=⟨λC h=>by rcases h with e | e | e; (rw[e];exact⟨TO.cO,nv⟩); (rw[e];exact⟨TO.cR,⟨_,_,⟨fiR_before,gm,fS⟩,xK B DRk gK,iB⟩⟩); (rw[e];exact⟨TO.cW,⟨_,_,⟨fiW_before,gm,fS⟩,xK B DRk gK,iB⟩⟩)⟩
 have D4:Df l.prog w K mg base CX0 1 "first_within" ["rules","word","start","end"] [] (w4 K):=⟨_,_,qU B F4,M4,p4,B4⟩
 have D5:Df l.prog w K mg base CX0 2 "first_from" ["rules","word","start"] [] (uY K):=⟨_,_,kF B TWi F5 D4,M5,p5,B5⟩
 have O6:=Kk (P:=l.prog) (w:=w) (base:=base) B TF TUd F6 D5 D3
 have D6:Df l.prog w K mg base (CXx l.prog w) 4 "gone" ["rules","word","most"] [] (wT K fH):=⟨_,_,O6,M6,p6,λs us hK hl=>by obtain⟨_,_,_,rfl⟩:=Yk (us:=us) (by simpa using hl);exact BindsTo.of_defaults rfl (hK _ _ mI) rfl rfl rfl⟩
 have D6d:Df l.prog w K mg base (CXx l.prog w) 4 "gone" ["rules","word","most"] [.int 4000 lr] (wT K fH):=⟨_,_,O6,M6,p6,λs us hK hl=>by obtain⟨_,_,rfl⟩:=vU (us:=us) (by simpa using hl);exact BindsTo.of_defaults rfl (hK _ _ mI) rfl rfl rfl⟩
 have D7:Df l.prog w K mg base CX0 1 "back" ["steps"] [] (uc K):=⟨_,_,JD B F7,M7,p7,B7⟩
 have D8:Df l.prog w K mg base CX0 1 "moved" ["steps","size"] [] (uZ K):=⟨_,_,U2 B F8,M8,p8,B8⟩
 have D9:Df l.prog w K mg base CX0 2 "by_pacts" ["entries","steps"] [] (Vl K):=⟨_,_,YG B F9 D8 D7,M9,p9,B9⟩
 have D10:Df l.prog w K mg base CX0 1 "pairs_of" ["entries"] [] (wx K):=⟨_,_,Yj B F10,M10,p10,B10⟩
 have D11:Df l.prog w K mg base CX0 4 "as_rule" ["order","entry"] [] (wl K fG fF fB):=⟨_,_,Wq B DBk F11 D7,M11,p11,B11⟩
 have D12:Df l.prog w K mg base CX0 6 "in_order" ["order","entries"] [] (u8 K fG fF fB TB):=⟨_,_,Yl B DRk (aP X G nsorted) HCH HBT hgT F12 HCC D11,M12,p12,B12⟩
 have D13:Df l.prog w K mg base (CXx l.prog w) 5 "brought_down" ["entries","entry"] [] (j0 K fH):=⟨_,_,jb B TMk F13 D10 D6 D6d D9 D7,M13,p13,B13⟩
 have D14:Df l.prog w K mg base (CXx l.prog w) 1 "refuse_beyond" ["entry"] [] (vI K fH):=⟨_,_,uI B TF TMk F14,M14,p14,B14⟩
 have D15:Df l.prog w K mg base (CXx l.prog w) 6 "built_anew" ["order","entries"] [] (qg K fG fF fB fH):=⟨_,_,j6 B F15 D13 D14 D11,M15,p15,B15⟩
 have D16:Df l.prog w K mg base (CXx l.prog w) 7 "thinned" ["order","entries"] [] (Yt K fG fF fB TB fH):=⟨_,_,X6 B TF TMk F16 D12 D15 D10,M16,p16,B16⟩
 have D17:Df l.prog w K mg base CX0 1 "_law_cell" ["_law_script","_law_k"] [] (qu K):=⟨_,_,KP B F17,M17,p17,B17⟩
 have D18:Df l.prog w K mg base CX0 1 "_law_mixed" ["_law_cell_here","_law_turn"] [] xx:=⟨_,_,UB B F18,M18,p18,B18⟩
 have D19:Df l.prog w K mg base CX0 2 "_law_letters" ["_law_cell_here","_law_many"] [] w9:=⟨_,_,XW B F19 D18,M19,p19,B19⟩
 have D20:Df l.prog w K mg base CX0 1 "_law_word" ["_law_number","_law_letters_here","_law_most"] [] qC:=⟨_,_,JW B F20,M20,p20,B20⟩
 have D21:Df l.prog w K mg base CX0 2 "_law_pair" ["_law_cell_here","_law_letters_here","_law_most"] [] qk:=⟨_,_,JS B F21 D20 D18,M21,p21,B21⟩
 have D22:Df l.prog w K mg base CX0 1 "_law_whole" ["_law_found"] [] qb:=⟨_,_,Qr B ⟨ki,kb⟩ F22,M22,p22,B22⟩
 have D23:Df l.prog w K mg base CX0 2 "_law_steps" ["_law_found"] [] (jW K):=⟨_,_,UD B ⟨kl,kt,kbb⟩ F23 D22,M23,p23,B23⟩
 have D24:Df l.prog w K mg base CX0 1 "_law_used" ["_law_pacts","_law_word_here","_law_step"] [] (w8 K):=⟨_,_,Kc B F24,M24,p24,B24⟩
 have D25:Df l.prog w K mg base CX0 2 "_law_uses" ["_law_pacts","_law_word_here","_law_most"] [] (km K):=⟨_,_,JO B F25 D24,M25,p25,B25⟩
 have D26:Df l.prog w K mg base CX0 3 "_law_chain" ["_law_pacts","_law_word_here","_law_cells","_law_most"] [] (qe K):=⟨_,_,UY B F26 D25 D24 D18,M26,p26,B26⟩
 have D27:Df l.prog w K mg base CX0 2 "_law_end" ["_law_pacts","_law_word_here","_law_steps_here"] [] (YT K):=⟨_,_,zaN B F27 D24,M27,p27,B27⟩
 have D28:Df l.prog w K mg base CX0 6 "_law_order" ["_law_kind","_law_letters_here","_law_weights"] [] (kz K fG fF fB):=⟨_,_,QG B TT F28,M28,p28,B28⟩
 have D29:Df l.prog w K mg base CX0 3 "_law_draw" ["_law_cell_here"] [] Yp:=⟨_,_,J5 B F29 D19 D18,M29,p29,B29⟩
 have D30:Df l.prog w K mg base CX0 3 "_law_entries" ["_law_found"] [] (Yu K):=⟨_,_,X5 B ⟨kl,kt,kbb⟩ ⟨ks⟩ F30 D23,M30,p30,B30⟩
 have lQ:=zE (st:=yD) iI iJ iK
 have nB:=lQ.binds (ps:=["self","order","rules"]) λ_ _ _ _ _ _ us hl=>by obtain⟨_,_,_,rfl⟩:=Yk hl;rfl
 have nC:DMk l.prog w K mg base (CXx l.prog w) 5 fL ["self","order","rules"] (u7 K fG fF fB fJ fL):=⟨_,_,⟨mF,iH,iL,mG⟩,jo B TD TS DBk lQ,nB⟩
 have MS:MkS l.prog w K mg base fG fF fB fJ fL:=nC
 have D31:Df l.prog w K mg base CX0 1 "agree" ["one","other","place"] [] qf:=⟨_,_,U3 B F31,M31,p31,B31⟩
 have D32:Df l.prog w K mg base CX0 2 "overlaps" ["rules"] [] (wA K):=⟨_,_,YF B F32 D31,M32,p32,B32⟩
 have D33:Df l.prog w K mg base CX0 4 "peak" ["rules","overlap"] [] (qT K):=⟨_,_,KA B F33 D3,M33,p33,B33⟩
 have D34:Df l.prog w K mg base (CXx l.prog w) 5 "form_of" ["rules","word","most","forms"] [] (ky l.prog w K fH):=⟨_,_,XH B F34 D6 D6d,M34,p34,B34⟩
 have D35:Df l.prog w K mg base (CXx l.prog w) 6 "is_met" ["rules","overlap","most","forms"] [] (uV l.prog w K fH):=⟨_,_,VV B F35 D33 D34,M35,p35,B35⟩
 have iC:=zE (st:=zO) gx gy fX
 have lY:=iC.binds (ps:=["self"]) λ_ _ _ _ _ _ us hl=>by obtain⟨_,rfl⟩:=Zs hl;rfl
 have lZ:DM l.prog w K mg base CX0 1 fL "rules_told" ["self"] (Zb K fL):=⟨_,_,⟨gw,gz,fX⟩,vh B TS iC,lY⟩
 have O36:=U9 (P:=l.prog) (w:=w) (base:=base) B TS F36 D32 D35 lZ
 have D36:Df l.prog w K mg base (CXx l.prog w) 7 "unmet" ["system","most"] [] (vN K fL fH):=⟨_,_,O36,M36,p36,λs us hK hl=>by obtain⟨_,_,rfl⟩:=vU (us:=us) (by simpa using hl);exact BindsTo.of_defaults rfl (hK _ _ lX) rfl rfl rfl⟩
 have D36d:Df l.prog w K mg base (CXx l.prog w) 7 "unmet" ["system","most"] [.int 4000 lT] (vN K fL fH):=⟨_,_,O36,M36,p36,λs us hK hl=>by obtain⟨_,rfl⟩:=Zs (us:=us) (by simpa using hl);exact BindsTo.of_defaults rfl (hK _ _ lX) rfl rfl rfl⟩
 have D37:Df l.prog w K mg base CX0 7 "system_by" ["order","entries"] [] (Zc K fG fF fB fL):=⟨_,_,ZE B TS MS F37 D10,M37,p37,B37⟩
 have D38:Df l.prog w K mg base CX0 1 "first_entries" ["pacts"] [] (j5 K):=⟨_,_,uK B F38,M38,p38,B38⟩
 have D39:Df l.prog w K mg base CX0 1 "is_beyond" ["entries"] [] (qJ K):=⟨_,_,ZR B (aP X G nany) TMcc F39,M39,p39,B39⟩
 have D40:Df l.prog w K mg base CX0 8 "thinned_within" ["order","entries"] [] (Ub K fG fF fB TB):=⟨_,_,vV B TF ⟨sFF⟩ F40 D16 D39,M40,p40,B40⟩
 have D41:Df l.prog w K mg base CX0 9 "unmet_within" ["order","entries"] [] (Ui K fG fF fB):=⟨_,_,qj B TF ⟨sFF⟩ TMcc F41 D36 D36d D37,M41,p41,B41⟩
 have D42:Df l.prog w K mg base CX0 5 "entry_of" ["entries","overlap"] [] (uX K):=⟨_,_,Yy B F42 D33 D9 D10,M42,p42,B42⟩
 have D43:Df l.prog w K mg base CX0 10 "completed" ["order","pacts","rounds"] [] (W1 K fG fF fB TB):=⟨_,_,ZH B TMcc F43 D38 D40 D41 D42,M43,p43,B43⟩
 have D44:Df l.prog w K mg base CX0 4 "_law_told" ["_law_found"] [] (kn K):=⟨_,_,JI B ⟨kt,kbb⟩ F44 D30,M44,p44,B44⟩
 have D45:Df l.prog w K mg base CX0 2 "_law_turned" ["_law_pacts","_law_cell_here"] [] (qE K):=⟨_,_,Vn B F45 D18,M45,p45,B45⟩
 exact zax B F46 D29 D17 D45 D28 D43 D21 D20 D18 D44 D27 D26
theorem walk{l:PySem.W.OpenLaw}{q:oV}{loose:List oW}{XP:(oW->Option oQ)->pb->Prop}{YP:oX->pb->Prop}{d:DefRec}{K:Params->oO}(hn:l.most=sF 63)(hdf:d.params.defaults=[])
  (hY:∀(w:oX) (h:pb),YP w h->(K w.params).In h) (hj:((PyProof.Rows.recsOf q).find? λr=>r.name == ("in_order" : oW)).isSome=sH) (hno:∀w:oX,J7 (K w.params)=sH)
  (F:∀(w:oX) (mg:oW->Option oQ) (fa:oP) (h:pb) (cc T:oP),(K w.params).In h->h.Ns oK mg->mg d.name=sF (.ref fa)->(∃a o fd,mg "in_order" = sF (.ref a)/\h.get? a=sF o/\o.data=.func fd/\fd.code=.ref cc)->oK≠T ->
   ∃fd:oU,(∀(s:oR) (u:oQ),rS s fd ⟨[u],[]⟩ [("_law_script",u)])/\∀base:pb,(K w.params).In base->base.Ns oK mg->base.BuiltinsAt mg T->PySem.W.CodeHd base cc T->FnOk l.prog w (K w.params) mg base CX0 11 fa fd ["_law_script"] (YJ (K w.params) T)) :
  PySem.W.WalkO q loose XP YP l.row.toRowW d [] (λf vs=>fw f vs):=by
 obtain⟨din,hd⟩:=Option.isSome_iff_exists.mp hj
 have hnm:din.name="in_order":=by simpa using dz hd
 exact L3.walk_ofT (n:=63) (k:=11) (x:="_law_script") (CX:=λ_=>CX0) (din:=din) (sp:=λw T=>YJ (K w.params) T) hn (by decide) hdf ⟨rfl,by decide,by decide⟩ (dZ hd) hY hno (λw mg fa h cc T a b c e g=>F w mg fa h cc T a b c (by rw[hnm] at e;exact e) g) (λ_ _ a ns T hl hB hT hS=>⟨a,ns,rfl,hS,hB,hT,λ_=>rfl⟩) λ_ _ _ _ _ z=>z
end LL
namespace PySem.W.Fast
def tw2221880972299236969:=Nat
def tw12165488895874493069:=Nat
def tw1095208987322497109:=Nat
def tw13244881829688734071:=Nat
def tw307971135381987674:=Nat
def tw15824815410715574309:=Nat
def tw2380789839427299529:=Nat
def tw155393539804499370:=Nat
def tw6944611244747876168:=Nat
def tw3809419235440105058:=Nat
def tw5537847137521876459:=Nat
def tw9972719684109980597:=Nat
def tw14443997259119302530:=Nat
def tw15580661076668480270:=Nat
def tw1660934699452019263:=Nat
def tw7451689018205428492:=Nat
def tw569834586367768116:=Nat
def tw14383163433294162407:=Nat
def tw5850015801196166393:=Nat
def tw8882961571889049629:=Nat
def tw7725237596664225037:=Nat
def tw8066857282559149037:=Nat
def tw9779186105872908293:=Nat
def tw11915479665628008051:=Nat
def tw690845419172045162:=Nat
def tw18092415823642817303:=Nat
def tw15393743879967395766:=Nat
def tw11951054615410527591:=Nat
def tw894257566185722462:=Nat
def tw12647363773272973447:=Nat
def tw8279719511769132143:=Nat
def tw15995029171936556634:=Nat
def tw26070377130389424:=Nat
def tw13068119532795057191:=Nat
def tw12452322963584313361:=Nat
def tw13937021191540828309:=Nat
def tw7470987960974860306:=Nat
def tw6943799598110739499:=Nat
def tw11489774196393575391:=Nat
def tw3106974926277319303:=Nat
def tw2315451167706135280:=Nat
def tw12326940945740243962:=Nat
def tw6221871329950920752:=Nat
def tw2018646064943460569:=Nat
def tw1976040193624157095:=Nat
def tw8013174252899890799:=Nat
def tw6135805539238472285:=Nat
def tw13859160650981305620:=Nat
def tw11550684587565860189:=Nat
def tw9879570562427245206:=Nat
def tw2170125216302013841:=Nat
def tw17154096266374801771:=Nat
def tw6016535154563609599:=Nat
def tw5069484304299663597:=Nat
def tw6694172227265024185:=Nat
def tw13808989163454630239:=Nat
def tw14803210437730268790:=Nat
def tw17341905206457315433:=Nat
def tw1480049002654332694:=Nat
def tw11055818890238761392:=Nat
def tw4146628473193490740:=Nat
def tw8347466411218943371:=Nat
def tw7194194872584024507:=Nat
def tw1384937114217126014:=Nat
def tw3689988365924519036:=Nat
def tw2404366212001773101:=Nat
def tw11818705133729542338:=Nat
def tw13610035074220843404:=Nat
def tw12060966877402492151:=Nat
def tw11525310820690685907:=Nat
def tw7090355399063514996:=Nat
def tw9363792849410889269:=Nat
def tw7660112431985199019:=Nat
def tw15389506022794837719:=Nat
def tw9985471970200062198:=Nat
def tw17488083486472285936:=Nat
def tw12091937627481027667:=Nat
def tw15443887419338368446:=Nat
def tw13610438342656591857:=Nat
def tw12194691800302788542:=Nat
def tw11759832040474696862:=Nat
def tw11758322672568190966:=Nat
def tw2478878645411539714:=Nat
def tw2395160500693039207:=Nat
def tw6169801139704158598:=Nat
def tw3634377217465846807:=Nat
def tw12410284158950741166:=Nat
def tw10698460442252406220:=Nat
def tw2181839661129904276:=Nat
def tw14031384182184453974:=Nat
def tw6443018086948956044:=Nat
def tw17093451727043925607:=Nat
def tw5550944667486597158:=Nat
def tw14041347982716512787:=Nat
def tw6458750388940603669:=Nat
def tw4150328128681264037:=Nat
def tw2937124835884832668:=Nat
def tw16785501528039614836:=Nat
def tw2813345638232963832:=Nat
def tw18014361343344294704:=Nat
def tw12165208587921059584:=Nat
def tw17237920087430521507:=Nat
def tw215166885630556324:=Nat
def tw18022188564928325004:=Nat
def tw9734122649477326788:=Nat
def tw14990140948200087617:=Nat
def tw12704344263571790497:=Nat
def tw14757062742204201922:=Nat
def tw17326173934316940886:=Nat
def tw8998457040698528257:=Nat
def tw7493514265828416109:=Nat
def tw2162650164120365961:=Nat
def tw8751084285390280696:=Nat
def tw5167843818212279511:=Nat
def tw17383151173399673461:=Nat
def tw6081653911749270529:=Nat
def tw12627069310955054232:=Nat
def tw180103237056574273:=Nat
def tw4131662797678705391:=Nat
def tw9559918421419498284:=Nat
def tw17034217968820840721:=Nat
def tw700874060655558011:=Nat
def tw4270116602522786451:=Nat
def tw5165204046747149343:=Nat
def tw18163844935167337558:=Nat
def tw8100189010634952303:=Nat
def tw14161424634229035460:=Nat
def tw1736656709083595393:=Nat
def tw14084639021206495136:=Nat
def tw10626349132532355723:=Nat
def tw9781987156878154705:=Nat
def tw13662263472911924067:=Nat
def tw7154355489841083928:=Nat
def tw9061304227288343729:=Nat
def tw15851559764916574536:=Nat
def tw4407044062276851072:=Nat
def tw17428616209100467340:=Nat
def tw983617740625087390:=Nat
def tw14505673324794402493:=Nat
def tw17542460469816180485:=Nat
def tw3492788923512087665:=Nat
def tw5453011152033956705:=Nat
def tw6597124837460056687:=Nat
def tw8721402508296185000:=Nat
def tw5904513578121336442:=Nat
def tw3265720449639548940:=Nat
def tw13358386002767273034:=Nat
def tw147716839516167180:=Nat
def tw2057574586137494306:=Nat
def tw16494043158178167022:=Nat
def tw14493988453361793172:=Nat
def tw16836037906281130675:=Nat
def tw1996586516941028906:=Nat
def tw14318874646008696640:=Nat
def tw8074896659798075597:=Nat
def tw9460973657480791499:=Nat
def tw16099015188264597608:=Nat
def tw14380126334421951897:=Nat
def tw4715150674033392401:=Nat
def tw13344072562430821607:=Nat
def tw3046486171991433432:=Nat
def tw3100818546079302109:=Nat
def tw3991300135844521273:=Nat
def tw4092817333997017683:=Nat
def tw13263597314730952943:=Nat
def tw18047072006887109704:=Nat
def tw4253765401337681280:=Nat
def tw11673500209699931232:=Nat
def tw6440175748121052851:=Nat
def tw2406604293337890799:=Nat
def tw3100468575124132541:=Nat
def tw8468696046074723523:=Nat
def tw14505786243905540616:=Nat
def tw10000275487970572753:=Nat
def tw11688937510160510410:=Nat
def tw14694596084588132882:=Nat
def tw3771104562870197359:=Nat
def tw10927697793795282508:=Nat
def tw14748420791789183069:=Nat
def tw2211339020126664616:=Nat
def tw8408224174517013686:=Nat
def tw8808689405071678624:=Nat
def tw7809520825481500253:=Nat
def tw14845424116814674953:=Nat
def tw10033231025281873392:=Nat
def tw14997220010847314425:=Nat
def tw18301815098122287058:=Nat
def tw15437274575460248316:=Nat
def tw17270861938974116568:=Nat
def tw5282234416861627905:=Nat
def tw5007877147388465985:=Nat
def tw5489822691068175343:=Nat
def tw4241907410307317195:=Nat
def tw3358291283046416291:=Nat
def tw2570793430232914647:=Nat
def tw7174791999153684476:=Nat
def tw3488266674309154286:=Nat
def tw14988316275637232272:=Nat
def tw16448709502293402194:=Nat
def tw5803095270897059123:=Nat
def tw5041743752174683552:=Nat
def tw17416122364643784214:=Nat
def tw522567975203292736:=Nat
end PySem.W.Fast
open PySem PySem.W PyProof.Rows
set_option maxRecDepth 100000 in
set_option maxHeartbeats 0 in
theorem PySem.Challenge.cw_letterlaw_k57_whole_only_one_list_holds : PySem.Challenge.rw_letterlaw_k57_whole_only_one_list.Holds := by
 w_on;o_law;k_head; (case hw=>w_witness2)
 k_fill
 refine LL.walk (l:=PySem.Challenge.rw_letterlaw_k57_whole_only_one_list) rfl rfl (λw h Y=>PySem.W.km_in_of Y) ?hJJ ?hNN ?hFF
 case hJJ=>first | kernel_rfl | rfl | decide +kernel
 case hNN=>intro w;first | kernel_rfl | rfl
 case hFF =>
  intro w mg fa h cc T KX G hmg hlam hgT
  refine' LL.all_mk KX G hmg hlam hgT ?a0 ?l0 ?k0 ?p0 ?a1 ?l1 ?k1 ?p1 ?a2 ?l2 ?k2 ?p2 ?a3 ?l3 ?k3 ?p3 ?a4 ?l4 ?k4 ?p4 ?a5 ?l5 ?k5 ?p5 ?a6 ?l6 ?k6 ?p6 ?a7 ?l7 ?k7 ?p7 ?a8 ?l8 ?k8 ?p8 ?a9 ?l9 ?k9 ?p9 ?a10 ?l10 ?k10 ?p10 ?a11 ?l11 ?k11 ?p11 ?a12 ?l12 ?k12 ?p12 ?a13 ?l13 ?k13 ?p13 ?a14 ?l14 ?k14 ?p14 ?a15 ?l15 ?k15 ?p15 ?a16 ?l16 ?k16 ?p16 ?a17 ?l17 ?k17 ?p17 ?a18 ?l18 ?k18 ?p18 ?a19 ?l19 ?k19 ?p19 ?a20 ?l20 ?k20 ?p20 ?a21 ?l21 ?k21 ?p21 ?a22 ?l22 ?k22 ?p22 ?a23 ?l23 ?k23 ?p23 ?a24 ?l24 ?k24 ?p24 ?a25 ?l25 ?k25 ?p25 ?a26 ?l26 ?k26 ?p26 ?a27 ?l27 ?k27 ?p27 ?a28 ?l28 ?k28 ?p28 ?a29 ?l29 ?k29 ?p29 ?a30 ?l30 ?k30 ?p30 ?a31 ?l31 ?k31 ?p31 ?a32 ?l32 ?k32 ?p32 ?a33 ?l33 ?k33 ?p33 ?a34 ?l34 ?k34 ?p34 ?a35 ?l35 ?k35 ?p35 ?a36 ?l36 ?k36 ?p36 ?a37 ?l37 ?k37 ?p37 ?a38 ?l38 ?k38 ?p38 ?a39 ?l39 ?k39 ?p39 ?a40 ?l40 ?k40 ?p40 ?a41 ?l41 ?k41 ?p41 ?a42 ?l42 ?k42 ?p42 ?a43 ?l43 ?k43 ?p43 ?a44 ?l44 ?k44 ?p44 ?a45 ?l45 ?k45 ?p45 ?a46 ?l46 ?k46 ?p46 ?g_LetterError ?g_NoLetters ?g_NoOrder ?g_Order ?g_FromRight ?g_ByWeights ?g_NotTurned ?g_System ?g_NoUse ?g_TooFar ?kbb ?kt ?ki ?kb ?kl ?x7 ?x8 ?x1 ?x2 ?x3 ?x4 ?x5 ?x6 ?x9 ?xi ?y1 ?y2 ?y3 ?y4 ?y5 ?y6 ?y9 ?yi ?most ?mostw ?mT ?mU ?mV ?mX ?mY ?mZ ?nc ?nP ?nQ ?nR ?lu ?lv ?lw ?lx ?ly ?lA ?lB ?mr ?mv ?mw ?lC ?lD ?lE ?lF ?lG ?lH ?lJ ?mx ?my ?mz ?nw_ByWeights ?sgO ?rdO ?win ?tt1 ?tt2 ?tt3 ?tt4 ?tt5 ?tt6 ?tt9 ?nn ?ini ?lI ?kI ?pI ?fnI ?mB ?mC ?mD ?mE ?mF ?mG ?no_System ?nr_System ?u1 ?u2 ?u3 ?u4 ?u5 ?u6 ?u9 ?ua ?iniU ?lU ?kU ?pU ?fnU ?v1 ?v2 ?v3 ?v4 ?v5 ?v6 ?v9 ?vi ?sFF ?ks ?nany ?nsorted ?mou ?mos ?mod_ ?mop ?mcu ?mce ?mcd ?mcp ?iN ?iO ?iP ?ig ?ij ?ip ?iq ?ir ?gk ?gJ ?iQ ?iR ?iS ?gC ?ik ?gN ?gP ?gQ ?gr ?gT ?gU ?gX ?gY ?gZ ?ic ?gE ?gF ?gG ?gb ?gH ?iT ?iU ?iV ?ge ?gD ?iu ?iw ?iz ?fS ?gm ?iH ?iI ?iJ ?iK ?iL ?gw ?gx ?gy ?fX ?gz ?mI ?lX ?fcO ?fiR_init ?fiR_weight ?fiW_seen ?fiR_rank ?fiW_rank ?fiR_before ?fiW_before ?b0 ?b1 ?b2 ?b3 ?b4 ?b5 ?b6 ?b7 ?b8 ?b9 ?b10 ?b11 ?b12 ?b13 ?b14 ?b15
  case a0|l0|k0|p0|a1|l1|k1|p1|a2|l2|k2|p2|a3|l3|k3|p3|a4|l4|k4|p4|a5|l5|k5|p5|a6|l6|k6|p6|a7|l7|k7|p7|a8|l8|k8|p8|a9|l9|k9|p9|a10|l10|k10|p10|a11|l11|k11|p11|a12|l12|k12|p12|a13|l13|k13|p13|a14|l14|k14|p14|a15|l15|k15|p15|a16|l16|k16|p16|a17|l17|k17|p17|a18|l18|k18|p18|a19|l19|k19|p19|a20|l20|k20|p20|a21|l21|k21|p21|a22|l22|k22|p22|a23|l23|k23|p23|a24|l24|k24|p24|a25|l25|k25|p25|a26|l26|k26|p26|a27|l27|k27|p27|a28|l28|k28|p28|a29|l29|k29|p29|a30|l30|k30|p30|a31|l31|k31|p31|a32|l32|k32|p32|a33|l33|k33|p33|a34|l34|k34|p34|a35|l35|k35|p35|a36|l36|k36|p36|a37|l37|k37|p37|a38|l38|k38|p38|a39|l39|k39|p39|a40|l40|k40|p40|a41|l41|k41|p41|a42|l42|k42|p42|a43|l43|k43|p43|a44|l44|k44|p44|a45|l45|k45|p45|a46|l46|k46|p46|g_LetterError|g_NoLetters|g_NoOrder|g_Order|g_FromRight|g_ByWeights|g_NotTurned|g_System|g_NoUse|g_TooFar=>k_is
  (case kbb=>first | kernel_rfl | rfl)
  (case kt=>first | kernel_rfl | rfl)
  (case ki=>first | kernel_rfl | rfl)
  (case kb=>first | kernel_rfl | rfl)
  (case kl=>first | kernel_rfl | rfl)
  case x7|x8=>k_is
  (case x1=>first | kernel_rfl | rfl | decide +kernel)
  case x2|x3|x4|x5|x6|x9|xi=>k_is
  (case y1=>first | kernel_rfl | rfl | decide +kernel)
  case y2|y3|y4|y5|y6|y9|yi|most|mostw=>k_is
  (case mT=>first | kernel_rfl | rfl | k_is | decide +kernel)
  (case mU=>first | kernel_rfl | rfl | k_is)
  (case mV=>first | kernel_rfl | rfl | k_is | decide +kernel)
  case mX=>k_is
  (case mY=>first | kernel_rfl | rfl | k_is | decide +kernel)
  case mZ|nc=>k_is
  (case nP=>first | kernel_rfl | rfl)
  case nQ|nR=>k_is
  (case lu=>first | kernel_rfl | rfl | k_is | decide +kernel)
  (case lv=>first | kernel_rfl | rfl | k_is)
  (case lw=>first | kernel_rfl | rfl | k_is | decide +kernel)
  case lx=>k_is
  (case ly=>first | kernel_rfl | rfl | k_is | decide +kernel)
  case lA|lB=>k_is
  (case mr=>first | kernel_rfl | rfl)
  case mv|mw=>k_is
  (case lC=>first | kernel_rfl | rfl | k_is | decide +kernel)
  (case lD=>first | kernel_rfl | rfl | k_is)
  (case lE=>first | kernel_rfl | rfl | k_is | decide +kernel)
  case lF=>k_is
  (case lG=>first | kernel_rfl | rfl | k_is | decide +kernel)
  case lH|lJ=>k_is
  (case mx=>first | kernel_rfl | rfl)
  case my|mz|nw_ByWeights|sgO=>k_is
  (case rdO=>first | kernel_rfl | rfl | k_is | decide +kernel)
  case win=>k_is
  (case tt1=>first | kernel_rfl | rfl | decide +kernel)
  case tt2|tt3|tt4|tt5|tt6|tt9|nn|ini|lI|kI|pI=>k_is
  (case fnI=>first | kernel_rfl | rfl | k_is)
  (case mB=>first | kernel_rfl | rfl | k_is | decide +kernel)
  (case mC=>first | kernel_rfl | rfl | k_is)
  (case mD=>first | kernel_rfl | rfl | k_is | decide +kernel)
  case mE=>k_is
  (case mF=>first | kernel_rfl | rfl | k_is | decide +kernel)
  case mG|no_System|nr_System=>k_is
  (case u1=>first | kernel_rfl | rfl | decide +kernel)
  case u2|u3|u4|u5|u6|u9|ua|iniU|lU|kU|pU=>k_is
  (case fnU=>first | kernel_rfl | rfl | k_is)
  (case v1=>first | kernel_rfl | rfl | decide +kernel)
  case v2|v3|v4|v5|v6|v9|vi|sFF=>k_is
  (case ks=>first | kernel_rfl | rfl)
  case nany|nsorted|mou|mos|mod_|mop|mcu|mce|mcd|mcp|iN|iO|iP|ig=>k_is
  (case ij=>first | kernel_rfl | rfl | k_is)
  case ip|iq|ir|gk=>k_is
  (case gJ=>first | kernel_rfl | rfl | k_is)
  case iQ|iR|iS|gC=>k_is
  (case ik=>first | kernel_rfl | rfl | k_is)
  case gN|gP|gQ|gr=>k_is
  (case gT=>first | kernel_rfl | rfl | k_is)
  case gU|gX|gY|gZ=>k_is
  (case ic=>first | kernel_rfl | rfl | k_is)
  case gE|gF|gG|gb=>k_is
  (case gH=>first | kernel_rfl | rfl | k_is)
  case iT|iU|iV|ge=>k_is
  (case gD=>first | kernel_rfl | rfl | k_is)
  case iu|iw|iz|fS=>k_is
  (case gm=>first | kernel_rfl | rfl | k_is)
  case iH|iI|iJ|iK=>k_is
  (case iL=>first | kernel_rfl | rfl | k_is)
  case gw|gx|gy|fX=>k_is
  (case gz=>first | kernel_rfl | rfl | k_is)
  case mI|lX|fcO|fiR_init|fiR_weight|fiW_seen|fiR_rank|fiW_rank|fiR_before|fiW_before|b0|b1|b2|b3|b4|b5|b6|b7|b8|b9|b10|b11|b12|b13|b14|b15=>k_is
#print axioms PySem.Challenge.cw_letterlaw_k57_whole_only_one_list_holds
