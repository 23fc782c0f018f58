import PyProof.Rows.All
import Wide.All
import OpenK.AllK
import Wide.FinOn
import PyProof.EqAt
import PyProof.EqKinds
import PyProof.NeKinds
import PyProof.TupleCall
import KE.KRevIter
import PyProof.ZipIter
import PyProof.Rows.SetFrom
import PyProof.StrWalks
import PyProof.DictStraight
import PyProof.StrLawsFrom
import PyProof.Rows.StrNews2
import KE.KMinBuiltin
import PyProof.Rows.CallKwBuiltin
import PyProof.Rows.SortShell
import KE.KSortTup
import KE.KBoundM
import KE.KLam
import Lean
import PySem.Challenge.RW_letterlaw_k55_completed_papers
open PySem.Heap renaming get?_push_of_some→aa,lt_size→av,get?_push_size→aF,get?_update_other→aH,size_push→bw,get?_update_self→bO,size_update→dg
open List renaming mem_of_getElem?→ac,getD_eq_getElem?_getD→ae,length_map→ag,getElem?_eq_getElem→ak,size_toArray→al,length_append→au,mem_cons_of_mem→aw,map_cons→ax,mem_append_right→aB,map_append→aD,getElem?_map→aE,mem_cons_self→aI,length_take→aJ,length_cons→aL,take_length→aM,map_nil→aN,replicate→aO,drop_eq_getElem_cons→aR,range→aS,lookup_cons→aT,append_nil→aU,append_assoc→aV,drop_of_length_le→aX,toArray→aZ,lookup→bc,length_drop→be,sum_cons→bf,take_append_of_le_length→bg,take_of_length_le→bh,length_replicate→bi,getElem?_reverse→bj,set_cons_zero→bo,set_cons_succ→bp,mem_append_left→br,cons_append→bt,mem_of_mem_take→bu,take_zero→bG,idxOf_lt_length_of_mem→bI,nil_append→bT,drop_append_of_le_length→bV,length_reverse→bW,take_append_drop→bZ,getElem?_append_right→cb,map_congr_left→cp,range_succ→cy,filter_append→cz,getElem?_eq_none→cB,length_filter_le→cC,mem_of_mem_drop→cE,replicate_succ→cG,flatMap_append→cH,of_mem_zip→cJ,getElem?_append_left→cK,forIn_cons→cL,length_nil→cM,filter_nil→cQ,getElem?_take_of_lt→cT,contains_cons→cU,zip_cons_cons→cX,flatten_cons→da,length_range→db,range_succ_eq_map→dc,mem_cons→df,map_map→dq,find?_some→du,replicate_succ'→dv,eq_nil_of_length_eq_zero→dw,filterMap_cons→dz,take_succ_cons→dC,drop_zero→dH,getElem_idxOf→dI,extract_eq_drop_take→dQ,mem_of_find?_eq_some→dU,drop_length→dX,mem_nil_iff→d4,filter_cons→d6,getElem?_replicate→d7,pairwise_singleton→d8,getElem?_cons_zero→d9,filter_cons_of_pos→ee,filter_cons_of_neg→ef,getElem?_set_self→em,length_singleton→eE,forIn_nil→eF,drop_drop→eG,mem_range→eJ,take_take→eK,getElem?_set_ne→eL,all_cons→eN,getElem_range→eV,length→eY
open PySem.W renaming findIn→af,keepIn→ah,nsIn→aj,mg_of→am,codeIn→ao,fnOf→ar,mg_none_of→aK,kitOne→aP,isFn→aY,kia_one→ba,emptyDict→bA,callWith_K→bC,mroIn→bF,hasDictIn→bH,plainGet→bL,methodCall_KW→bN,kla_fn→bP,instObj→bQ,plainOver→ce,specialIn→cf,looks_findIn→ci,subIn→cu,makesIn→cw,takesIn→dm,plainGet_of→dB,lookIn→dD,methodObj→dM,kitx_list→dN,envX→d5,takerIn→eg,cellsFrom_some→et,callWith_K0→eP,kitx_tuple→eR,set_plain→eW,kitx_dict→eX,handedIn→eZ,bind_fn→e8,findObj→e9,readsIn→fg,findCls→fh,kat_nil→fk,kas_ask→fm
open Nat renaming le_refl→aq,lt_of_lt_of_le→az,ne_of_lt→aA,zero_le→aG,le_trans→aQ,ne_of_gt→bR,lt_succ_of_lt→bU,le_add_right→bX,lt_of_le_of_lt→bY,lt_irrefl→cr,le_succ→cA,le_of_not_lt→cD,min_eq_left→cN,not_lt_zero→cP,le_of_lt→cS,min_eq_right→dh,lt_trichotomy→dP,succ_mul→dW,min_self→dY,lt_or_ge→dZ,zero_add→eU
open PySem renaming boot_len→ay,mem_of_lookup→bK,strKind→cF,frameOf→dJ,passOn→eS,call→fj
open Bool renaming false_ne_true→aC,false_eq_true→bD,eq_false_or_eq_true→bS,and_eq_true→cj,eq_iff_iff→cI,or_true→dn,and_false→dF,not_eq_true'→dO,and_true→eO
open Int renaming toNat_natCast→aW,eq_ofNat_of_zero_le→bq,emod_lt_of_pos→bE,emod_nonneg→bJ
open PyProof.Rows renaming callWith_type1→bn,boot_any→dk,boot_sum→eI
open PySem.Str renaming ofString→bv,empty→eh
open PySem.F renaming plain_max_loop→bx,plainAttrs_str→bz,plainAttrs_list→cq,slot_list_append→cY,type_list_append→cZ,entry_max_loop→de,slot_str_find→di,type_str_find→dj,excBase_ValueError→dL,slot_str_count→eC,type_str_count→eD
open Decidable renaming byContradiction→bB
open Option renaming bind_some→bM,getD_none→e7
open Array renaming length_toList→dA,getD→eM,toList_append→eQ
open PySem renaming wpAny_bind→oh,wpAny_pure→oj,mainGlobals→om,starEach→oo,sizeLine→oq
open PySem.W renaming Frag→ot
open PySem PySem.Spec PyProof.Rows
set_option Elab.async false
set_option linter.all false
set_option maxRecDepth 100000
set_option maxHeartbeats 4000000
namespace L2
noncomputable abbrev Key:=Sum Int Str
noncomputable def zap:Key->Value->Bool
 | .inl k,v=>Value.isInt k v
 | .inr x,v=>Value.isStrOf x v
noncomputable def zcd(w:World):Key->Int
 | .inl k=>hashInt k
 | .inr x=>hashStr w x
theorem yg:∀{k:Key} {v:Value},zap k v=true->(∃ i t,k=Sum.inl i/\v=Value.int i t)\/(∃ x t,k=Sum.inr x/\v=Value.str x t)
 | .inl i,v,h=>by
  obtain⟨t,e⟩:=Value.isInt_shape (k:=i) (v:=v) h
  exact .inl ⟨i,t,rfl,e⟩
 | .inr x,v,h=>by
  obtain⟨t,e⟩:=Value.isStrOf_shape (x:=x) (v:=v) h
  exact .inr ⟨x,t,rfl,e⟩
theorem zaB(a b:Int):decide ((Sum.inl a:Key)=Sum.inl b)=(a == b):=by
 by_cases e:a=b
 ·subst e;simp
 ·have h:¬ (Sum.inl a:Key)=Sum.inl b:=fun q=>e (Sum.inl.inj q)
  rw[decide_eq_false h]
  exact (beq_eq_false_iff_ne.mpr e).symm
theorem zaD(a b:Str):decide ((Sum.inr a:Key)=Sum.inr b)=decide (a=b):=by
 by_cases e:a=b
 ·subst e;simp
 ·have h:¬ (Sum.inr a:Key)=Sum.inr b:=fun q=>e (Sum.inr.inj q)
  rw[decide_eq_false h,decide_eq_false e]
theorem KJ(a:Int)(b:Str):decide ((Sum.inl a:Key)=Sum.inr b)=false:=decide_eq_false (fun q=>nomatch q)
theorem zac(a:Str)(b:Int):decide ((Sum.inr a:Key)=Sum.inl b)=false:=decide_eq_false (fun q=>nomatch q)
noncomputable def Yd(prog:Program)(w:World):PySem.KeyKind prog w Key where
 is:=zap
 hash:=zcd w
 inj:=fun v a b ha hb=>by
  rcases yg ha with ⟨i,t,rfl,rfl⟩ | ⟨x,t,rfl,rfl⟩
  ·rcases yg hb with ⟨j,u,rfl,e⟩ | ⟨y,u,rfl,e⟩
   ·injection e with e1 _;rw[e1]
   ·exact nomatch e
  ·rcases yg hb with ⟨j,u,rfl,e⟩ | ⟨y,u,rfl,e⟩
   ·exact nomatch e
   ·injection e with e1 _;rw[e1]
 byValue:=fun k v h=>by
  rcases yg h with ⟨i,t,rfl,rfl⟩ | ⟨x,t,rfl,rfl⟩ <;> rfl
 pyHash:=fun hv h=>by
  rcases yg hv with ⟨i,t,rfl,rfl⟩ | ⟨x,t,rfl,rfl⟩
  ·exact wpAny_pyHash_int h
  ·exact wpAny_pyHash_str h
 eqBool:=fun hu hv h=>by
  rcases yg hu with ⟨i,t,rfl,rfl⟩ | ⟨x,t,rfl,rfl⟩
  ·rcases yg hv with ⟨j,u,rfl,rfl⟩ | ⟨y,u,rfl,rfl⟩
   ·rw[zaB] at h;exact wpAny_eqBool_int h
   ·rw[KJ] at h;exact SeqAt.EqAt.int_str i t y u _ _ _ _ h
  ·rcases yg hv with ⟨j,u,rfl,rfl⟩ | ⟨y,u,rfl,rfl⟩
   ·rw[zac] at h;exact SeqAt.EqAt.str_int x t j u _ _ _ _ h
   ·rw[zaD] at h;exact wpAny_eqBool_str h
 «strs»:=fun k x t v h=>by
  rcases yg h with ⟨i,u,rfl,e⟩ | ⟨y,u,rfl,e⟩
  ·exact nomatch e
  ·injection e with e1 _
   subst e1
   cases v <;> rfl
end L2
namespace L2
inductive V where
 | non | bl (b:Bool) | int (i:Int) | str (x:Str) | byt (b:Array UInt8) | flt (b:UInt64) | ref (a:Addr) | ty (n:String)
 deriving DecidableEq
noncomputable def RelV:V->Value->Prop
 | .non,u=>u=Value.none
 | .bl b,u=>u=Value.bool b
 | .int i,u=>∃ t,u=Value.int i t
 | .str x,u=>∃ t,u=Value.str x t
 | .byt b,u=>∃ t,u=Value.bytes b t
 | .flt b,u=>∃ t,u=Value.float b t
 | .ref a,u=>u=Value.ref a
 | .ty n,u=>u=Value.type n
noncomputable abbrev Vals:List V->List Value->Prop:=Paired RelV
theorem Vals.length{xs:List V}{us:List Value}(r:Vals xs us):xs.length=us.length:=Paired.length r
theorem Vals.get:∀{xs:List V} {us:List Value} {i:Nat} {x:V},Vals xs us->xs[i]? = some x->∃ u,us[i]? = some u/\RelV x u
 | _,_,_,_,.nil,e=>by simp at e
 | _,_,0,_,.cons r _,e=>by simp at e;subst e;exact⟨_,rfl,r⟩
 | _,_,i+1,x,.cons _ t,e=>by
  obtain⟨u,h1,h2⟩:=Vals.get (i:=i) (x:=x) t (by simpa using e)
  exact⟨u,by simpa using h1,h2⟩
theorem Vals.set{x:V}{u:Value}(r:RelV x u):∀{xs:List V} {us:List Value} (i:Nat),Vals xs us->Vals (xs.set i x) (us.set i u)
 | _,_,_,.nil=>.nil
 | _,_,0,.cons _ t=>.cons r t
 | _,_,i+1,.cons q t=>.cons q (Vals.set r i t)
theorem Vals.append:∀{xs ys:List V} {us ws:List Value},Vals xs us->Vals ys ws->Vals (xs ++ ys) (us ++ ws)
 | _,_,_,_,.nil,s=>s
 | _,_,_,_,.cons r t,s=>.cons r (Vals.append t s)
theorem Vals.take:∀{xs:List V} {us:List Value} (n:Nat),Vals xs us->Vals (xs.take n) (us.take n)
 | _,_,0,_=>.nil
 | _,_,_+1,.nil=>.nil
 | _,_,n+1,.cons r t=>.cons r (Vals.take n t)
theorem Vals.drop:∀{xs:List V} {us:List Value} (n:Nat),Vals xs us->Vals (xs.drop n) (us.drop n)
 | _,_,0,r=>r
 | _,_,_+1,.nil=>.nil
 | _,_,n+1,.cons _ t=>Vals.drop n t
noncomputable def RelO:Option V->Option Value->Prop
 | some v,some u=>RelV v u
 | none,none=>True
 | _,_=>False
noncomputable def KV{κ:Type}:List (κ × V)->List (κ × Value)->Prop:=Paired fun(p:κ × V) (q:κ × Value)=>p.1=q.1/\RelV p.2 q.2
noncomputable def kV:Key->V
 | .inl i=>.int i
 | .inr x=>.str x
inductive HO where
  | lst (xs:List V)
  | tup (xs:List V)
  | dK (kvs:List (Key × V)) | dT (kvs:List (List Key × V))
  | set (S:Int->Bool) (n:Nat)
  | ins (C dx:Addr) (fs:List (Str × V))
  | own (x:Addr)
  | xd (fs:List (Str × V))
  | met (f x:Addr)
  | rng (lo hi:Int)
  | frz (o:Obj) (u:HO)
  | tbl (ps:Array Value)
  | ext (φ:Heap->Prop)
noncomputable abbrev Hp:=Addr->Option HO
noncomputable def upd(H:Hp)(a:Addr)(o:HO):Hp:=fun b=>if b=a then some o else H b
theorem ze{H:Hp}{a:Addr}{o:HO}:upd H a o a=some o:=by unfold upd;rw[if_pos rfl]
theorem zq{H:Hp}{a b:Addr}{o:HO}(h:b≠a):upd H a o b=H b:=by unfold upd;rw[if_neg h]
theorem zF{H:Hp}{a b:Addr}{o:HO}(h:H a=some o)(h':H b=none):a≠b:=by
 intro e;subst e;rw[h] at h';cases h'
section
variable(P:Program)(w:World)
noncomputable def ObjOk(H:Hp)(h:Heap)(a:Addr):HO->Prop
 | .lst xs=>xs.length<=oq/\∃(its:List Value) (n:Nat),Vals xs its/\h.get? a=some { cls:=.type "list",data:=.seq its.toArray n }
 | .tup xs=>xs.length<=oq/\∃ its:List Value,Vals xs its/\IsTup h a its.toArray
 | .dK kvs=>kvs.length<=oq/\(a == sysModules)=false/\∃ vs,KV kvs vs/\h.DictOf (Yd P w) a vs
 | .dT kvs=>kvs.length<=oq/\(a == sysModules)=false/\∃ xs:List (List Key × Addr × Value),
   Paired (fun(p:List Key × V) (q:List Key × Addr × Value)=>p.1=q.1/\H q.2.1=some (.tup (p.1.map kV))/\RelV p.2 q.2.2) kvs xs /\
   ∃ o es ep,h.get? a=some o/\o.ExactDict/\o.data=.dict es ep/\es.toList=xs.map (entryOfKey (tupleKind (Yd P w)))/\(xs.map (·.1)).Nodup
 | .set S n=>h.SetOf (intKind P w) a S n
 | .ins C dx fs=>H dx=some (.own a)/\fs.length<=1000/\dx≠a/\h.get? a=some (bQ C dx) /\
   ∃ mA,h.Ns1 dx mA/\(∀ f,RelO (fs.lookup f) (mA f))/\PySem.Within mA (fs.map (·.1))
 | .own _=>∃ o,h.get? a=some o
 | .xd fs=>∃ mA,h.Ns1 a mA/\∀ f,RelO (fs.lookup f) (mA f)
 | .rng lo hi=>∃ t u v,h.get? a=some { cls:=.type "range",data:=.fields #[.int lo t,.int hi u,.int 1 v] }
 | .frz o u=>h.get? a=some o/\ObjOk H h a u
 | .tbl ps=>h.get? a=some { cls:=.none,data:=.fields ps }
 | .met f x=>h.get? a=some (dM (.ref f) (.ref x))
 | .ext φ=>φ h/\(∃ o,h.get? a=some o)/\∀ h1 h2:Heap,φ h1->(∀ o,h1.get? a=some o->h2.get? a=some o)->φ h2
noncomputable def HOk(H:Hp)(h:Heap):Prop:=∀ a o,H a=some o->ObjOk P w H h a o
end
section
variable{P:Program}{w:World}{H H':Hp}{h h':Heap}{a:Addr}{o:HO}
theorem ObjOk.lt(x:ObjOk P w H h a o):a<h.objs.size:=by
 cases o with
 | lst xs=>obtain⟨_,_,_,_,e⟩:=x;exact av e
 | tup xs=>obtain⟨_,_,_,p⟩:=x;exact p.lt
 | dK kvs=>obtain⟨_,_,_,_,o,_,_,e,_⟩:=x;exact av e
 | dT kvs=>obtain⟨_,_,_,_,o,_,_,e,_⟩:=x;exact av e
 | set S n=>obtain⟨o,_,_,_,e,_⟩:=x;exact av e
 | ins C dx fs=>obtain⟨_,_,_,e,_⟩:=x;exact av e
 | own y=>obtain⟨_,e⟩:=x;exact av e
 | xd fs=>obtain⟨_,⟨_,_,_,e,_⟩,_⟩:=x;exact av e
 | rng lo hi=>obtain⟨_,_,_,e⟩:=x;exact av e
 | frz ob u=>obtain⟨e,_⟩:=x;exact av e
 | tbl ps=>exact av (show h.get? a=some _ from x)
 | met f y=>exact av (show h.get? a=some _ from x)
 | ext φ=>obtain⟨_,⟨_,e⟩,_⟩:=x;exact av e
theorem Paired.mapP{α β:Type}{F G:α->β->Prop}:∀{l₁:List α} {l₂:List β},Paired F l₁ l₂->(∀ a b,F a b->G a b)->Paired G l₁ l₂
 | _,_,.nil,_=>.nil
 | _,_,.cons r t,f=>.cons (f _ _ r) (Paired.mapP t f)
theorem ObjOk.stay(x:ObjOk P w H h a o)(k:∀ b u,(b=a\/H b=some (.own a))->h.get? b=some u->h'.get? b=some u)
  (ho:∀ b,H b=some (.own a)->H' b=some (.own a)) (ht:∀ b xs,H b=some (.tup xs)->H' b=some (.tup xs)):ObjOk P w H' h' a o:=by
 induction o with
 | lst xs=>obtain⟨z,its,n,r,e⟩:=x;exact⟨z,its,n,r,k _ _ (.inl rfl) e⟩
 | tup xs=>obtain⟨z,its,r,ob,e,c⟩:=x;exact⟨z,its,r,ob,k _ _ (.inl rfl) e,c⟩
 | dK kvs=>obtain⟨z,y,vs,r,ob,es,ep,e,c⟩:=x;exact⟨z,y,vs,r,ob,es,ep,k _ _ (.inl rfl) e,c⟩
 | dT kvs =>
  obtain⟨z,y,xs,r,ob,es,ep,e,c⟩:=x
  exact⟨z,y,xs,Paired.mapP r fun p q z=>⟨z.1,ht _ _ z.2.1,z.2.2⟩,ob,es,ep,k _ _ (.inl rfl) e,c⟩
 | set S n=>obtain⟨ob,es,ep,t,e,c⟩:=x;exact⟨ob,es,ep,t,k _ _ (.inl rfl) e,c⟩
 | ins C dx fs =>
  obtain⟨d,z,ne,e,mA,⟨od,es,ep,e2,c⟩,r⟩:=x
  exact⟨ho _ d,z,ne,k _ _ (.inl rfl) e,mA,⟨od,es,ep,k _ _ (.inr d) e2,c⟩,r⟩
 | own y=>obtain⟨ob,e⟩:=x;exact⟨ob,k _ _ (.inl rfl) e⟩
 | xd fs=>obtain⟨mA,⟨od,es,ep,e,c⟩,r⟩:=x;exact⟨mA,⟨od,es,ep,k _ _ (.inl rfl) e,c⟩,r⟩
 | rng lo hi=>obtain⟨t,u,v,e⟩:=x;exact⟨t,u,v,k _ _ (.inl rfl) e⟩
 | frz ob u ih=>obtain⟨e,q⟩:=x;exact⟨k _ _ (.inl rfl) e,ih q⟩
 | tbl ps =>
  have e:h.get? a=some { cls:=.none,data:=.fields ps }:=x
  show h'.get? a=some { cls:=.none,data:=.fields ps }
  exact k a _ (.inl rfl) e
 | met f y =>
  have e:h.get? a=some (dM (.ref f) (.ref y)):=x
  show h'.get? a=some (dM (.ref f) (.ref y))
  exact k a _ (.inl rfl) e
 | ext φ=>obtain⟨p,⟨o,e⟩,st⟩:=x;exact⟨st _ _ p fun o q=>k _ _ (.inl rfl) q,⟨o,k _ _ (.inl rfl) e⟩,st⟩
theorem HOk.lt(x:HOk P w H h)(e:H a=some o):a<h.objs.size:=(x a o e).lt
theorem HOk.fresh(x:HOk P w H h)(e:h.objs.size<=a):H a=none:=by
 cases q:H a with
 | none=>rfl
 | some u=>exact absurd (az (x.lt q) e) (cr _)
theorem HOk.kept(x:HOk P w H h)(k:∀ b u,h.get? b=some u->h'.get? b=some u):HOk P w H h':=fun a o e =>
 (x a o e).stay (fun b u _ q=>k b u q) (fun _ q=>q) fun _ _ q=>q
theorem HOk.laid(x:HOk P w H h)(k:∀ b u,h.get? b=some u->h'.get? b=some u)(hp:h.objs.size<=a)(new:ObjOk P w (upd H a o) h' a o):HOk P w (upd H a o) h':=fun b u e=>by
 have hn:=x.fresh hp
 by_cases hb:b=a
 ·subst hb;rw[ze] at e;cases e;exact new
 ·rw[zq hb] at e
  exact (x b u e).stay (fun c v _ q=>k c v q) (fun c q=>by rw[zq (zF q hn)];exact q) fun c xs q=>by rw[zq (zF q hn)];exact q
end
noncomputable def Rd(H:Hp)(a:Addr)(u:HO):Prop:=H a=some u\/∃ o,H a=some (.frz o u)
theorem Rd.ok{P:Program}{w:World}{H:Hp}{h:Heap}{a:Addr}{u:HO}(r:Rd H a u)(x:HOk P w H h):ObjOk P w H h a u:=by
 rcases r with r | ⟨o,r⟩
 ·exact x a u r
 ·obtain⟨_,q⟩:=x a _ r
  exact q
noncomputable def Mut:Option HO->Prop
 | some (.lst _)=>True
 | some (.dK _)=>True
 | some (.dT _)=>True
 | some (.set _ _)=>True
 | some (.ins _ _ _)=>True
 | some (.ext _)=>True
 | _=>False
section
variable{P:Program}{w:World}{H:Hp}{h h':Heap}{x e:Addr}{o':HO}
theorem HOk.write(ok:HOk P w H h)(mu:Mut (H x))(he:e=x\/H e=some (.own x))(k:∀ b u,b≠e->h.get? b=some u->h'.get? b=some u)(heo:∃ u,h'.get? e=some u)
  (new:ObjOk P w (upd H x o') h' x o'):HOk P w (upd H x o') h':=fun b u q=>by
 have nown:∀ c y,H c=some (.own y)->c≠x:=fun c y r z=>by subst z;rw[r] at mu;exact mu
 have ntup:∀ c xs,H c=some (.tup xs)->c≠x:=fun c xs r z=>by subst z;rw[r] at mu;exact mu
 by_cases hb:b=x
 ·subst hb;rw[ze] at q;cases q;exact new
 ·rw[zq hb] at q
  by_cases hbe:b=e
  ·have q':H b=some (.own x):=by
    rcases he with z | z
    ·exact absurd (hbe.trans z) hb
    ·rw[hbe];exact z
   rw[q] at q';cases q'
   obtain⟨v,hv⟩:=heo
   exact⟨v,by rw[hbe];exact hv⟩
  ·refine (ok b u q).stay (fun c v hc r=>k c v ?_ r) (fun c r=>by rw[zq (nown c b r)];exact r) fun c xs r=>by rw[zq (ntup c xs r)];exact r
   rcases hc with rfl | hc
   ·exact hbe
   ·rintro rfl
    rcases he with z | z
    ·exact nown c b hc z
    ·rw[hc] at z;cases z;exact hb rfl
end
structure Un(fs ex:List Addr)(H H':Hp)(h h':Heap):Prop where
 keep:∀ b o,h.get? b=some o->H b=none->b ∉ fs->b ∉ ex->h'.get? b=some o
 slot:∀ b o,h.get? b=some o->H b=none->b ∈ fs->b ∉ ex->∃ sl,h'.get? b=some { o with slots:=sl }
 free:∀ b o,h.get? b=some o->H b=none->b ∉ ex->H' b=none
 there:∀ b o,h.get? b=some o->b ∉ ex->∃ o',h'.get? b=some o'
 tups:∀ b xs,H b=some (.tup xs)->H' b=some (.tup xs)
 frzs:∀ b o u,H b=some (.frz o u)->H' b=some (.frz o u)
 tbls:∀ b ps,H b=some (.tbl ps)->∃ more,H' b=some (.tbl (ps ++ more))
section
variable{fs fs' ex ex':List Addr}{H H1 H2:Hp}{h h1 h2 h':Heap}{a x e:Addr}{o:HO}
theorem Un.any(u:Un fs ex H H1 h h1){b:Addr}{ob:Obj}(q:h.get? b=some ob)(n:H b=none)(hx:b ∉ ex):∃ sl,h1.get? b=some { ob with slots:=sl }:=by
 by_cases hb:b ∈ fs
 ·exact u.slot b ob q n hb hx
 ·exact⟨ob.slots,u.keep b ob q n hb hx⟩
theorem Un.kept(k:∀ b u,h.get? b=some u->h'.get? b=some u):Un fs ex H H h h' :=
 ⟨fun b ob q _ _ _=>k b ob q,fun b ob q _ _ _=>⟨ob.slots,k b ob q⟩,fun _ _ _ n _=>n,fun b ob q _=>⟨ob,k b ob q⟩,fun _ _ q=>q,fun _ _ _ q=>q,fun _ ps q=>⟨#[],by rw[q];simp⟩⟩
theorem Un.refl:Un fs ex H H h h:=Un.kept fun _ _ q=>q
theorem Un.laid(k:∀ b u,h.get? b=some u->h'.get? b=some u)(hp:h.objs.size<=a)(hn:H a=none):Un fs ex H (upd H a o) h h' where
 keep:=fun b u q _ _ _=>k b u q
 slot:=fun b u q _ _ _=>⟨u.slots,k b u q⟩
 free:=fun b u q n _=>by rw[zq (aA (az (av q) hp))];exact n
 there:=fun b u q _=>⟨u,k b u q⟩
 tups:=fun b xs q=>by rw[zq (zF q hn)];exact q
 frzs:=fun b u xs q=>by rw[zq (zF q hn)];exact q
 tbls:=fun b ps q=>⟨#[],by rw[zq (zF q hn),q];simp⟩
theorem Un.write(mu:Mut (H x))(he:e=x\/H e=some (.own x))(k:∀ b u,b≠e->h.get? b=some u->h'.get? b=some u)(heo:∃ u,h'.get? e=some u):Un fs ex H (upd H x o) h h':=by
 have hx:∀ b,H b=none->b≠x:=fun b n z=>by subst z;rw[n] at mu;exact mu
 have hb:∀ b,H b=none->b≠e:=fun b n z=>by
  subst z
  rcases he with r | r
  ·exact hx b n r
  ·rw[n] at r;cases r
 have hm:∀ b u,H b=some u->¬ Mut (some u)->b≠x:=fun b u q nm z=>by subst z;rw[q] at mu;exact nm mu
 refine⟨fun b u q n _ _=>k b u (hb b n) q,fun b u q n _ _=>⟨u.slots,k b u (hb b n) q⟩,fun b u q n _=>by rw[zq (hx b n)];exact n,fun b u q _=>?_,
  fun b xs q=>by rw[zq (hm b _ q fun z=>z)];exact q,fun b u xs q=>by rw[zq (hm b _ q fun z=>z)];exact q,fun b ps q=>⟨#[],by rw[zq (hm b _ q fun z=>z),q];simp⟩⟩
 by_cases hbe:b=e
 ·subst hbe;exact heo
 ·exact⟨u,k b u hbe q⟩
end
noncomputable def trk(h:Heap)(H:Hp):List Addr:=(aS h.objs.size).filter fun a=>(H a).isSome
noncomputable def WU(h:Heap)(H:Hp):Heap:=PySem.W.hideAll h (trk h H)
theorem WA(h:Heap)(H:Hp):(WU h H).objs.size=h.objs.size:=PySem.W.hideAll_size _ _
theorem YT{h:Heap}{H:Hp}{b:Addr}{o:Obj}(e:h.get? b=some o)(n:H b=none):(WU h H).get? b=some o :=
 PySem.W.hideAll_get _ e fun hm=>by
  have q:(H b).isSome=true:=(List.mem_filter.mp hm).2
  rw[n] at q;simp at q
theorem J9{h:Heap}{H:Hp}{b:Addr}{o:Obj}(e:(WU h H).get? b=some o):h.get? b=some o/\H b=none:=by
 have e':h.get? b=some o:=PySem.W.of_hideAll (trk h H) e
 refine⟨e',?_⟩
 cases q:H b with
 | none=>rfl
 | some x =>
  have hm:b ∈ trk h H:=List.mem_filter.mpr ⟨List.mem_range.mpr (av e'),by simp [q]⟩
  have z:(WU h H).get? b=none:=PySem.W.hideAll_none (trk h H) hm
  rw[z] at e;cases e
noncomputable def JP(g h:Heap)(L:Addr):List (Addr × Obj):=(aS h.objs.size).filterMap fun a=>if a=L\/(g.get? a).isSome=true then none else (h.get? a).map fun o=>(a,o)
noncomputable def rest(g h:Heap)(L d:Addr):List (Addr × Obj):=(JP g h L).filter fun p=>decide (p.1≠d)
end L2
namespace L2
structure Mod(K:ot)(mg:Str->Option Value)(base:Heap):Prop where
 kin:K.In base
 glob:base.Ns om mg
 blt:∃ mb,base.Ns builtinsNs mb/\∀ x:Str,x≠"__name__"->mb x=bootBuiltins x
 nolimit:base.NoLimit
structure Cx where
 prog:Program
 w:World
 K:ot
 mg:Str->Option Value
 base:Heap
 A:Around
 N:List Str
 s₀:Shared
 H₀:Hp
 env:Env
 outer:List Env
 stack:List Env
 ex:List Addr
 fn:Str->Bool
 calm:Bool
 pn:List (Addr × Obj)
 xe:Value->Shared->Prop
noncomputable def frs(l:List Env):List Addr:=l.filterMap (·.frame)
noncomputable abbrev Cx.fs(X:Cx):List Addr:=frs X.outer
noncomputable def Vis(sc:Scope)(x:Str):Prop:=sc.names.lookup x=some .local\/sc.names.lookup x=some .cell\/sc.names.lookup x=some .free
noncomputable def Loc(sc:Scope)(x:Str):Prop:=sc.names.lookup x=some .local\/sc.names.lookup x=some .cell
noncomputable def zch(env:Env)(h:Heap)(m:Str->Option Value)(x:Str)(u:Value):Prop :=
 (env.kindOf x=some .local/\m x=some u)\/((env.kindOf x=some .cell\/env.kindOf x=some .free)/\∃ c,env.cells.lookup x=some c/\h.IsCell c (some u))
structure Cx.Ok(X:Cx):Prop where
 mod:Mod X.K X.mg X.base
 kind:X.env.scope.kind=.function
 glob:X.env.globals=om
 blt:X.env.builtins=builtinsNs
 above:X.s₀.heap.objs.size<=X.env.locals
 inj:∀ x y c,X.env.cells.lookup x=some c->X.env.cells.lookup y=some c->x=y
 has:∀ x,(X.env.kindOf x=some .cell\/X.env.kindOf x=some .free)->∃ c,X.env.cells.lookup x=some c
 cab:∀ x c,X.fn x=true->X.env.cells.lookup x=some c->X.s₀.heap.objs.size<=c
 hd:X.calm=true->X.A.handled=none
 frames:X.A.frames=some X.stack
 stk:X.stack=X.outer\/(X.stack=X.env::X.outer/\X.env.frame=some X.env.locals)
 exf:∀ b ∈ X.ex,b≠X.env.locals/\∀ x c,X.env.cells.lookup x=some c->c≠b
 bs:∀ b o,X.base.get? b=some o->X.s₀.heap.get? b=some o/\X.H₀ b=none
 bsz:X.base.objs.size<=X.s₀.heap.objs.size
 noex:∀ b o,X.base.get? b=some o->b ∉ X.ex
 exfs:∀ b ∈ X.ex,b ∉ X.fs
 funs:X.s₀.heap.FunFrames X.base X.outer
 frf:∀ b ∈ X.fs,X.H₀ b=none
structure Inv(X:Cx)(pins:List (Addr × Obj))(σ:List (Option V))(H:Hp)(s:Shared):Prop where
 ok:X.Ok
 os:s.os=X.s₀.os
 bare:AllBare s.gens
 base:Un X.fs X.ex X.H₀ H X.s₀.heap s.heap
 loc:∃ m,s.heap.Ns X.env.locals m/\∀(i:Nat) (x:Str) (v:V),X.N[i]? = some x->σ[i]? = some (some v)->Vis X.env.scope x->∃ u,RelV v u/\zch X.env s.heap m x u
 cell:∀ x c,X.env.cells.lookup x=some c->∃ v,s.heap.IsCell c v
 free:H X.env.locals=none
 freeC:∀ x c,X.env.cells.lookup x=some c->H c=none
 pin:∀ p ∈ X.pn ++ pins,s.heap.get? p.1=some p.2/\H p.1=none/\p.1≠X.env.locals/\p.1 ∉ X.fs/\∀ v,p.2.data≠.cell v
 hok:HOk X.prog X.w H s.heap
 len:σ.length=X.N.length
section
variable{X:Cx}{pins:List (Addr × Obj)}{σ:List (Option V)}{H H':Hp}{s:Shared}{h':Heap}
theorem Cx.Ok.nofr(ok:X.Ok){b:Addr}{o:Obj}(e:X.base.get? b=some o):b ∉ X.fs:=fun hb=>by
 have:=(ok.funs.mem hb).1
 rw[e] at this;cases this
theorem Inv.bs(I:Inv X pins σ H s):∀ b o,X.base.get? b=some o->s.heap.get? b=some o/\H b=none:=fun b o e =>
 ⟨I.base.keep b o (I.ok.bs b o e).1 (I.ok.bs b o e).2 (I.ok.nofr e) (I.ok.noex b o e),I.base.free b o (I.ok.bs b o e).1 (I.ok.bs b o e).2 (I.ok.noex b o e)⟩
theorem Inv.bk(I:Inv X pins σ H s):∀ b o,X.base.get? b=some o->s.heap.get? b=some o:=fun b o e=>(I.bs b o e).1
theorem Inv.mod(I:Inv X pins σ H s):Mod X.K X.mg X.base:=I.ok.mod
theorem Inv.kIn(I:Inv X pins σ H s):X.K.In s.heap:=I.ok.mod.kin.keeps I.bk
theorem Inv.nolimit(I:Inv X pins σ H s):s.heap.NoLimit:=I.ok.mod.nolimit.keeps I.bk
theorem Inv.fr(I:Inv X pins σ H s):∃ m,Fr X.base X.env.locals s.heap m :=
 let ⟨m,hn,_⟩:=I.loc
 ⟨m,hn,I.bk,aQ I.ok.bsz I.ok.above⟩
theorem Inv.lt(I:Inv X pins σ H s):X.env.locals<s.heap.objs.size:=let ⟨_,hn,_⟩:=I.loc;hn.lt
theorem Inv.sz(I:Inv X pins σ H s):X.s₀.heap.objs.size<=s.heap.objs.size:=aQ I.ok.above (cS I.lt)
theorem Inv.nofs(I:Inv X pins σ H s){a:Addr}(h:s.heap.objs.size<=a):a ∉ X.fs:=fun hb=>by
 obtain⟨_,o,ho,_⟩:=I.ok.funs.mem hb
 exact absurd (az (av ho) (aQ I.sz h)) (cr _)
theorem Inv.cne(I:Inv X pins σ H s):∀ x c,X.env.cells.lookup x=some c->c≠X.env.locals:=fun x c e z=>by
 obtain⟨v,o,ho,hd⟩:=I.cell x c e
 obtain⟨m,⟨o',es,ep,ho',hd',_⟩,_⟩:=I.loc
 rw[z,ho'] at ho;cases ho;rw[hd'] at hd;cases hd
theorem Inv.funs(I:Inv X pins σ H s):s.heap.FunFrames X.base X.outer:=by
 have all:∀(l:List Env),(∀ b ∈ frs l,b ∈ X.fs)->X.s₀.heap.FunFrames X.base l->s.heap.FunFrames X.base l:=by
  intro l
  induction l with
  | nil=>intro _ _;trivial
  | cons env r ih =>
   intro hs hl
   obtain⟨hk,⟨L,o,hf,hn,ho,hd⟩,hr⟩:=hl
   have hL:L ∈ X.fs:=hs L (by unfold frs;rw[dz,hf];exact aI)
   obtain⟨sl,e⟩:=I.base.slot L o ho (I.ok.frf L hL) hL fun z=>I.ok.exfs L z hL
   exact⟨hk,⟨L,_,hf,hn,e,hd⟩,ih (fun b hb=>hs b (by unfold frs;rw[dz,hf];exact aw _ hb)) hr⟩
 exact all X.outer (fun _ hb=>hb) I.ok.funs
theorem Inv.stack(I:Inv X pins σ H s):s.heap.FunFrames X.base X.stack:=by
 rcases I.ok.stk with e | ⟨e,hf⟩
 ·rw[e];exact I.funs
 ·rw[e]
  obtain⟨m,hn,_⟩:=I.loc
  refine .cons (by rw[I.ok.kind];decide) hf hn ?_ I.funs
  exact Heap.get?_none_of_le (aQ I.ok.bsz I.ok.above)
theorem Inv.stkSub(I:Inv X pins σ H s):∀ b ∈ frs X.stack,b ∈ X.env.locals::X.fs:=fun b hb=>by
 rcases I.ok.stk with e | ⟨e,hf⟩
 ·rw[e] at hb;exact aw _ hb
 ·rw[e] at hb
  unfold frs at hb
  rw[dz,hf] at hb
  exact hb
theorem Inv.stkFree(I:Inv X pins σ H s):∀ b ∈ frs X.stack,H b=none:=fun b hb=>by
 rcases List.mem_cons.mp (I.stkSub b hb) with e | hb
 ·rw[e];exact I.free
 ·obtain⟨_,o,ho,_⟩:=I.ok.funs.mem hb
  exact I.base.free b o ho (I.ok.frf b hb) fun z=>I.ok.exfs b z hb
theorem Inv.step{g':Array GenState}{t':Nat}{d':Drawn}{ch:List Addr}(I:Inv X pins σ H s)
  (hch:∀ b ∈ ch,(b ∈ X.ex\/X.s₀.heap.objs.size<=b)/\b≠X.env.locals/\(∀ x c,X.env.cells.lookup x=some c->c≠b)/\∀ p ∈ X.pn ++ pins,p.1≠b)
  (keep:∀ b o,b≠X.env.locals->b ∉ X.fs->b ∉ ch->s.heap.get? b=some o->H b=none->h'.get? b=some o)
  (slot:∀ b o,b≠X.env.locals->b ∈ X.fs->b ∉ ch->s.heap.get? b=some o->H b=none->∃ sl,h'.get? b=some { o with slots:=sl }) (free:∀ b o,b ∉ ch->s.heap.get? b=some o->H b=none->H' b=none)
  (there:∀ b o,b ∉ ch->s.heap.get? b=some o->∃ o',h'.get? b=some o')
  (tups:∀ b xs,H b=some (.tup xs)->H' b=some (.tup xs)) (frzs:∀ b o u,H b=some (.frz o u)->H' b=some (.frz o u)) (tbls:∀ b ps,H b=some (.tbl ps)->∃ more,H' b=some (.tbl (ps ++ more)))
  (ns:∀ m,s.heap.Ns X.env.locals m->h'.Ns X.env.locals m) (hok:HOk X.prog X.w H' h') (hg:AllBare g') :
  Inv X pins σ H' { s with heap:=h',gens:=g',drawn:=d',toks:=t' }:=by
 have neL:∀ b o,X.s₀.heap.get? b=some o->b≠X.env.locals:=fun b o e=>aA (az (av e) I.ok.above)
 have neC:∀ b o,X.s₀.heap.get? b=some o->b ∉ X.ex->b ∉ ch:=fun b o e hx hb=>by
  rcases (hch b hb).1 with z | z
  ·exact hx z
  ·exact absurd (az (av e) z) (cr _)
 have cellK:∀ x c,X.env.cells.lookup x=some c->∀ v,s.heap.IsCell c v->h'.IsCell c v:=fun x c e v ⟨o,ho,hd⟩=>by
  have nch:c ∉ ch:=fun z=>(hch c z).2.2.1 x c e rfl
  by_cases hc:c ∈ X.fs
  ·obtain⟨sl,q⟩:=slot c o (I.cne x c e) hc nch ho (I.freeC x c e)
   exact⟨_,q,hd⟩
  ·exact⟨o,keep c o (I.cne x c e) hc nch ho (I.freeC x c e),hd⟩
 refine⟨I.ok,I.os,hg,⟨fun b o e n hb hx=>?_,fun b o e n hb hx=>?_,fun b o e n hx=>?_,fun b o e hx=>?_,fun b xs e=>tups b xs (I.base.tups b xs e),fun b o xs e=>frzs b o xs (I.base.frzs b o xs e),fun b ps e=>?_⟩,?_,fun x c e=>?_,?_,fun x c e=>?_,fun p hp=>?_,hok,I.len⟩
 ·exact keep b o (neL b o e) hb (neC b o e hx) (I.base.keep b o e n hb hx) (I.base.free b o e n hx)
 ·obtain⟨sl,e1⟩:=I.base.slot b o e n hb hx
  obtain⟨sl',e2⟩:=slot b _ (neL b o e) hb (neC b o e hx) e1 (I.base.free b o e n hx)
  exact⟨sl',e2⟩
 ·obtain⟨o',e1⟩:=I.base.there b o e hx
  exact free b o' (neC b o e hx) e1 (I.base.free b o e n hx)
 ·obtain⟨o',e1⟩:=I.base.there b o e hx
  exact there b o' (neC b o e hx) e1
 ·obtain⟨m1,e1⟩:=I.base.tbls b ps e
  obtain⟨m2,e2⟩:=tbls b _ e1
  exact⟨m1 ++ m2,by rw[e2,Array.append_assoc]⟩
 ·obtain⟨m,hn,hl⟩:=I.loc
  refine⟨m,ns m hn,fun i x v e1 e2 e3=>?_⟩
  obtain⟨u,r,l⟩:=hl i x v e1 e2 e3
  refine⟨u,r,?_⟩
  rcases l with l | ⟨k,c,e,z⟩
  ·exact .inl l
  ·exact .inr ⟨k,c,e,cellK x c e _ z⟩
 ·obtain⟨v,z⟩:=I.cell x c e
  exact⟨v,cellK x c e v z⟩
 ·obtain⟨m,⟨o,_,_,ho,_⟩,_⟩:=I.loc
  exact free _ o (fun z=>(hch _ z).2.1 rfl) ho I.free
 ·obtain⟨v,o,ho,hd⟩:=I.cell x c e
  exact free c o (fun z=>(hch c z).2.2.1 x c e rfl) ho (I.freeC x c e)
 ·obtain⟨e,n,ne,nf,d⟩:=I.pin p hp
  have nch:p.1 ∉ ch:=fun z=>(hch p.1 z).2.2.2 p hp rfl
  exact⟨keep p.1 p.2 ne nf nch e n,free p.1 p.2 nch e n,ne,nf,d⟩
theorem Inv.un{t':Nat}(I:Inv X pins σ H s)(u:Un X.fs [] H H' s.heap h')(hok:HOk X.prog X.w H' h'):Inv X pins σ H' { s with heap:=h',toks:=t' }:=by
 obtain⟨m,⟨o,es,ep,ho,r⟩,_⟩:=id I.loc
 obtain⟨sl,hL⟩:=u.any ho I.free (by simp)
 exact I.step (g':=s.gens) (d':=s.drawn) (ch:=[]) (fun _ z=>nomatch z) (fun b o _ hb _ e n=>u.keep b o e n hb (by simp)) (fun b o _ hb _ e n=>u.slot b o e n hb (by simp)) (fun b o _ e n=>u.free b o e n (by simp)) (fun b o _ e=>u.there b o e (by simp)) u.tups u.frzs u.tbls (fun m' hm=>by
  obtain⟨o',es',ep',ho',r'⟩:=hm
  rw[ho] at ho';cases ho'
  exact⟨_,es',ep',hL,r'⟩) hok I.bare
theorem Inv.call{g':Array GenState}{t':Nat}{d':Drawn}{ch:List Addr}(I:Inv X pins σ H s)(u:Un (frs X.stack) ch H H' s.heap h')(hok:HOk X.prog X.w H' h')(hg:AllBare g')
  (hch:∀ b ∈ ch,(b ∈ X.ex\/X.s₀.heap.objs.size<=b)/\b≠X.env.locals/\(∀ x c,X.env.cells.lookup x=some c->c≠b)/\∀ p ∈ X.pn ++ pins,p.1≠b) :
  Inv X pins σ H' { s with heap:=h',gens:=g',drawn:=d',toks:=t' }:=by
 obtain⟨m,⟨o,es,ep,ho,r⟩,_⟩:=id I.loc
 obtain⟨sl,hL⟩:=u.any ho I.free fun z=>(hch _ z).2.1 rfl
 exact I.step (ch:=ch) hch (fun b o hL hb hc e n=>u.keep b o e n (fun z=>(List.mem_cons.mp (I.stkSub b z)).elim hL hb) hc) (fun b o _ _ hc e n=>u.any e n hc) (fun b o hc e n=>u.free b o e n hc) (fun b o hc e=>u.there b o e hc) u.tups u.frzs u.tbls (fun m' hm=>by
  obtain⟨o',es',ep',ho',r'⟩:=hm
  rw[ho] at ho';cases ho'
  exact⟨_,es',ep',hL,r'⟩) hok hg
theorem Inv.turned{t':Nat}{it:Addr}(I:Inv X pins σ H s)(k:∀ b o,b≠it->s.heap.get? b=some o->h'.get? b=some o)(hn:H it=none)(hL:it≠X.env.locals)
  (h1:it ∈ X.ex\/X.s₀.heap.objs.size<=it) (h2:∀ x c,X.env.cells.lookup x=some c->c≠it) (h3:∀ p ∈ X.pn ++ pins,p.1≠it):Inv X pins σ H { s with heap:=h',toks:=t' }:=by
 have nit:∀ b u,H b=some u->b≠it:=fun b u e z=>by rw[z,hn] at e;cases e
 refine I.step (g':=s.gens) (d':=s.drawn) (ch:=[it]) (fun b hb=>?_) (fun b o _ _ hc e _=>k b o (fun z=>hc (by simp [z])) e) (fun b o _ _ hc e _=>⟨o.slots,k b o (fun z=>hc (by simp [z])) e⟩) (fun _ _ _ _ n=>n)
  (fun b o hc e=>⟨o,k b o (fun z=>hc (by simp [z])) e⟩) (fun _ _ e=>e) (fun _ _ _ e=>e) (fun b ps e=>⟨#[],by rw[e];simp⟩) (fun m hm=>?_) (fun b u e=>?_) I.bare
 ·have e:b=it:=by simpa using hb
  subst e
  exact⟨h1,hL,h2,h3⟩
 ·obtain⟨o,es,ep,ho,r⟩:=hm
  exact⟨o,es,ep,k _ o (Ne.symm hL) ho,r⟩
 ·refine (I.hok b u e).stay (fun c v hc q=>k c v ?_ q) (fun _ q=>q) fun _ _ q=>q
  rcases hc with z | z
  ·rw[z];exact nit b u e
  ·exact nit c _ z
theorem Inv.tok(I:Inv X pins σ H s)(t:Nat):Inv X pins σ H { s with toks:=t }:=I.un (h':=s.heap) (t':=t) Un.refl I.hok
theorem Inv.kept{t':Nat}(I:Inv X pins σ H s)(k:∀ b u,s.heap.get? b=some u->h'.get? b=some u):Inv X pins σ H { s with heap:=h',toks:=t' }:=I.un (Un.kept k) (I.hok.kept k)
theorem Inv.laid{a:Addr}{o:HO}{t':Nat}(I:Inv X pins σ H s)(k:∀ b u,s.heap.get? b=some u->h'.get? b=some u)(hp:s.heap.objs.size<=a)(new:ObjOk X.prog X.w (upd H a o) h' a o) :
  Inv X pins σ (upd H a o) { s with heap:=h',toks:=t' }:=I.un (Un.laid k hp (I.hok.fresh hp)) (I.hok.laid k hp new)
theorem Inv.write{x e:Addr}{o:HO}{t':Nat}(I:Inv X pins σ H s)(mu:Mut (H x))(he:e=x\/H e=some (.own x))(k:∀ b u,b≠e->s.heap.get? b=some u->h'.get? b=some u)(heo:∃ u,h'.get? e=some u)
  (new:ObjOk X.prog X.w (upd H x o) h' x o):Inv X pins σ (upd H x o) { s with heap:=h',toks:=t' }:=I.un (Un.write mu he k heo) (I.hok.write mu he k heo new)
theorem Inv.weak{σ':List (Option V)}(I:Inv X pins σ H s)(hl:σ'.length=σ.length)(w:∀(i:Nat) v,σ'[i]? = some (some v)->σ[i]? = some (some v)):Inv X pins σ' H s :=
 ⟨I.ok,I.os,I.bare,I.base,let ⟨m,hn,hl'⟩:=I.loc; ⟨m,hn,fun i x v e1 e2 e3=>hl' i x v e1 (w i v e2) e3⟩,I.cell,I.free,I.freeC,I.pin,I.hok,hl.trans I.len⟩
theorem Inv.pins_of{pins':List (Addr × Obj)}(I:Inv X pins σ H s)(h:∀ p ∈ pins',s.heap.get? p.1=some p.2/\H p.1=none/\p.1≠X.env.locals/\p.1 ∉ X.fs/\∀ v,p.2.data≠.cell v):Inv X pins' σ H s :=
 ⟨I.ok,I.os,I.bare,I.base,I.loc,I.cell,I.free,I.freeC,fun p hp=>(List.mem_append.mp hp).elim (fun z=>I.pin p (br _ z)) (h p),I.hok,I.len⟩
theorem YL{N:List Str}(hN:N.Nodup){i j:Nat}{x:Str}(a:N[i]? = some x)(b:N[j]? = some x):i=j:=by
 obtain⟨h1,e1⟩:=List.getElem?_eq_some_iff.mp a
 obtain⟨h2,e2⟩:=List.getElem?_eq_some_iff.mp b
 exact (List.getElem_inj hN).mp (e1.trans e2.symm)
theorem kO{M:Model}{A:Around}{E:Value->Shared->Prop}{i:Nat}{x:Str}{v:V}{u:Value}{Q:Unit->Shared->Prop}(I:Inv X pins σ H s)(hN:X.N.Nodup)(hi:X.N[i]? = some x)(hx:Loc X.env.scope x)(r:RelV v u)
  (h:∀ s',Inv X pins (σ.set i (some v)) H s'->(∃ a,Heap.SameBut a s.heap s'.heap/\(a=X.env.locals\/X.env.cells.lookup x=some a))->Q () s') (hf:X.fn x=true\/X.env.scope.names.lookup x=some .local:=by first | exact .inl rfl | exact .inr rfl | assumption):wpAny M A (storeName X.env x u) Q E s:=by
 obtain⟨m,hn,hl⟩:=id I.loc
 have hcls:(X.env.scope.kind == .class || (X.env.scope.kind == .module && X.env.locals != X.env.globals))=false:=by rw[I.ok.kind];rfl
 have hiσ:i<σ.length:=by rw[I.len];exact (List.getElem?_eq_some_iff.mp hi).1
 have cne:=I.cne
 have tracked:∀{a:Addr} {h':Heap},(∃ o,s.heap.get? a=some o/\H a=none)->Heap.SameBut a s.heap h'->HOk X.prog X.w H h':=fun {a h'} ha hs b ob e=>by
  obtain⟨_,_,hfree⟩:=ha
  refine (I.hok b ob e).stay (fun c w' hc q=>(hs.2 c ?_).trans q) (fun _ q=>q) fun _ _ q=>q
  rintro rfl
  rcases hc with rfl | hc
  ·rw[hfree] at e;cases e
  ·rw[hfree] at hc;cases hc
 rcases hx with hk | hk
 ·refine wpAny_storeName_local hk hn (fun h' hn' hs=>?_) hcls
  obtain⟨oL,_,_,hoL,_⟩:=id hn
  refine h _ ⟨I.ok,I.os,I.bare,⟨fun b o e n hb hx=>?_,fun b o e n hb hx=>?_,I.base.free,fun b o e hx=>?_,I.base.tups,I.base.frzs,I.base.tbls⟩,⟨_,hn',fun j y v' e1 e2 e3=>?_⟩,fun y c e=>?_,I.free,I.freeC,fun p hp=>?_,tracked ⟨oL,hoL,I.free⟩ hs,by simpa using I.len⟩ ⟨_,hs,.inl rfl⟩
  ·exact (hs.2 b (aA (az (av e) I.ok.above))).trans (I.base.keep b o e n hb hx)
  ·obtain⟨sl,e1⟩:=I.base.slot b o e n hb hx
   exact⟨sl,(hs.2 b (aA (az (av e) I.ok.above))).trans e1⟩
  ·obtain⟨o',e1⟩:=I.base.there b o e hx
   exact⟨o',(hs.2 b (aA (az (av e) I.ok.above))).trans e1⟩
  ·by_cases hj:j=i
   ·subst hj
    rw[hi] at e1;cases e1
    rw[em hiσ] at e2
    cases e2
    exact⟨u,r,.inl ⟨hk,by simp⟩⟩
   ·rw[eL (Ne.symm hj)] at e2
    obtain⟨u',r',q⟩:=hl j y v' e1 e2 e3
    refine⟨u',r',?_⟩
    rcases q with ⟨k,e⟩ | ⟨k,c,e,z⟩
    ·refine .inl ⟨k,?_⟩
     have:y≠x:=fun e=>hj (YL hN e1 (e ▸ hi))
     simp [this,e]
    ·exact .inr ⟨k,c,e,z.sameBut hs (cne y c e)⟩
  ·obtain⟨w',z⟩:=I.cell y c e
   exact⟨w',z.sameBut hs (cne y c e)⟩
  ·obtain⟨e,n,ne,nf,d⟩:=I.pin p hp
   exact⟨(hs.2 p.1 ne).trans e,n,ne,nf,d⟩
 ·have hfn:X.fn x=true:=by
   rcases hf with z | z
   ·exact z
   ·rw[z] at hk;cases hk
  obtain⟨c,hc⟩:=I.ok.has x (.inl hk)
  obtain⟨w',z⟩:=I.cell x c hc
  refine wpAny_storeName_cell I.ok.kind hk hc z (fun h' hc' hs=>?_)
  obtain⟨oc,hoc,hocd⟩:=id z
  refine h { s with heap:=h' } ⟨I.ok,I.os,I.bare,⟨fun b o e n hb hx=>?_,fun b o e n hb hx=>?_,I.base.free,fun b o e hx=>?_,I.base.tups,I.base.frzs,I.base.tbls⟩,⟨m,hn.sameBut hs (Ne.symm (cne x c hc)),fun j y v' e1 e2 e3=>?_⟩,fun y c' e=>?_,I.free,I.freeC,fun p hp=>?_,tracked ⟨oc,hoc,I.freeC x c hc⟩ hs,by simpa using I.len⟩ ⟨c,hs,.inr hc⟩
  ·exact (hs.2 b (aA (az (av e) (I.ok.cab x c hfn hc)))).trans (I.base.keep b o e n hb hx)
  ·obtain⟨sl,e1⟩:=I.base.slot b o e n hb hx
   exact⟨sl,(hs.2 b (aA (az (av e) (I.ok.cab x c hfn hc)))).trans e1⟩
  ·obtain⟨o',e1⟩:=I.base.there b o e hx
   exact⟨o',(hs.2 b (aA (az (av e) (I.ok.cab x c hfn hc)))).trans e1⟩
  ·by_cases hj:j=i
   ·subst hj
    rw[hi] at e1;cases e1
    rw[em hiσ] at e2
    cases e2
    exact⟨u,r,.inr ⟨.inl hk,c,hc,hc'⟩⟩
   ·rw[eL (Ne.symm hj)] at e2
    obtain⟨u',r',q⟩:=hl j y v' e1 e2 e3
    refine⟨u',r',?_⟩
    rcases q with q | ⟨k,c',e,z'⟩
    ·exact .inl q
    ·refine .inr ⟨k,c',e,z'.sameBut hs ?_⟩
     rintro rfl
     exact hj (YL hN e1 (I.ok.inj _ _ _ e hc ▸ hi))
  ·by_cases hcc:c'=c
   ·subst hcc;exact⟨_,hc'⟩
   ·obtain⟨w2,z2⟩:=I.cell y c' e
    exact⟨w2,z2.sameBut hs hcc⟩
  ·obtain⟨e,n,ne,nf,d⟩:=I.pin p hp
   refine⟨(hs.2 p.1 ?_).trans e,n,ne,nf,d⟩
   intro q
   rw[q,hoc] at e
   have q':oc=p.2:=Option.some.inj e
   exact d w' (by rw[<- q'];exact hocd)
theorem kg{M:Model}{A:Around}{E:Value->Shared->Prop}{i:Nat}{x:Str}{v:V}{u:Value}{Q:Unit->Shared->Prop}(I:Inv X pins σ H s)(hN:X.N.Nodup)(hi:X.N[i]? = some x)(hx:Loc X.env.scope x)(r:RelV v u)
  (h:∀ s',Inv X pins (σ.set i (some v)) H s'->Q () s') (hf:X.fn x=true\/X.env.scope.names.lookup x=some .local:=by first | exact .inl rfl | exact .inr rfl | assumption):wpAny M A (storeName X.env x u) Q E s :=
 kO I hN hi hx r (fun s' I' _=>h s' I') hf
theorem Inv.call'{s':Shared}{ch:List Addr}(I:Inv X pins σ H s)(ho:s'.os=s.os)(u:Un (frs X.stack) ch H H' s.heap s'.heap)(hok:HOk X.prog X.w H' s'.heap)(hg:AllBare s'.gens)
  (hch:∀ b ∈ ch,(b ∈ X.ex\/X.s₀.heap.objs.size<=b)/\b≠X.env.locals/\(∀ x c,X.env.cells.lookup x=some c->c≠b)/\∀ p ∈ X.pn ++ pins,p.1≠b):Inv X pins σ H' s':=by
 obtain⟨h',g',d',t',o'⟩:=s'
 have e:o'=s.os:=ho
 subst e
 exact I.call (g':=g') (t':=t') (d':=d') u hok hg hch
end
noncomputable abbrev XK:=Value->Option Addr->Hp->Prop
noncomputable abbrev St:=List (Option V)
noncomputable abbrev VK:=V->Hp->Prop
noncomputable abbrev TE:=St->Hp->VK->Prop
noncomputable abbrev TT:=St->Hp->(Bool->Hp->Prop)->Prop
noncomputable abbrev TA:=St->Hp->(List V->Hp->Prop)->Prop
structure vh where
 nx:St->Hp->Prop
 rt:VK
 bk:St->Hp->Prop:=fun _ _=>False
 ct:St->Hp->Prop:=fun _ _=>False
noncomputable abbrev TS:=vh->St->Hp->Prop
noncomputable def EP(X:Cx)(pins:List (Addr × Obj))(σ:St)(Q:VK)(u:Value)(s':Shared):Prop:=∃ v H',Inv X pins σ H' s'/\RelV v u/\Q v H'
noncomputable def TP(X:Cx)(pins:List (Addr × Obj))(σ:St)(Q:Bool->Hp->Prop)(b:Bool)(s':Shared):Prop:=∃ H',Inv X pins σ H' s'/\Q b H'
noncomputable def AP(X:Cx)(pins:List (Addr × Obj))(σ:St)(Q:List V->Hp->Prop)(us:List Value)(s':Shared):Prop:=∃ vs H',Inv X pins σ H' s'/\Vals vs us/\Q vs H'
noncomputable def SP(X:Cx)(pins:List (Addr × Obj))(D:vh)(f:Flow)(s':Shared):Prop :=
 match f with
 | .next=>∃ σ' H',Inv X pins σ' H' s'/\D.nx σ' H'
 | .brk=>∃ σ' H',Inv X pins σ' H' s'/\D.bk σ' H'
 | .cont=>∃ σ' H',Inv X pins σ' H' s'/\D.ct σ' H'
 | .ret u=>∃ v σ' H',Inv X pins σ' H' s'/\RelV v u/\D.rt v H'
noncomputable def PE(X:Cx)(e:Expr)(t:TE):Prop :=
 ∀(pins:List (Addr × Obj)) (s:Shared) (σ:St) (H:Hp) (Q:VK),Inv X pins σ H s->t σ H Q->wpAny (model X.prog X.w) X.A (eval e X.env) (EP X pins σ Q) X.xe s
noncomputable def PT(X:Cx)(e:Expr)(t:TT):Prop :=
 ∀(pins:List (Addr × Obj)) (s:Shared) (σ:St) (H:Hp) (Q:Bool->Hp->Prop),Inv X pins σ H s->t σ H Q->wpAny (model X.prog X.w) X.A (isTrue e X.env (eval e X.env)) (TP X pins σ Q) X.xe s
noncomputable def PW(X:Cx)(e:Expr)(t:TT):Prop :=
 ∀(whole:Sem Value) (pins:List (Addr × Obj)) (s:Shared) (σ:St) (H:Hp) (Q:Bool->Hp->Prop),Inv X pins σ H s->t σ H Q->wpAny (model X.prog X.w) X.A (isTrue e X.env whole) (TP X pins σ Q) X.xe s
theorem PW.pt{X:Cx}{e:Expr}{t:TT}(h:PW X e t):PT X e t:=h _
noncomputable def PA(X:Cx)(es:List Expr)(t:TA):Prop :=
 ∀(pos:Pos) (pins:List (Addr × Obj)) (s:Shared) (σ:St) (H:Hp) (Q:List V->Hp->Prop),Inv X pins σ H s->t σ H Q->wpAny (model X.prog X.w) X.A (spliced (backTo pos (oo es X.env))) (AP X pins σ Q) X.xe s
noncomputable def PS(X:Cx)(st:Stmt)(t:TS):Prop :=
 ∀(pins:List (Addr × Obj)) (s:Shared) (σ:St) (H:Hp) (D:vh),Inv X pins σ H s->t D σ H->wpAny (model X.prog X.w) X.A (exec st X.env) (SP X pins D) X.xe s
noncomputable def PSs(X:Cx)(st:List Stmt)(t:TS):Prop :=
 ∀(pins:List (Addr × Obj)) (s:Shared) (σ:St) (H:Hp) (D:vh),Inv X pins σ H s->t D σ H->wpAny (model X.prog X.w) X.A (execs st X.env) (SP X pins D) X.xe s
theorem thn{α:Type}{t:Sem α}{Q Q':α->Shared->Prop}{M:Model}{A:Around}{E:Value->Shared->Prop}{s:Shared}(h:wpAny M A t Q E s)(hQ:∀ a s,Q a s->Q' a s):wpAny M A t Q' E s:=wpAny_mono h hQ fun _ _ x=>x
end L2
namespace L2
section
variable{X:Cx}
theorem bin{a b:Expr}{ta tb:TE}(ha:PE X a ta)(hb:PE X b tb){pins:List (Addr × Obj)}{s:Shared}{σ:St}{H:Hp}{R:V->V->Hp->Prop}(I:Inv X pins σ H s)(h:ta σ H fun x H1=>tb σ H1 fun y H2=>R x y H2)
  {α:Type} {Q:α->Shared->Prop} {f:Value->Value->Sem α}
  (hf:∀ v u s2 x y H2,Inv X pins σ H2 s2->RelV x v->RelV y u->R x y H2->wpAny (model X.prog X.w) X.A (f v u) Q X.xe s2) :
  wpAny (model X.prog X.w) X.A (eval a X.env) (fun v s₁=>wpAny (model X.prog X.w) X.A (eval b X.env) (fun u s₂=>wpAny (model X.prog X.w) X.A (f v u) Q X.xe s₂) X.xe s₁) X.xe s:=by
 refine thn (ha pins s σ H _ I h) fun v s1 ⟨x,H1,I1,r1,q1⟩=>?_
 refine thn (hb pins s1 σ H1 _ I1 q1) fun u s2 ⟨y,H2,I2,r2,q2⟩=>?_
 exact hf v u s2 x y H2 I2 r1 r2 q2
noncomputable def yK(i:Nat):TE:=fun σ H Q=>∃ v,σ[i]? = some (some v)/\Q v H
noncomputable def tC(v:V):TE:=fun _ H Q=>Q v H
theorem zaz{i:Nat}{x:Str}{pos:Pos}(hN:X.N[i]? = some x)(hv:Vis X.env.scope x)(hd:(x == ("__debug__" : Str))=false:=by decide)(hcd:(x == ("__classdict__" : Str))=false:=by decide):PE X (.Name x pos) (yK i):=by
 intro pins s σ H Q I h
 obtain⟨v,e,h⟩:=h
 obtain⟨m,hn,hl⟩:=I.loc
 obtain⟨u,r,l⟩:=hl i x v hN e hv
 have fin:EP X pins σ Q u s:=⟨v,H,I,r,h⟩
 rcases l with ⟨hk,hm⟩ | ⟨hk,c,hc,hcell⟩
 ·exact wpAny_Name (wpAny_loadName_local I.ok.kind hk hn hm fin) hd
 ·rcases hk with hk | hk
  ·exact wpAny_Name (wpAny_loadName_cell I.ok.kind hk hc hcell fin) hd
  ·exact wpAny_Name (wpAny_loadName_free I.ok.kind hk hc hcell fin hcd) hd
theorem zg{i j pos}:PE X (.Constant (.int i) j pos) (tC (.int i)):=fun _ _ _ H _ I h=>wpAny_Constant_int ⟨.int i,H,I.tok _,⟨_,rfl⟩,h⟩
theorem y0{b j pos}:PE X (.Constant (.bool b) j pos) (tC (.bl b)):=fun _ _ _ H _ I h=>Constant_bool ⟨.bl b,H,I,rfl,h⟩
theorem xO{j pos}:PE X (.Constant .none j pos) (tC .non):=fun _ _ _ H _ I h=>Constant_none ⟨.non,H,I,rfl,h⟩
theorem xy{x j pos}:PE X (.Constant (.str x) j pos) (tC (.str x)):=fun _ _ _ H _ I h=>Calls.Constant_str ⟨.str x,H,I.tok _,⟨_,rfl⟩,h⟩
noncomputable def Gl(X:Cx)(x:Str):Prop:=X.env.kindOf x=some .globalImplicit
theorem ve{E:Value->Shared->Prop}{pins:List (Addr × Obj)}{s:Shared}{σ:St}{H:Hp}{x:Str}{u:Value}{pos:Pos}{Q:Value->Shared->Prop}(I:Inv X pins σ H s)(hg:Gl X x)(hm:X.mg x=some u)(h:Q u s)
  (hd:(x == ("__debug__" : Str))=false:=by decide):wpAny (model X.prog X.w) X.A (eval (.Name x pos) X.env) Q E s :=
 Calls.Name_function_global I.ok.kind hg (Calls.loadGlobal_global (by rw[I.ok.glob];exact I.mod.glob.keeps I.bk) hm h) hd
theorem w4{E:Value->Shared->Prop}{pins:List (Addr × Obj)}{s:Shared}{σ:St}{H:Hp}{x:Str}{u:Value}{pos:Pos}{Q:Value->Shared->Prop}(I:Inv X pins σ H s)(hg:Gl X x)(hm:X.mg x=none)(hv:bootBuiltins x=some u)(h:Q u s)
  (hn:x≠"__name__":=by decide) (hd:(x == ("__debug__" : Str))=false:=by decide):wpAny (model X.prog X.w) X.A (eval (.Name x pos) X.env) Q E s:=by
 obtain⟨mb,h1,h2⟩:=I.mod.blt
 exact Calls.Name_function_global I.ok.kind hg (Calls.loadGlobal_builtin (by rw[I.ok.glob];exact I.mod.glob.keeps I.bk) hm (by rw[I.ok.blt];exact h1.keeps I.bk) ((h2 x hn).trans hv) h) hd
theorem yZ{x:Str}{v:V}{u:Value}{pos:Pos}(hg:Gl X x)(hm:X.mg x=some u)(r:RelV v u)(hd:(x == ("__debug__" : Str))=false:=by decide):PE X (.Name x pos) (tC v) :=
 fun _ _ _ H _ I h=>ve I hg hm ⟨v,H,I,r,h⟩ hd
theorem JC{x:Str}{v:V}{u:Value}{pos:Pos}(hg:Gl X x)(hm:X.mg x=none)(hv:bootBuiltins x=some u)(r:RelV v u)(hn:x≠"__name__":=by decide)(hd:(x == ("__debug__" : Str))=false:=by decide):PE X (.Name x pos) (tC v) :=
 fun _ _ _ H _ I h=>w4 I hg hm hv ⟨v,H,I,r,h⟩ hn hd
variable{a b:Expr}{ta tb:TE}{pos:Pos}
variable{tA tB':TT}{rest:List Expr}
noncomputable def zbZ(t u:TT):TT:=fun σ H Q=>t σ H fun c H1=>if c=true then u σ H1 Q else Q false H1
noncomputable def tOr(t u:TT):TT:=fun σ H Q=>t σ H fun c H1=>if c=true then Q true H1 else u σ H1 Q
noncomputable def zaG(t:TT):TT:=fun σ H Q=>t σ H fun c H1=>Q (!c) H1
theorem Q5(ha:PT X a tA):PW X (.BoolOp .And [a] pos) tA:=by
 intro wh pins s σ H Q I h
 refine isTrue_and (thn (ha pins s σ H Q I h) fun c s1 e=>?_)
 cases c with
 | true=>exact isTrue_and_nil e
 | false=>exact e
theorem vz(ha:PT X a tA):PW X (.BoolOp .Or [a] pos) tA:=by
 intro wh pins s σ H Q I h
 refine isTrue_or (thn (ha pins s σ H Q I h) fun c s1 e=>?_)
 cases c with
 | false=>exact isTrue_or_nil e
 | true=>exact e
theorem KK(ha:PT X a tA)(hb:PW X (.BoolOp .And (b::rest) pos) tB'):PW X (.BoolOp .And (a::b::rest) pos) (zbZ tA tB'):=by
 intro wh pins s σ H Q I h
 refine isTrue_and (thn (ha pins s σ H _ I h) fun c s1 ⟨H1,I1,q1⟩=>?_)
 cases c with
 | true=>exact hb wh pins s1 σ H1 Q I1 q1
 | false=>exact⟨H1,I1,q1⟩
theorem vt(ha:PT X a tA)(hb:PW X (.BoolOp .Or (b::rest) pos) tB'):PW X (.BoolOp .Or (a::b::rest) pos) (tOr tA tB'):=by
 intro wh pins s σ H Q I h
 refine isTrue_or (thn (ha pins s σ H _ I h) fun c s1 ⟨H1,I1,q1⟩=>?_)
 cases c with
 | true=>exact⟨H1,I1,q1⟩
 | false=>exact hb wh pins s1 σ H1 Q I1 q1
theorem yn(ha:PT X a tA):PT X (.UnaryOp .Not a pos) (zaG tA):=by
 intro pins s σ H Q I h
 exact isTrue_not (ha pins s σ H (fun c H1=>Q (!c) H1) I h)
noncomputable def zal(ta tb:TE):TE:=fun σ H Q=>ta σ H fun x H1=>∃ c,x=.bl c/\if c=true then tb σ H1 Q else Q (.bl false) H1
noncomputable def zbm(ta tb:TE):TE:=fun σ H Q=>ta σ H fun x H1=>∃ c,x=.bl c/\if c=true then Q (.bl true) H1 else tb σ H1 Q
noncomputable def Ji(ta:TE):TE:=fun σ H Q=>ta σ H fun x H1=>∃ c,x=.bl c/\Q (.bl (!c)) H1
theorem Qt{op}{t:TE}(h:PE X a t):PE X (.BoolOp op [a] pos) t:=fun pins s σ H Q I hw=>BoolOp_one (h pins s σ H Q I hw)
theorem zan(ha:PE X a ta)(hb:PE X (.BoolOp .And (b::rest) pos) tb):PE X (.BoolOp .And (a::b::rest) pos) (zal ta tb):=by
 intro pins s σ H Q I h
 refine BoolOp_and (thn (ha pins s σ H _ I h) fun v s1 ⟨x,H1,I1,r1,q1⟩=>?_)
 obtain⟨c,rfl,q1⟩:=q1
 cases r1
 refine wpAny_truthy_bool ?_
 cases c with
 | true=>exact hb pins s1 σ H1 Q I1 q1
 | false=>exact⟨.bl false,H1,I1,rfl,q1⟩
theorem zby(ha:PE X a ta)(hb:PE X (.BoolOp .Or (b::rest) pos) tb):PE X (.BoolOp .Or (a::b::rest) pos) (zbm ta tb):=by
 intro pins s σ H Q I h
 refine BoolOp_or (thn (ha pins s σ H _ I h) fun v s1 ⟨x,H1,I1,r1,q1⟩=>?_)
 obtain⟨c,rfl,q1⟩:=q1
 cases r1
 refine wpAny_truthy_bool ?_
 cases c with
 | false=>exact hb pins s1 σ H1 Q I1 q1
 | true=>exact⟨.bl true,H1,I1,rfl,q1⟩
theorem QG(ha:PE X a ta):PE X (.UnaryOp .Not a pos) (Ji ta):=by
 intro pins s σ H Q I h
 refine UnaryOp_ (thn (ha pins s σ H _ I h) fun v s1 ⟨x,H1,I1,r1,q1⟩=>?_)
 obtain⟨c,rfl,q1⟩:=q1
 cases r1
 exact not_of (wpAny_truthy_bool ⟨.bl (!c),H1,I1,rfl,q1⟩)
noncomputable def tIf(t:TT)(ta tb:TE):TE:=fun σ H Q=>t σ H fun c H1=>if c=true then ta σ H1 Q else tb σ H1 Q
theorem kC{c:Expr}(hc:PT X c tA)(ha:PE X a ta)(hb:PE X b tb):PE X (.IfExp c a b pos) (tIf tA ta tb):=by
 intro pins s σ H Q I h
 refine wpAny_IfExp (thn (hc pins s σ H _ I h) fun d s1 ⟨H1,I1,q1⟩=>?_)
 cases d with
 | true=>exact ha pins s1 σ H1 Q I1 q1
 | false=>exact hb pins s1 σ H1 Q I1 q1
end
end L2
namespace L2
noncomputable def SqL(K:ot)(H:Hp)(a:Addr)(xs:List V):Prop :=
 Rd H a (.lst xs) \/
  ∃(o:Obj) (its:Array Value) (n:Nat),K.lookup a=some o/\o.cls=.type "list"/\o.dict=none/\o.data=.seq its n/\its.size<=oq/\Vals xs its.toList
noncomputable def SqT(K:ot)(H:Hp)(a:Addr)(xs:List V):Prop :=
 Rd H a (.tup xs) \/
  ∃(o:Obj) (its:Array Value) (n:Nat),K.lookup a=some o/\o.cls=.type "tuple"/\o.data=.seq its n/\its.size<=oq/\Vals xs its.toList
noncomputable def zce:Value->Option V
 | .none=>some .non
 | .bool b=>some (.bl b)
 | .int i _=>some (.int i)
 | .str x _=>some (.str x)
 | .bytes b _=>some (.byt b)
 | .float b _=>some (.flt b)
 | .ref a=>some (.ref a)
 | .type n=>some (.ty n)
 | _=>none
theorem RelV.abs{x:V}{u:Value}(r:RelV x u):zce u=some x:=by
 cases x with
 | non=>cases r;rfl
 | bl _=>cases r;rfl
 | int _=>obtain⟨t,rfl⟩:=r;rfl
 | str _=>obtain⟨t,rfl⟩:=r;rfl
 | byt _=>obtain⟨t,rfl⟩:=r;rfl
 | flt _=>obtain⟨t,rfl⟩:=r;rfl
 | ref _=>cases r;rfl
 | ty _=>cases r;rfl
theorem RelV.inj{x y:V}{u:Value}(r:RelV x u)(q:RelV y u):x=y:=Option.some.inj (r.abs.symm.trans q.abs)
theorem Vals.inj:∀{xs ys:List V} {us:List Value},Vals xs us->Vals ys us->xs=ys
 | _,_,_,.nil,.nil=>rfl
 | _,_,_,.cons r t,.cons r' t'=>by rw[r.inj r',Vals.inj t t']
section
variable{X:Cx}{pins:List (Addr × Obj)}{σ:St}{H:Hp}{s:Shared}{a:Addr}{xs ys:List V}
theorem SqL.of{K:ot}(h:H a=some (.lst xs)):SqL K H a xs:=.inl (.inl h)
theorem SqT.of{K:ot}(h:H a=some (.tup xs)):SqT K H a xs:=.inl (.inl h)
theorem Inv.list(I:Inv X pins σ H s)(h:SqL X.K H a xs):∃ its:List Value,Vals xs its/\PlainL s.heap a its.toArray/\xs.length<=oq:=by
 rcases h with h | ⟨o,its,n,hk,hc,hd,hs,hz,r⟩
 ·obtain⟨z,its,n,r,e⟩:=h.ok I.hok
  exact⟨its,r,⟨_,n,e,rfl,rfl,rfl⟩,z⟩
 ·refine⟨its.toList,r,⟨o,n,I.kIn a o hk,hc,hd,by simpa using hs⟩,?_⟩
  have e:=r.length
  simp only[dA] at e
  lia
theorem Inv.tuple(I:Inv X pins σ H s)(h:SqT X.K H a xs):∃ its:List Value,Vals xs its/\IsTup s.heap a its.toArray/\xs.length<=oq:=by
 rcases h with h | ⟨o,its,n,hk,hc,hs,hz,r⟩
 ·obtain⟨z,its,r,p⟩:=h.ok I.hok
  exact⟨its,r,p,z⟩
 ·refine⟨its.toList,r,⟨o,I.kIn a o hk,hc,n,by simpa using hs⟩,?_⟩
  have e:=r.length
  simp only[dA] at e
  lia
theorem Inv.list_inj(I:Inv X pins σ H s)(h:SqL X.K H a xs)(h':SqL X.K H a ys):xs=ys:=by
 obtain⟨its,r,⟨o,n,e,_,_,d⟩,_⟩:=I.list h
 obtain⟨its',r',⟨o',n',e',_,_,d'⟩,_⟩:=I.list h'
 rw[e] at e';cases e'
 rw[d] at d'
 injection d' with d1 _
 have:its=its':=by simpa using congrArg Array.toList d1
 subst this
 exact r.inj r'
theorem Inv.tuple_inj(I:Inv X pins σ H s)(h:SqT X.K H a xs)(h':SqT X.K H a ys):xs=ys:=by
 obtain⟨its,r,⟨o,e,_,n,d⟩,_⟩:=I.tuple h
 obtain⟨its',r',⟨o',e',_,n',d'⟩,_⟩:=I.tuple h'
 rw[e] at e';cases e'
 rw[d] at d'
 injection d' with d1 _
 have:its=its':=by simpa using congrArg Array.toList d1
 subst this
 exact r.inj r'
end
noncomputable abbrev Cx.wish(X:Cx)(E:Value->Shared->Prop):Cx:={ X with xe:=E }
noncomputable abbrev Cx.nox(X:Cx):Cx:=X.wish fun _ _=>False
theorem Cx.Ok.wish{X:Cx}(ok:X.Ok)(E:Value->Shared->Prop):(X.wish E).Ok :=
 ⟨ok.mod,ok.kind,ok.glob,ok.blt,ok.above,ok.inj,ok.has,ok.cab,ok.hd,ok.frames,ok.stk,ok.exf,ok.bs,ok.bsz,ok.noex,ok.exfs,ok.funs,ok.frf⟩
theorem Cx.Ok.unwish{X:Cx}{E:Value->Shared->Prop}(ok:(X.wish E).Ok):X.Ok :=
 ⟨ok.mod,ok.kind,ok.glob,ok.blt,ok.above,ok.inj,ok.has,ok.cab,ok.hd,ok.frames,ok.stk,ok.exf,ok.bs,ok.bsz,ok.noex,ok.exfs,ok.funs,ok.frf⟩
section
variable{X:Cx}{pins:List (Addr × Obj)}{σ:St}{H:Hp}{s:Shared}{E:Value->Shared->Prop}
theorem Inv.wish(I:Inv X pins σ H s)(E:Value->Shared->Prop):Inv (X.wish E) pins σ H s:=⟨I.ok.wish E,I.os,I.bare,I.base,I.loc,I.cell,I.free,I.freeC,I.pin,I.hok,I.len⟩
theorem Inv.unwish(I:Inv (X.wish E) pins σ H s):Inv X pins σ H s:=⟨I.ok.unwish,I.os,I.bare,I.base,I.loc,I.cell,I.free,I.freeC,I.pin,I.hok,I.len⟩
theorem SP.unwish{D:vh}{f:Flow}{s':Shared}(h:SP (X.wish E) pins D f s'):SP X pins D f s':=by
 cases f with
 | next=>obtain⟨σ',H',I,q⟩:=h;exact⟨σ',H',I.unwish,q⟩
 | brk=>obtain⟨σ',H',I,q⟩:=h;exact⟨σ',H',I.unwish,q⟩
 | cont=>obtain⟨σ',H',I,q⟩:=h;exact⟨σ',H',I.unwish,q⟩
 | ret u=>obtain⟨v,σ',H',I,r,q⟩:=h;exact⟨v,σ',H',I.unwish,r,q⟩
theorem PSs.nox{st:List Stmt}{t:TS}(h:PSs X.nox st t):PSs X st t:=fun pins s σ H D I hw =>
 wpAny_mono (h pins s σ H D (I.wish _) hw) (fun _ _ q=>q.unwish) fun _ _ z=>False.elim z
end
section
variable{X:Cx}{st:Stmt}{rest:List Stmt}{t u:TS}{e:Expr}{te:TE}{pos:Pos}
noncomputable def Ky:TS:=fun D σ H=>D.nx σ H
noncomputable def zbS(t u:TS):TS:=fun D σ H=>t { D with nx:=u D } σ H
theorem zC:PSs X [] Ky:=fun _ _ σ H _ I h=>wpAny_execs_nil ⟨σ,H,I,h⟩
theorem zM(h1:PS X st t)(h2:PSs X rest u):PSs X (st::rest) (zbS t u):=by
 intro pins s σ H D I h
 refine wpAny_execs_cons (thn (h1 pins s σ H { D with nx:=u D } I h) fun f s1 q=>?_)
 cases f with
 | next =>
  obtain⟨σ',H',I',q⟩:=q
  exact h2 pins s1 σ' H' D I' q
 | ret v=>exact q
 | brk=>exact q
 | cont=>exact q
theorem zh(h1:PS X st t):PSs X [st] t:=by
 intro pins s σ H D I h
 refine wpAny_execs_cons (thn (h1 pins s σ H D I h) fun f s1 q=>?_)
 cases f with
 | next=>exact wpAny_execs_nil q
 | ret v=>exact q
 | brk=>exact q
 | cont=>exact q
noncomputable def KI:TS:=fun D σ H=>D.bk σ H
noncomputable def zbp:TS:=fun D σ H=>D.ct σ H
theorem Inv.quiet{pins:List (Addr × Obj)}{σ:St}{H:Hp}{s:Shared}(I:Inv X pins σ H s):interactive X.env=false:=by simp [interactive,I.ok.kind]
noncomputable def Kt(te:TE):TS:=fun D σ H=>te σ H fun _ H1=>D.nx σ H1
theorem vJ(he:PE X e te)(hs:swapsWith e none pos.line X.env=pure false:=by rfl):PS X (.Expr e pos) (Kt te):=by
 intro pins s σ H D I h
 exact wpAny_Expr_any (thn (he pins s σ H _ I h) fun v s1 ⟨x,H1,I1,r1,q1⟩=>⟨σ,H1,I1,q1⟩) I.quiet hs
noncomputable def zaF(te:TE):TS:=fun D σ H=>te σ H D.rt
theorem zu(he:PE X e te):PS X (.Return (some e) pos) (zaF te):=by
 intro pins s σ H D I h
 exact wpAny_Return_some (thn (he pins s σ H _ I h) fun v s1 ⟨x,H1,I1,r1,q1⟩=>⟨x,σ,H1,I1,r1,q1⟩)
noncomputable def zbu:TS:=fun D _ H=>D.rt .non H
noncomputable def zbT(c:TT)(t u:TS):TS:=fun D σ H=>c σ H fun b H1=>if b=true then t D σ H1 else u D σ H1
theorem zZ{c:Expr}{a b:List Stmt}{tc:TT}(hc:PT X c tc)(ha:PSs X a t)(hb:PSs X b u):PS X (.If c a b pos) (zbT tc t u):=by
 intro pins s σ H D I h
 refine wpAny_If (thn (hc pins s σ H _ I h) fun d s1 ⟨H1,I1,q1⟩=>?_)
 cases d with
 | true=>exact ha pins s1 σ H1 D I1 q1
 | false=>exact hb pins s1 σ H1 D I1 q1
end
noncomputable abbrev TG:=V->St->Hp->(St->Hp->Prop)->Prop
noncomputable abbrev TGs:=List V->St->Hp->(St->Hp->Prop)->Prop
noncomputable def PG(X:Cx)(target:Expr)(t:TG):Prop :=
 ∀(pins:List (Addr × Obj)) (s:Shared) (σ:St) (H:Hp) (v:V) (u:Value) (Q:St->Hp->Prop),Inv X pins σ H s->RelV v u->t v σ H Q ->
  wpAny (model X.prog X.w) X.A (assign target X.env u) (fun _ s'=>∃ σ' H',Inv X pins σ' H' s'/\Q σ' H') X.xe s
noncomputable def PGs(X:Cx)(ts:List Expr)(t:TGs):Prop :=
 ∀(pins:List (Addr × Obj)) (s:Shared) (σ:St) (H:Hp) (vs:List V) (us:List Value) (Q:St->Hp->Prop),Inv X pins σ H s->Vals vs us->t vs σ H Q ->
  wpAny (model X.prog X.w) X.A (assignInOrder ((assignEach ts X.env).map (·.2)) us) (fun _ s'=>∃ σ' H',Inv X pins σ' H' s'/\Q σ' H') X.xe s
noncomputable abbrev zbh:=V->V->V->Hp->(Hp->Prop)->Prop
noncomputable def zcc(X:Cx)(t:zbh):Prop :=
 ∀(pins:List (Addr × Obj)) (s:Shared) (σ:St) (H:Hp) (o i v:V) (ov iv u:Value) (Q:Hp->Prop),Inv X pins σ H s->RelV o ov->RelV i iv->RelV v u->t o i v H Q ->
  wpAny (model X.prog X.w) X.A (setItem ov iv u) (fun _ s'=>∃ H',Inv X pins σ H' s'/\Q H') X.xe s
section
variable{X:Cx}{pos:Pos}
noncomputable def xK(i:Nat):TG:=fun v σ H Q=>Q (σ.set i (some v)) H
theorem zA{i:Nat}{x:Str}(hN:X.N.Nodup)(hi:X.N[i]? = some x)(hx:Loc X.env.scope x)(hf:X.fn x=true\/X.env.scope.names.lookup x=some .local:=by first | exact .inl rfl | exact .inr rfl | assumption):PG X (.Name x pos) (xK i):=by
 intro pins s σ H v u Q I r h
 exact wpAny_assign_Name (kg I hN hi hx r (fun s' I'=>⟨_,H,I',h⟩) hf)
noncomputable def Kh:TGs:=fun vs σ H Q=>vs=[]/\Q σ H
noncomputable def jS(t:TG)(u:TGs):TGs:=fun vs σ H Q=>∃ v r,vs=v::r/\t v σ H fun σ' H'=>u r σ' H' Q
theorem wd:PGs X [] Kh:=by
 intro pins s σ H vs us Q I r h
 obtain⟨e,h⟩:=h
 subst e
 cases r
 exact assignInOrder_nil ⟨σ,H,I,h⟩
theorem zU{e:Expr}{es:List Expr}{t:TG}{u:TGs}(h1:PG X e t)(h2:PGs X es u)
  (hs:(assignEach (e::es) X.env).map (·.2)=assign e X.env::(assignEach es X.env).map (·.2):=by rfl):PGs X (e::es) (jS t u):=by
 intro pins s σ H vs us Q I r h
 obtain⟨v,vr,e1,h⟩:=h
 subst e1
 cases r with
 | cons r rr =>
  rw[hs]
  refine assignInOrder_cons (thn (h1 pins s σ H _ _ _ I r h) fun _ s1 ⟨σ1,H1,I1,q1⟩=>?_)
  exact h2 pins s1 σ1 H1 _ _ Q I1 rr q1
noncomputable def Kf(K:ot)(n:Nat)(t:TGs):TG:=fun v σ H Q=>∃ a xs,v=.ref a/\SqT K H a xs/\xs.length=n/\t xs σ H Q
theorem vD{es:List Expr}{k:Nat}{t:TGs}{n:Nat}(hc:X.calm=true)(h:PGs X es t)
  (hn:(assignEach es X.env).length=n:=by rfl) (hst:(assignEach es X.env).findIdx? (·.1)=none:=by rfl):PG X (.Tuple es k pos) (Kf X.K n t):=by
 intro pins s σ H v u Q I r hw
 obtain⟨a,xs,e1,hq,hl,hw⟩:=hw
 subst e1
 cases r
 obtain⟨its,rv,ht,hz⟩:=I.tuple hq
 refine assign_Tuple_tuple (I.ok.hd hc) ht (by simp [hn,<- hl,rv.length]) hst fun h' hx=>?_
 have I1:Inv X pins σ H { s with heap:=h' }:=I.kept (t':=s.toks) fun b o e=>hx b o (aA (av e)) e
 exact h pins _ σ H xs _ Q I1 (by simpa using rv) hw
noncomputable def zbQ(to ti:TE)(t:zbh):TG:=fun v σ H Q=>to σ H fun o H1=>ti σ H1 fun i H2=>t o i v H2 fun H3=>Q σ H3
theorem Kp{o i:Expr}{to ti:TE}{t:zbh}(ho:PE X o to)(hi:PE X i ti)(hs:zcc X t)
  (ha:∀ v,assign (.Subscript o i pos) X.env v=(do
   let ov <- holding [v] (eval o X.env)
   let iv <- holding [v,ov] (eval i X.env)
   standAt pos
   holding [v,ov,iv] (setItem ov iv v)
   release [v,ov,iv] []):=by intro _;rfl):PG X (.Subscript o i pos) (zbQ to ti t):=by
 intro pins s σ H v u Q I r h
 rw[ha]
 refine oh (wpAny_holding (thn (ho pins s σ H _ I h) fun ov s1 ⟨x,H1,I1,r1,q1⟩=>?_))
 refine oh (wpAny_holding (thn (hi pins s1 σ H1 _ I1 q1) fun iv s2 ⟨y,H2,I2,r2,q2⟩=>?_))
 refine oh (wpAny_standAt (oh (wpAny_holding (thn (hs pins s2 σ H2 x y v ov iv u _ I2 r1 r2 r q2) fun _ s3 ⟨H3,I3,q3⟩=>?_))))
 exact wpAny_release ⟨σ,H3,I3,q3⟩
noncomputable def zaZ(te:TE)(g:TG):TS:=fun D σ H=>te σ H fun x H1=>g x σ H1 D.nx
theorem Qu{tg e:Expr}{te:TE}{g:TG}(he:PE X e te)(hg:PG X tg g)(hs:swapsWithSole [tg] e pos.line X.env=pure false:=by rfl)(hw:swappedStores [tg] e X.env=pure none:=by rfl)
  (h1:(assignEach [tg] X.env).map (·.2)=[assign tg X.env]:=by rfl):PS X (.Assign [tg] e pos) (zaZ te g):=by
 intro pins s σ H D I h
 refine wpAny_Assign_stores (thn (he pins s σ H _ I h) fun v s1 ⟨x,H1,I1,r1,q1⟩=>?_) hs hw
 rw[h1]
 exact thn (hg pins s1 σ H1 x v _ I1 r1 q1) fun _ s2 q=>q
theorem zx{i:Nat}{x:Str}{e:Expr}{te:TE}{pos':Pos}(hN:X.N.Nodup)(hi:X.N[i]? = some x)(hx:Loc X.env.scope x)(he:PE X e te)(hs:swapsWith e (some (.Name x pos')) pos.line X.env=pure false:=by rfl)(hf:X.fn x=true\/X.env.scope.names.lookup x=some .local:=by first | exact .inl rfl | exact .inr rfl | assumption) :
  PS X (.Assign [.Name x pos'] e pos) (zaZ te (xK i)):=by
 intro pins s σ H D I h
 refine wpAny_Assign_Name (thn (he pins s σ H _ I h) fun v s1 ⟨y,H1,I1,r1,q1⟩=>?_) hs
 exact kg I1 hN hi hx r1 (fun s2 I2=>⟨_,H1,I2,q1⟩) hf
noncomputable def zcF(i j:Nat)(ta:TA):TS:=fun D σ H=>ta σ H fun vs H1=>∃ v w,vs=[v,w]/\D.nx ((σ.set i (some v)).set j (some w)) H1
end
section
variable{X:Cx}{pos:Pos}
noncomputable def X9(c:TT)(tb:TS):TS:=fun D σ H=>∃ W:Nat->St->Hp->Prop,(∃ m,W m σ H)/\∀ m σ H,W m σ H ->
 c σ H fun b H1=>if b=true then ∃ N:St->Hp->Prop,(∀ σ' H',N σ' H'->∃ m',m'<m/\W m' σ' H')/\tb { D with nx:=N,ct:=N,bk:=D.nx } σ H1 else D.nx σ H1
theorem Y0{c:Expr}{body:List Stmt}{tc:TT}{tb:TS}(hp:PassesOwn (model X.prog X.w) X.A X.env X.xe)(hc:PT X c tc)(hb:PSs X body tb):PS X (.While c body [] pos) (X9 tc tb):=by
 intro pins s σ H D I h
 obtain⟨W,⟨m0,w0⟩,turn⟩:=h
 refine wpAny_While (codeAny_whileLoop (fun n s'=>∃ σ' H',Inv X pins σ' H' s'/\W n σ' H') ?_ m0 ⟨σ,H,I,w0⟩)
 rintro n s1 ⟨σ1,H1,I1,w1⟩
 refine wpAny_passesOwn hp (thn (hc pins s1 σ1 H1 _ I1 (turn n σ1 H1 w1)) fun b s2 ⟨H2,I2,q2⟩=>?_)
 cases b with
 | true =>
  obtain⟨N,hN,q2⟩:=q2
  rw[if_pos rfl]
  refine wpAny_passesOwn hp (thn (hb pins s2 σ1 H2 _ I2 q2) fun f s3 q3=>?_)
  cases f with
  | next =>
   obtain⟨σ3,H3,I3,n3⟩:=q3
   obtain⟨m',hm,w3⟩:=hN σ3 H3 n3
   exact⟨m',hm,σ3,H3,I3,w3⟩
  | cont =>
   obtain⟨σ3,H3,I3,n3⟩:=q3
   obtain⟨m',hm,w3⟩:=hN σ3 H3 n3
   exact⟨m',hm,σ3,H3,I3,w3⟩
  | brk=>exact q3
  | ret v=>exact q3
 | false =>
  rw[if_neg aC]
  exact wpAny_execs_nil ⟨σ1,H2,I2,q2⟩
end
structure It where
 go:Nat->Hp->Prop
 yld:Nat->Hp->V->Hp->Prop
 stop:Nat->Hp->Prop
noncomputable def xH(X:Cx)(pins:List (Addr × Obj))(H:Hp)(b:Addr):Prop :=
 H b=none/\b≠X.env.locals/\b ∉ X.fs/\(b ∈ X.ex\/X.s₀.heap.objs.size<=b)/\(∀ x c,X.env.cells.lookup x=some c->c≠b)/\∀ p ∈ X.pn ++ pins,p.1≠b
theorem Inv.fpOk{X:Cx}{pins:List (Addr × Obj)}{σ:St}{H H':Hp}{s:Shared}{b:Addr}(I:Inv X pins σ H s)(hb:s.heap.objs.size<=b)(hn:H' b=none):xH X pins H' b:=by
 refine⟨hn,bR (az I.lt hb),I.nofs hb,.inr (aQ I.sz hb),fun x c e z=>?_,fun p hp z=>?_⟩
 ·obtain⟨v,q⟩:=I.cell x c e
  exact absurd (az q.lt (by rw[z];exact hb)) (cr _)
 ·exact absurd (az (av (I.pin p hp).1) (by rw[z];exact hb)) (cr _)
structure Us(P:Program)(w:World)(K:ot)(tg:Expr)(J:It)(fp:List Addr)(it:Addr)(tn:Nat->Heap->Prop):Prop where
 mem:it ∈ fp
 obj:∀ i h,tn i h->∀ b ∈ fp,∃ o,h.get? b=some o/\∀ v,o.data≠.cell v
 keep:∀ i h h',tn i h->(∀ b ∈ fp,∀ o,h.get? b=some o->h'.get? b=some o)->tn i h'
 item:∀(X:Cx),X.prog=P->X.w=w->X.K=K->X.calm=true->∀(i:Nat) (pins:List (Addr × Obj)) (s:Shared) (σ:St) (H:Hp) (E:Value->Shared->Prop),Inv X pins σ H s->(∀ b ∈ fp,xH X pins H b)->tn i s.heap->J.go i H ->
  wpAny (model P w) X.A (pyNext (.ref it)) (fun r s1=>∃ u,r=some u /\
   wpAny (model P w) X.A (letOwnedTupleGo tg (.ref it) u) (fun _ s2=>∃ x H',Inv X pins σ H' s2/\RelV x u/\J.yld i H x H'/\tn (i+1) s2.heap/\∀ b ∈ fp,H' b=none) E s1) E s
 done:∀(X:Cx),X.prog=P->X.w=w->X.K=K->X.calm=true->∀(i:Nat) (pins:List (Addr × Obj)) (s:Shared) (σ:St) (H:Hp) (E:Value->Shared->Prop),Inv X pins σ H s->(∀ b ∈ fp,xH X pins H b)->tn i s.heap->J.stop i H ->
  wpAny (model P w) X.A (pyNext (.ref it)) (fun r s1=>r=none/\Inv X pins σ H s1) E s
 self:∀(A:Around) (i:Nat) (s:Shared) (Q:Value->Shared->Prop) (E:Value->Shared->Prop),tn i s.heap->Q (.ref it) s->wpAny (model P w) A (pyIter (.ref it)) Q E s
noncomputable abbrev TI:=St->Hp->(It->Hp->Prop)->Prop
noncomputable def PIE(X:Cx)(pins:List (Addr × Obj))(σ:St)(tg:Expr)(R:It->Hp->Prop)(itv:Value)(s2:Shared):Prop :=
 ∃(it:Addr) (fp:List Addr) (tn:Nat->Heap->Prop) (J:It) (H':Hp),itv=.ref it/\Inv X pins σ H' s2/\Us X.prog X.w X.K tg J fp it tn/\tn 0 s2.heap/\(∀ b ∈ fp,xH X pins H' b)/\R J H'
noncomputable def PI(X:Cx)(tg iter:Expr)(wi:TI):Prop :=
 ∀(pins:List (Addr × Obj)) (s:Shared) (σ:St) (H:Hp) (R:It->Hp->Prop),Inv X pins σ H s->wi σ H R ->
  wpAny (model X.prog X.w) X.A (eval iter X.env) (fun v s1=>wpAny (model X.prog X.w) X.A (pyIter v) (PIE X pins σ tg R) X.xe s1) X.xe s
theorem V1{M:Model}{A:Around}{E:Value->Shared->Prop}{s:Shared}{tg:Expr}{it:Addr}{u:Value}{o:Obj}{n:String}{vs:Array Value}{Q:Unit->Shared->Prop}(ho:s.heap.get? it=some o)(hc:o.cls=.type n)(hd:o.data=.fields vs)
    (hn:["enumerate","zip","dict_itemiterator","dict_reverseitemiterator","odict_iterator","itertools.zip_longest","itertools.pairwise"].contains n=false) (hQ:Q () s):wpAny M A (letOwnedTupleGo tg (.ref it) u) Q E s:=by
  unfold letOwnedTupleGo
  cases tg <;> first
    | exact oj hQ
    | (cases u <;> first
        | exact oj hQ
        | (refine oh (wpAny_load ho ?_)
           rw[hc,hd]
           show wpAny M A (if (["enumerate","zip","dict_itemiterator","dict_reverseitemiterator","odict_iterator","itertools.zip_longest","itertools.pairwise"].contains n && vs[0]? == some (rawInt _))=true then _ else _) Q E s
           rw[if_neg (by intro h;rw[hn,Bool.false_and] at h;cases h)]
           exact oj hQ))
noncomputable def Itl(K:ot)(a:Addr):It :=
 ⟨fun i H=>∃ xs x,SqL K H a xs/\xs[i]? = some x,fun i H x H'=>H'=H/\∀ xs,SqL K H a xs->xs[i]? = some x,fun i H=>∃ xs,SqL K H a xs/\xs.length<=i⟩
noncomputable def Itt(K:ot)(a:Addr):It :=
 ⟨fun i H=>∃ xs x,SqT K H a xs/\xs[i]? = some x,fun i H x H'=>H'=H/\∀ xs,SqT K H a xs->xs[i]? = some x,fun i H=>∃ xs,SqT K H a xs/\xs.length<=i⟩
noncomputable def Itr(lo:Int)(n:Nat):It:=⟨fun i _=>i<n,fun i H x H'=>H'=H/\x=.int (lo+i),fun i _=>n<=i⟩
theorem Vw{P:Program}{w:World}{K:ot}{tg:Expr}(a it:Addr):Us P w K tg (Itl K a) [it] it (fun i h=>h.IsListIter it a i) where
 mem:=by simp
 obj:=fun i h st b hb=>by
  have e:b=it:=by simpa using hb
  subst e
  obtain⟨o,e,c,d⟩:=st
  exact⟨o,e,fun v z=>by rw[d] at z;cases z⟩
 keep:=fun i h h' st k=>st.at fun o e=>k it (by simp) o e
 item:=by
  intro X hP hw hK hc i pins s σ H E I hf st hg
  subst hP hw hK
  obtain⟨xs,x,hq,hx⟩:=hg
  obtain⟨its,rv,p,hz⟩:=I.list hq
  obtain⟨u,hu,ru⟩:=rv.get hx
  obtain⟨f0,f1,f2,f3,f4,f5⟩:=hf it (by simp)
  refine wpAny_pyNext_list_item st p.isList (x:=u) (by simpa using hu) fun h' st' sb=>?_
  have I1:Inv X pins σ H { s with heap:=h' }:=I.turned (t':=s.toks) (fun b o hb e=>(sb.2 b hb).trans e) f0 f1 f3 f4 f5
  obtain⟨o,e,c,d⟩:=id st'
  exact⟨u,rfl,V1 (s:={ s with heap:=h' }) e c d (by decide) ⟨x,H,I1,ru,⟨rfl,fun ys hy=>by rw[I.list_inj hy hq];exact hx⟩,st',fun b hb=>(hf b hb).1⟩⟩
 done:=by
  intro X hP hw hK hc i pins s σ H E I hf st hg
  subst hP hw hK
  obtain⟨xs,hq,hx⟩:=hg
  obtain⟨its,rv,p,hz⟩:=I.list hq
  obtain⟨f0,f1,f2,f3,f4,f5⟩:=hf it (by simp)
  have hl:=rv.length
  exact wpAny_pyNext_list_end (I.ok.hd hc) st p.isList (by simp;lia) fun h' eb=>⟨rfl,I.turned (t':=s.toks) (fun b o hb e=>eb b o hb e) f0 f1 f3 f4 f5⟩
 self:=fun _ _ _ _ _ st h=>wpAny_pyIter_listiter st h
theorem Xm{P:Program}{w:World}{K:ot}{tg:Expr}(it:Addr)(lo:Int)(n:Nat):Us P w K tg (Itr lo n) [it] it (fun i h=>IsRangeIter h it (lo+(i:Nat) * 1) ((n:Int) - (i:Nat)) 1) where
 mem:=by simp
 obj:=fun i h st b hb=>by
  have e:b=it:=by simpa using hb
  subst e
  exact⟨_,st,fun v z=>by
   have z':Data.fields _=Data.cell v:=z
   cases z'⟩
 keep:=fun i h h' st k=>k it (by simp) _ st
 item:=by
  intro X hP hw hK hc i pins s σ H E I hf st hg
  subst hP hw hK
  obtain⟨f0,f1,f2,f3,f4,f5⟩:=hf it (by simp)
  have W:=Walks.range (prog:=X.prog) (w:=X.w) (I.ok.hd hc) it lo 1 n
  refine W.item i s _ _ hg st fun v h' tk hv st' kk=>?_
  obtain⟨t,rfl⟩:=hv
  have I1:Inv X pins σ H { s with heap:=h',toks:=tk }:=I.turned (fun b o hb e=>kk b o (by simpa using hb) e) f0 f1 f3 f4 f5
  refine⟨_,rfl,V1 (s:={ s with heap:=h',toks:=tk }) (n:="range_iterator") st' rfl rfl (by decide) ⟨.int (lo+i),H,I1,⟨t,?_⟩,⟨rfl,rfl⟩,st',fun b hb=>(hf b hb).1⟩⟩
  rw[Int.mul_one]
 done:=by
  intro X hP hw hK hc i pins s σ H E I hf st hg
  subst hP hw hK
  obtain⟨f0,f1,f2,f3,f4,f5⟩:=hf it (by simp)
  exact wpAny_pyNext_range_end (I.ok.hd hc) st (by have:n<=i:=hg;lia) fun h' eb=>⟨rfl,I.turned (t':=s.toks) (fun b o hb e=>eb b o hb e) f0 f1 f3 f4 f5⟩
 self:=fun _ _ _ _ _ st h=>wpAny_pyIter_rangeiter st h
end L2
namespace L2
section
variable{X:Cx}{tg:Expr}
noncomputable def Q9(K:ot)(tl:TE):TI:=fun σ H R=>tl σ H fun x H1=>∃ a,x=.ref a/\(∃ xs,SqL K H1 a xs)/\R (Itl K a) H1
noncomputable def zcu(K:ot)(tl:TE):TI:=fun σ H R=>tl σ H fun x H1=>∃ a,x=.ref a/\(∃ xs,SqT K H1 a xs)/\R (Itt K a) H1
theorem yI{l:Expr}{tl:TE}(hl:PE X l tl):PI X tg l (Q9 X.K tl):=by
 intro pins s σ H R I h
 refine thn (hl pins s σ H _ I h) fun v s1 ⟨x,H1,I1,r1,q1⟩=>?_
 obtain⟨a,e,⟨xs,hq⟩,q⟩:=q1
 subst e
 cases r1
 obtain⟨its,rv,p,hz⟩:=I1.list hq
 refine wpAny_pyIter_list p.isList ?_
 refine⟨s1.heap.objs.size,[s1.heap.objs.size],_,_,H1,rfl,I1.kept (t':=s1.toks) fun b o e=>aa _ e,Vw a _,⟨_,aF _ rfl,rfl,rfl⟩,fun b hb=>?_,q⟩
 have e:b=s1.heap.objs.size:=by simpa using hb
 subst e
 exact I1.fpOk (aq _) (I1.hok.fresh (aq _))
theorem YA{pins:List (Addr × Obj)}{σ:St}{H:Hp}{s:Shared}{R:It->Hp->Prop}{E:Value->Shared->Prop}{lo hi:Int}{t u v:Tok}{tk:Nat}(I:Inv X pins σ H s)(h1:-(2 ^ 62)<=lo)(h2:lo<2 ^ 62)(h3:-(2 ^ 62)<=hi)(h4:hi<2 ^ 62)
  (q:R (Itr lo (hi - lo).toNat) H):wpAny (model X.prog X.w) X.A (pyIter (.ref s.heap.objs.size)) (PIE X pins σ tg R) E { s with heap:=s.heap.push { cls:=.type "range",data:=.fields #[.int lo t,.int hi u,.int 1 v] },toks:=tk }:=by
 refine wpAny_pyIter_range (IsRange.new ..) (small_one h1 h2 h3 h4) ?_
 have I1:Inv X pins σ H { s with heap:=s.heap.push { cls:=.type "range",data:=.fields #[.int lo t,.int hi u,.int 1 v] },toks:=tk }:=I.kept fun b o e=>aa _ e
 refine⟨(s.heap.push { cls:=.type "range",data:=.fields #[.int lo t,.int hi u,.int 1 v] }).objs.size,[(s.heap.push { cls:=.type "range",data:=.fields #[.int lo t,.int hi u,.int 1 v] }).objs.size],_,_,H,rfl,
  I1.kept (t':=tk) fun b o e=>aa _ e,Xm _ lo (hi - lo).toNat,?_,fun b hb=>?_,q⟩
 ·have e1:lo+((0:Nat):Int) * 1=lo:=by simp
  have e2:(((hi - lo).toNat:Nat):Int) - ((0:Nat):Int)=Builtin.Range.rangeSize lo hi 1:=by rw[rangeSize_one];split <;> lia
  show IsRangeIter _ _ (lo+((0:Nat):Int) * 1) ((((hi - lo).toNat:Nat):Int) - ((0:Nat):Int)) 1
  rw[e1,e2]
  exact aF _ rfl
 ·have e:b=(s.heap.push { cls:=.type "range",data:=.fields #[.int lo t,.int hi u,.int 1 v] }).objs.size:=by simpa using hb
  subst e
  exact I1.fpOk (aq _) (I1.hok.fresh (aq _))
noncomputable def JT(ta:TA):TI:=fun σ H R=>ta σ H fun vs H1=>∃ j:Int,vs=[.int j]/\-(2 ^ 62)<=j/\j<2 ^ 62/\R (Itr 0 j.toNat) H1
noncomputable def zah(ta:TA):TI:=fun σ H R=>ta σ H fun vs H1=>∃ i j:Int,vs=[.int i,.int j]/\(-(2 ^ 62)<=i/\i<2 ^ 62/\-(2 ^ 62)<=j/\j<2 ^ 62)/\R (Itr i (j - i).toNat) H1
theorem x0{a:Expr}{ta:TA}{p pos:Pos}(hg:Gl X "range")(hm:X.mg "range" = none)(ha:PA X [a] ta)(hs:oo [a] X.env=[(false,eval a X.env)]:=by rfl):PI X tg (.Call (.Name "range" p) [a] [] pos) (JT ta):=by
 intro pins s σ H R I h
 refine Call_ (w4 I hg hm boot_range (bn (thn (ha pos pins s σ H _ I h) fun us s1 ⟨vs,H1,I1,r1,q1⟩=>?_) hs rfl))
 obtain⟨j,e,q1,q2,q⟩:=q1
 subst e
 cases r1 with
 | cons r rr =>
  cases rr
  obtain⟨t,rfl⟩:=r
  exact call_range_1 (YA I1 (by lia) (by lia) q1 q2 (by simpa using q))
theorem VE{a b:Expr}{ta:TA}{p pos:Pos}(hg:Gl X "range")(hm:X.mg "range" = none)(ha:PA X [a,b] ta)(hs:oo [a,b] X.env=[(false,eval a X.env),(false,eval b X.env)]:=by rfl)(hs2:oo [b] X.env=[(false,eval b X.env)]:=by rfl) :
  PI X tg (.Call (.Name "range" p) [a,b] [] pos) (zah ta):=by
 intro pins s σ H R I h
 refine Call_ (w4 I hg hm boot_range (bn (thn (ha pos pins s σ H _ I h) fun us s1 ⟨vs,H1,I1,r1,q1⟩=>?_) (by rw[hs,hs2]) (by rw[hs2];rfl)))
 obtain⟨i,j,e,⟨q1,q2,q3,q4⟩,q⟩:=q1
 subst e
 cases r1 with
 | cons r rr =>
  cases rr with
  | cons r' rr =>
   cases rr
   obtain⟨t,rfl⟩:=r
   obtain⟨t',rfl⟩:=r'
   exact call_range_2 (YA I1 q1 q2 q3 q4 q)
noncomputable def VT(wi:TI)(g:TG)(tb:TS):TS:=fun D σ H=>wi σ H fun J H1=>∃ W:Nat->Nat->St->Hp->Prop,(∃ m,W 0 m σ H1)/\∀ i m σ H,W i m σ H ->
 (J.stop i H/\D.nx σ H)\/(J.go i H/\∃ N:St->Hp->Prop,(∀ σ' H',N σ' H'->∃ m',m'<m/\W (i+1) m' σ' H')/\∀ x H',J.yld i H x H'->g x σ H' fun σ2 H2=>tb { D with nx:=N,ct:=N,bk:=D.nx } σ2 H2)
noncomputable def jf(fp:List Addr)(h:Heap):List (Addr × Obj):=fp.filterMap fun b=>(h.get? b).map fun o=>(b,o)
theorem xp{fp:List Addr}{h:Heap}{b:Addr}{o:Obj}(hb:b ∈ fp)(e:h.get? b=some o):(b,o) ∈ jf fp h:=List.mem_filterMap.mpr ⟨b,hb,by rw[e];rfl⟩
theorem Vy{fp:List Addr}{h:Heap}{p:Addr × Obj}(hp:p ∈ jf fp h):p.1 ∈ fp/\h.get? p.1=some p.2:=by
 obtain⟨b,hb,e⟩:=List.mem_filterMap.mp hp
 cases q:h.get? b with
 | none=>rw[q] at e;cases e
 | some o =>
  rw[q] at e
  have e':(b,o)=p:=Option.some.inj e
  subst e'
  exact⟨hb,q⟩
theorem Inv.pinned{pins:List (Addr × Obj)}{σ:St}{H:Hp}{s:Shared}{fp:List Addr}(I:Inv X pins σ H s)(hf:∀ b ∈ fp,xH X pins H b)(ho:∀ b ∈ fp,∃ o,s.heap.get? b=some o/\∀ v,o.data≠.cell v):Inv X (pins ++ jf fp s.heap) σ H s :=
 I.pins_of fun p hp=>(List.mem_append.mp hp).elim (fun z=>I.pin p (aB _ z)) fun z=>by
  obtain⟨hb,e⟩:=Vy z
  obtain⟨f0,f1,f2,_⟩:=hf p.1 hb
  obtain⟨o,e',d⟩:=ho p.1 hb
  rw[e] at e';cases e'
  exact⟨e,f0,f1,f2,d⟩
theorem Inv.unpinned{pins pl:List (Addr × Obj)}{σ:St}{H:Hp}{s:Shared}(I:Inv X (pins ++ pl) σ H s):Inv X pins σ H s:=I.pins_of fun p hp=>I.pin p (aB _ (br _ hp))
theorem yV{iter:Expr}{body:List Stmt}{wi:TI}{g:TG}{tb:TS}{pos:Pos}(hp:PassesOwn (model X.prog X.w) X.A X.env X.xe)(hc:X.calm=true)(hi:PI X tg iter wi)(hg:PG X tg g)(hb:PSs X body tb)
  (hs:∀ x,foldedSetIterable iter X.env x=pure x:=by intro _;rfl):PS X (.For tg iter body [] pos) (VT wi g tb):=by
 intro pins s σ H D I h
 refine wpAny_For (thn (hi pins s σ H _ I h) fun v s1 h1=>thn h1 fun itv s2 h2=>?_) hs
 obtain⟨it,fp,tn,J,H2,e,I2,T,st2,f2,W,⟨m0,w0⟩,turn⟩:=h2
 subst e
 have stat:∀{H':Hp},(∀ b ∈ fp,H' b=none)->∀ b ∈ fp,xH X pins H' b:=fun hn b hb=>⟨hn b hb,(f2 b hb).2⟩
 refine codeAny_forLoop_any (fun n s'=>∃ i σ' H',Inv X pins σ' H' s'/\tn i s'.heap/\(∀ b ∈ fp,H' b=none)/\W i n σ' H') ?_ m0 ⟨0,σ,H2,I2,st2,fun b hb=>(f2 b hb).1,w0⟩
 rintro n s3 ⟨i,σ3,H3,I3,st3,fr3,w3⟩
 rcases turn i n σ3 H3 w3 with ⟨stop,qn⟩ | ⟨go,N,hN,step⟩
 ·refine wpAny_passesOwn hp (thn (T.done X rfl rfl rfl hc i pins s3 σ3 H3 X.xe I3 (stat fr3) st3 stop) fun r s4 ⟨hr,I4⟩=>?_)
  subst hr
  exact wpAny_execs_nil ⟨σ3,H3,I4,qn⟩
 ·refine wpAny_passesOwn hp (thn (T.item X rfl rfl rfl hc i pins s3 σ3 H3 X.xe I3 (stat fr3) st3 go) fun r s4 ⟨u,hr,h4⟩=>?_)
  subst hr
  refine wpAny_passesOwn hp (thn h4 fun _ s5 ⟨x,H5,I5,r5,y5,st5,fr5⟩=>?_)
  have I5':=I5.pinned (stat fr5) (T.obj _ _ st5)
  refine wpAny_passesOwn hp (thn (hg _ s5 σ3 H5 x u _ I5' r5 (step x H5 y5)) fun _ s6 ⟨σ6,H6,I6,q6⟩=>?_)
  refine wpAny_passesOwn hp (thn (hb _ s6 σ6 H6 _ I6 q6) fun f s7 q7=>?_)
  have again:∀{σ7:St} {H7:Hp},Inv X (pins ++ jf fp s5.heap) σ7 H7 s7->N σ7 H7->∃ m,m<n/\∃ i σ' H',Inv X pins σ' H' s7/\tn i s7.heap/\(∀ b ∈ fp,H' b=none)/\W i m σ' H':=fun {σ7 H7} I7 n7=>by
   obtain⟨m',hm,w7⟩:=hN σ7 H7 n7
   refine⟨m',hm,i+1,σ7,H7,I7.unpinned,T.keep _ _ _ st5 fun b hb o e=>(I7.pin (b,o) (aB _ (aB _ (xp hb e)))).1,fun b hb=>?_,w7⟩
   obtain⟨o,e,d⟩:=T.obj _ _ st5 b hb
   exact (I7.pin (b,o) (aB _ (aB _ (xp hb e)))).2.1
  cases f with
  | next=>obtain⟨σ7,H7,I7,n7⟩:=q7;exact again I7 n7
  | cont=>obtain⟨σ7,H7,I7,n7⟩:=q7;exact again I7 n7
  | brk=>obtain⟨σ7,H7,I7,q7⟩:=q7;exact⟨σ7,H7,I7.unpinned,q7⟩
  | ret v=>obtain⟨x7,σ7,H7,I7,r7,q7⟩:=q7;exact⟨x7,σ7,H7,I7.unpinned,r7,q7⟩
end
theorem Ut{K:ot}{a:Addr}{xs:List V}{g:TG}{tb:TS}{D:vh}{σ:St}{H:Hp}(Pv:Nat->St->Hp->Prop)(h0:Pv 0 σ H)(hl:∀ i σ H,i<=xs.length->Pv i σ H->SqL K H a xs)
  (hs:∀ i x σ H,xs[i]? = some x->Pv i σ H->g x σ H fun σ2 H2=>tb { D with nx:=Pv (i+1),ct:=Pv (i+1),bk:=D.nx } σ2 H2) (hd:∀ σ H,Pv xs.length σ H->D.nx σ H) :
  ∃ W:Nat->Nat->St->Hp->Prop,(∃ m,W 0 m σ H)/\∀ i m σ H,W i m σ H ->
   ((Itl K a).stop i H/\D.nx σ H)\/((Itl K a).go i H/\∃ N:St->Hp->Prop,(∀ σ' H',N σ' H'->∃ m',m'<m/\W (i+1) m' σ' H')/\∀ x H',(Itl K a).yld i H x H'->g x σ H' fun σ2 H2=>tb { D with nx:=N,ct:=N,bk:=D.nx } σ2 H2):=by
 refine⟨fun i m σ H=>m=xs.length - i/\i<=xs.length/\Pv i σ H,⟨xs.length,by simp,aG _,h0⟩,?_⟩
 rintro i m σ H ⟨rfl,hi,p⟩
 have q:=hl i σ H hi p
 by_cases hlt:i<xs.length
 ·refine .inr ⟨⟨xs,xs[i],q,by simp [hlt]⟩,Pv (i+1),fun σ' H' p'=>⟨xs.length - (i+1),by lia,rfl,hlt,p'⟩,fun x H' y=>?_⟩
  obtain⟨e,y⟩:=y
  subst e
  exact hs i x σ _ (y xs q) p
 ·have e:i=xs.length:=by lia
  subst e
  exact .inl ⟨⟨xs,q,aq _⟩,hd σ H p⟩
theorem WG{lo:Int}{n:Nat}{g:TG}{tb:TS}{D:vh}{σ:St}{H:Hp}(Pv:Nat->St->Hp->Prop)(h0:Pv 0 σ H)
  (hs:∀ i σ H,i<n->Pv i σ H->g (.int (lo+i)) σ H fun σ2 H2=>tb { D with nx:=Pv (i+1),ct:=Pv (i+1),bk:=D.nx } σ2 H2) (hd:∀ σ H,Pv n σ H->D.nx σ H) :
  ∃ W:Nat->Nat->St->Hp->Prop,(∃ m,W 0 m σ H)/\∀ i m σ H,W i m σ H ->
   ((Itr lo n).stop i H/\D.nx σ H)\/((Itr lo n).go i H/\∃ N:St->Hp->Prop,(∀ σ' H',N σ' H'->∃ m',m'<m/\W (i+1) m' σ' H')/\∀ x H',(Itr lo n).yld i H x H'->g x σ H' fun σ2 H2=>tb { D with nx:=N,ct:=N,bk:=D.nx } σ2 H2):=by
 refine⟨fun i m σ H=>m=n - i/\i<=n/\Pv i σ H,⟨n,by simp,aG _,h0⟩,?_⟩
 rintro i m σ H ⟨rfl,hi,p⟩
 by_cases hlt:i<n
 ·refine .inr ⟨hlt,Pv (i+1),fun σ' H' p'=>⟨n - (i+1),by lia,rfl,hlt,p'⟩,fun x H' y=>?_⟩
  obtain⟨e,y⟩:=y
  subst e y
  exact hs i σ _ hlt p
 ·have e:i=n:=by lia
  subst e
  exact .inl ⟨aq _,hd σ H p⟩
end L2
namespace L2
noncomputable abbrev R2:=V->V->Hp->VK->Prop
noncomputable def OpR(X:Cx)(f:Value->Value->Sem Value)(r:R2):Prop :=
 ∀(pins:List (Addr × Obj)) (s:Shared) (σ:St) (H:Hp) (x y:V) (v u:Value) (Q:VK),Inv X pins σ H s->RelV x v->RelV y u->r x y H Q ->
  wpAny (model X.prog X.w) X.A (f v u) (EP X pins σ Q) X.xe s
noncomputable def UnR(X:Cx)(f:Value->Sem Value)(r:V->Hp->VK->Prop):Prop :=
 ∀(pins:List (Addr × Obj)) (s:Shared) (σ:St) (H:Hp) (x:V) (v:Value) (Q:VK),Inv X pins σ H s->RelV x v->r x H Q ->
  wpAny (model X.prog X.w) X.A (f v) (EP X pins σ Q) X.xe s
noncomputable def vf(X:Cx)(f:Value)(r:List V->Hp->VK->Prop):Prop :=
 ∀(pins:List (Addr × Obj)) (s:Shared) (σ:St) (H:Hp) (xs:List V) (us:List Value) (Q:VK),Inv X pins σ H s->Vals xs us->r xs H Q ->
  wpAny (model X.prog X.w) X.A (call f us) (EP X pins σ Q) X.xe s
noncomputable def zcv(X:Cx)(r:V->Hp->(Bool->Hp->Prop)->Prop):Prop :=
 ∀(pins:List (Addr × Obj)) (s:Shared) (σ:St) (H:Hp) (x:V) (v:Value) (Q:Bool->Hp->Prop),Inv X pins σ H s->RelV x v->r x H Q ->
  wpAny (model X.prog X.w) X.A (truthy v) (TP X pins σ Q) X.xe s
noncomputable def tOp(r:R2)(ta tb:TE):TE:=fun σ H Q=>ta σ H fun x H1=>tb σ H1 fun y H2=>r x y H2 Q
noncomputable def tUn(r:V->Hp->VK->Prop)(ta:TE):TE:=fun σ H Q=>ta σ H fun x H1=>r x H1 Q
noncomputable def rI(C:Int->Int->Prop)(g:Int->Int->V):R2:=fun x y H Q=>∃ i j,x=.int i/\y=.int j/\C i j/\Q (g i j) H
noncomputable def rI0(g:Int->Int->V):R2:=fun x y H Q=>∃ i j,x=.int i/\y=.int j/\Q (g i j) H
noncomputable def rU(g:Int->V):V->Hp->VK->Prop:=fun x H Q=>∃ i,x=.int i/\Q (g i) H
section
variable{X:Cx}{a b c:Expr}{ta tb tc:TE}{pos:Pos}
theorem zbn(ha:PE X a ta)(hb:PE X b tb){pins:List (Addr × Obj)}{s:Shared}{σ:St}{H:Hp}{R:V->V->Hp->Prop}(I:Inv X pins σ H s)
  (h:ta σ H fun x H1=>tb σ H1 fun y H2=>R x y H2) {Q:Value->Shared->Prop} {f:Value->Value->Sem Value}
  (hf:∀ v u s2 x y H2,Inv X pins σ H2 s2->RelV x v->RelV y u->R x y H2->wpAny (model X.prog X.w) X.A (f v u) Q X.xe s2) :
  wpAny (model X.prog X.w) X.A (eval a X.env) (fun v s₁=>wpAny (model X.prog X.w) X.A (eval b X.env) (fun u s₂=>wpAny (model X.prog X.w) X.A (f v u) Q X.xe s₂) X.xe s₁) X.xe s:=by
 refine thn (ha pins s σ H _ I h) fun v s1 ⟨x,H1,I1,r1,q1⟩=>?_
 refine thn (hb pins s1 σ H1 _ I1 q1) fun u s2 ⟨y,H2,I2,r2,q2⟩=>?_
 exact hf v u s2 x y H2 I2 r1 r2 q2
theorem zI{op:Operator}{r:R2}(ho:OpR X (binaryOp op) r)(ha:PE X a ta)(hb:PE X b tb):PE X (.BinOp a op b pos) (tOp r ta tb):=by
 intro pins s σ H Q I h
 exact wpAny_BinOp (zbn ha hb I h fun v u s2 x y H2 I2 rx ry q=>ho pins s2 σ H2 x y v u Q I2 rx ry q)
theorem zbJ{op:UnaryOp}{r:V->Hp->VK->Prop}(ho:UnR X (unaryOp op) r)(ha:PE X a ta):PE X (.UnaryOp op a pos) (tUn r ta):=by
 intro pins s σ H Q I h
 exact UnaryOp_ (thn (ha pins s σ H _ I h) fun v s1 ⟨x,H1,I1,r1,q1⟩=>ho pins s1 σ H1 x v Q I1 r1 q1)
theorem opI{f:Value->Value->Sem Value}{C:Int->Int->Prop}{g:Int->Int->Int}
  (rule:∀(i j:Int) (t u:Tok) (s:Shared) (Q:Value->Shared->Prop) (E:Value->Shared->Prop),C i j->Q (.int (g i j) s.toks) { s with toks:=s.toks+1 }->wpAny (model X.prog X.w) X.A (f (.int i t) (.int j u)) Q E s) :
  OpR X f (rI C fun i j=>.int (g i j)):=by
 intro pins s σ H x y v u Q I rx ry h
 obtain⟨i,j,rfl,rfl,hc,q⟩:=h
 obtain⟨t,rfl⟩:=rx
 obtain⟨t',rfl⟩:=ry
 exact rule i j t t' s _ _ hc ⟨.int (g i j),H,I.tok _,⟨_,rfl⟩,q⟩
theorem zb0{f:Value->Value->Sem Value}{g:Int->Int->Int}
  (rule:∀(i j:Int) (t u:Tok) (s:Shared) (Q:Value->Shared->Prop) (E:Value->Shared->Prop),Q (.int (g i j) s.toks) { s with toks:=s.toks+1 }->wpAny (model X.prog X.w) X.A (f (.int i t) (.int j u)) Q E s) :
  OpR X f (rI0 fun i j=>.int (g i j)):=by
 intro pins s σ H x y v u Q I rx ry h
 obtain⟨i,j,rfl,rfl,q⟩:=h
 obtain⟨t,rfl⟩:=rx
 obtain⟨t',rfl⟩:=ry
 exact rule i j t t' s _ _ ⟨.int (g i j),H,I.tok _,⟨_,rfl⟩,q⟩
theorem zaI{f:Value->Value->Sem Value}{g:Int->Int->Bool}
  (rule:∀(i j:Int) (t u:Tok) (s:Shared) (Q:Value->Shared->Prop) (E:Value->Shared->Prop),Q (.bool (g i j)) s->wpAny (model X.prog X.w) X.A (f (.int i t) (.int j u)) Q E s) :
  OpR X f (rI0 fun i j=>.bl (g i j)):=by
 intro pins s σ H x y v u Q I rx ry h
 obtain⟨i,j,rfl,rfl,q⟩:=h
 obtain⟨t,rfl⟩:=rx
 obtain⟨t',rfl⟩:=ry
 exact rule i j t t' s _ _ ⟨.bl (g i j),H,I,rfl,q⟩
noncomputable def zcn(i j:Int):Prop:=0<j/\j<1073741824
noncomputable def CMul(i j:Int):Prop:=(-(2 ^ 64)<i/\i<2 ^ 64)\/(-(2 ^ 64)<j/\j<2 ^ 64)
theorem CMul.ok{i j:Int}(h:CMul i j):IntMulOk i j:=by
 rcases h with ⟨h1,h2⟩ | ⟨h1,h2⟩
 ·exact .of_left (intBits_le_64 h1 h2)
 ·exact .of_right (intBits_le_64 h1 h2)
theorem op_add:OpR X (binaryOp .Add) (rI0 fun i j=>.int (i+j)):=zb0 fun _ _ _ _ _ _ _ q=>add_int q
theorem vA:OpR X (binaryOp .Sub) (rI0 fun i j=>.int (i - j)):=zb0 fun _ _ _ _ _ _ _ q=>sub_int q
theorem op_mul:OpR X (binaryOp .Mult) (rI CMul fun i j=>.int (i * j)):=opI fun _ _ _ _ _ _ _ hc q=>mul_int q hc.ok
theorem wI:OpR X (binaryOp .FloorDiv) (rI zcn fun i j=>.int (i / j)):=opI fun i j _ _ _ _ _ hc q=>by
 have h1:(0:Int)<j:=hc.1
 have h2:j<1073741824:=hc.2
 exact floordiv_int (by lia) (by rw[Int.fdiv_eq_ediv_of_nonneg i (by lia)];exact q) (.inl (PyProof.noPylong_small (by lia)))
theorem wJ:OpR X (binaryOp .Mod) (rI (fun _ j=>0<j) fun i j=>.int (i % j)):=opI fun i j _ _ _ _ _ hc q=>by
 have h1:(0:Int)<j:=hc
 exact mod_int' (by lia) (by rw[Int.fmod_eq_emod_of_nonneg i (by lia)];exact q)
theorem unI{f:Value->Sem Value}{g:Int->Int}
  (rule:∀(i:Int) (t:Tok) (s:Shared) (Q:Value->Shared->Prop) (E:Value->Shared->Prop),Q (.int (g i) s.toks) { s with toks:=s.toks+1 }->wpAny (model X.prog X.w) X.A (f (.int i t)) Q E s) :
  UnR X f (rU fun i=>.int (g i)):=by
 intro pins s σ H x v Q I rx h
 obtain⟨i,rfl,q⟩:=h
 obtain⟨t,rfl⟩:=rx
 exact rule i t s _ _ ⟨.int (g i),H,I.tok _,⟨_,rfl⟩,q⟩
theorem zaw:UnR X (unaryOp .USub) (rU fun i=>.int (-i)):=unI fun _ _ _ _ _ q=>neg_int q
end
noncomputable def J7:V->V->Bool
 | .non,.non=>true | .non,.int _=>true | .int _,.non=>true | .non,.bl _=>true | .bl _,.non=>true | .non,.str _=>true | .str _,.non=>true
 | .int _,.int _=>true | .bl _,.bl _=>true | .str _,.str _=>true | .byt _,.byt _=>true
 | .int _,.str _=>true | .str _,.int _=>true | .bl _,.str _=>true | .str _,.bl _=>true
 | _,_=>false
noncomputable def rEq:R2:=fun x y H Q=>J7 x y=true/\Q (.bl (decide (x=y))) H
noncomputable def rNe:R2:=fun x y H Q=>J7 x y=true/\Q (.bl (!decide (x=y))) H
theorem X1{i j:Int}:decide (V.int i=V.int j)=(i == j):=by
 rw[cI]
 simp
theorem Qi{i j:Bool}:decide (V.bl i=V.bl j)=(i == j):=by
 rw[cI]
 simp
theorem X4{i j:Str}:decide (V.str i=V.str j)=(i == j):=by
 rw[cI]
 simp
theorem Vb{i j:Array UInt8}:decide (V.byt i=V.byt j)=(i.toList == j.toList):=by
 rw[cI]
 cases i
 cases j
 simp
section
variable{X:Cx}{a b c:Expr}{ta tb tc:TE}{pos:Pos}
theorem zS{pins:List (Addr × Obj)}{σ:St}{H:Hp}{s:Shared}{Q:VK}{k k':Bool}(I:Inv X pins σ H s)(q:Q (.bl k) H)(e:k=k'):EP X pins σ Q (.bool k') s:=by
 subst e
 exact⟨.bl k,H,I,rfl,q⟩
theorem qo:OpR X (compareOp .Eq) rEq:=by
 intro pins s σ H x y v u Q I rx ry h
 obtain⟨hs,q⟩:=h
 cases x with
 | non =>
  cases rx
  cases y with
  | non=>cases ry;exact PySem.EqNone.eq_none_none (zS I q (by simp))
  | bl j=>cases ry;exact PySem.EqNone.eq_none_bool (zS I q (by simp))
  | int j=>obtain⟨t',rfl⟩:=ry;exact PySem.EqNone.eq_none_int (zS I q (by simp))
  | str j=>obtain⟨t',rfl⟩:=ry;exact PySem.EqNone.eq_none_str (zS I q (by simp))
  | _=>exact absurd (show false=true from hs) aC
 | bl i =>
  cases rx
  cases y with
  | non=>cases ry;exact PySem.EqNone.eq_bool_none (zS I q (by simp))
  | bl j=>cases ry;exact eq_bool (zS I q Qi)
  | str j=>obtain⟨t',rfl⟩:=ry;exact PySem.EqMixed.eq_bool_str (zS I q (by simp))
  | _=>exact absurd (show false=true from hs) aC
 | int i =>
  obtain⟨t,rfl⟩:=rx
  cases y with
  | non=>cases ry;exact PySem.EqNone.eq_int_none (zS I q (by simp))
  | int j=>obtain⟨t',rfl⟩:=ry;exact eq_int (zS I q X1)
  | str j=>obtain⟨t',rfl⟩:=ry;exact PySem.EqMixed.eq_int_str (zS I q (by simp))
  | _=>exact absurd (show false=true from hs) aC
 | str i =>
  obtain⟨t,rfl⟩:=rx
  cases y with
  | non=>cases ry;exact PySem.EqNone.eq_str_none (zS I q (by simp))
  | bl j=>cases ry;exact PySem.EqMixed.eq_str_bool (zS I q (by simp))
  | int j=>obtain⟨t',rfl⟩:=ry;exact PySem.EqMixed.eq_str_int (zS I q (by simp))
  | str j=>obtain⟨t',rfl⟩:=ry;exact eq_str (zS I q X4)
  | _=>exact absurd (show false=true from hs) aC
 | byt i =>
  obtain⟨t,rfl⟩:=rx
  cases y with
  | byt j=>obtain⟨t',rfl⟩:=ry;exact PySem.W.eq_bytes (zS I q Vb)
  | _=>exact absurd (show false=true from hs) aC
 | _=>cases y <;> exact absurd (show false=true from hs) aC
theorem ZU:OpR X (compareOp .NotEq) rNe:=by
 intro pins s σ H x y v u Q I rx ry h
 obtain⟨hs,q⟩:=h
 cases x with
 | non =>
  cases rx
  cases y with
  | non=>cases ry;exact PySem.EqNone.ne_none_none (zS I q (by simp))
  | bl j=>cases ry;exact PySem.EqNone.ne_none_bool (zS I q (by simp))
  | int j=>obtain⟨t',rfl⟩:=ry;exact PySem.EqNone.ne_none_int (zS I q (by simp))
  | str j=>obtain⟨t',rfl⟩:=ry;exact PySem.EqNone.ne_none_str (zS I q (by simp))
  | _=>exact absurd (show false=true from hs) aC
 | bl i =>
  cases rx
  cases y with
  | non=>cases ry;exact PySem.EqNone.ne_bool_none (zS I q (by simp))
  | bl j=>cases ry;exact ne_bool (zS I q (congrArg not Qi))
  | str j=>obtain⟨t',rfl⟩:=ry;exact PySem.EqMixed.ne_bool_str (zS I q (by simp))
  | _=>exact absurd (show false=true from hs) aC
 | int i =>
  obtain⟨t,rfl⟩:=rx
  cases y with
  | non=>cases ry;exact PySem.EqNone.ne_int_none (zS I q (by simp))
  | int j=>obtain⟨t',rfl⟩:=ry;exact ne_int (zS I q (congrArg not X1))
  | str j=>obtain⟨t',rfl⟩:=ry;exact PySem.EqMixed.ne_int_str (zS I q (by simp))
  | _=>exact absurd (show false=true from hs) aC
 | str i =>
  obtain⟨t,rfl⟩:=rx
  cases y with
  | non=>cases ry;exact PySem.EqNone.ne_str_none (zS I q (by simp))
  | bl j=>cases ry;exact PySem.EqMixed.ne_str_bool (zS I q (by simp))
  | int j=>obtain⟨t',rfl⟩:=ry;exact PySem.EqMixed.ne_str_int (zS I q (by simp))
  | str j=>obtain⟨t',rfl⟩:=ry;exact ne_str (zS I q (congrArg not X4))
  | _=>exact absurd (show false=true from hs) aC
 | byt i =>
  obtain⟨t,rfl⟩:=rx
  cases y with
  | byt j=>obtain⟨t',rfl⟩:=ry;exact PySem.W.ne_bytes (zS I q (congrArg not Vb))
  | _=>exact absurd (show false=true from hs) aC
 | _=>cases y <;> exact absurd (show false=true from hs) aC
theorem U1:OpR X (compareOp .Lt) (rI0 fun i j=>.bl (decide (i<j))):=zaI fun _ _ _ _ _ _ _ q=>lt_int q
theorem op_le:OpR X (compareOp .LtE) (rI0 fun i j=>.bl (decide (i<=j))):=zaI fun _ _ _ _ _ _ _ q=>le_int q
theorem op_gt:OpR X (compareOp .Gt) (rI0 fun i j=>.bl (decide (j<i))):=zaI fun _ _ _ _ _ _ _ q=>gt_int q
theorem zbf:OpR X (compareOp .GtE) (rI0 fun i j=>.bl (decide (j<=i))):=zaI fun _ _ _ _ _ _ _ q=>ge_int q
theorem Vu:OpR X (compareOp .In) (fun x y H Q=>∃ i j,x=.str i/\y=.str j/\Q (.bl (!(Builtin.Str.occurrences j i 0 j.length 1).isEmpty)) H):=by
 intro pins s σ H x y v u Q I rx ry h
 obtain⟨i,j,rfl,rfl,q⟩:=h
 obtain⟨t,rfl⟩:=rx
 obtain⟨t',rfl⟩:=ry
 exact in_str (zS I q rfl)
theorem zao:OpR X (compareOp .Is) (fun x y H Q=>y=.non/\Q (.bl (decide (x=.non))) H):=by
 intro pins s σ H x y v u Q I rx ry h
 obtain⟨rfl,q⟩:=h
 cases ry
 refine is_none_gen (zS I q ?_)
 cases x <;> first
  | (cases rx;rfl)
  | (obtain⟨t,rfl⟩:=rx;rfl)
theorem Jq:OpR X (compareOp .IsNot) (fun x y H Q=>y=.non/\Q (.bl (!decide (x=.non))) H):=by
 intro pins s σ H x y v u Q I rx ry h
 obtain⟨rfl,q⟩:=h
 cases ry
 refine isnot_none_gen (zS I q ?_)
 cases x <;> first
  | (cases rx;rfl)
  | (obtain⟨t,rfl⟩:=rx;rfl)
theorem kY:OpR X (compareOp .NotIn) (fun x y H Q=>∃ i j,x=.str i/\y=.str j/\Q (.bl (!(!(Builtin.Str.occurrences j i 0 j.length 1).isEmpty))) H):=by
 intro pins s σ H x y v u Q I rx ry h
 obtain⟨i,j,rfl,rfl,q⟩:=h
 obtain⟨t,rfl⟩:=rx
 obtain⟨t',rfl⟩:=ry
 exact notIn_str (zS I q rfl)
theorem OpR.or{f:Value->Value->Sem Value}{r r':R2}(h:OpR X f r)(h':OpR X f r'):OpR X f (fun x y H Q=>r x y H Q\/r' x y H Q):=by
 intro pins s σ H x y v u Q I rx ry q
 rcases q with q | q
 ·exact h pins s σ H x y v u Q I rx ry q
 ·exact h' pins s σ H x y v u Q I rx ry q
theorem zJ(b:Expr){op:CmpOp}(h:op≠.In:=by decide)(h2:op≠.NotIn:=by decide):behindInMarks op b=false:=by
 have e1:(op == CmpOp.In)=false:=by cases op <;> first | rfl | exact absurd rfl h
 have e2:(op == CmpOp.NotIn)=false:=by cases op <;> first | rfl | exact absurd rfl h2
 cases b <;> simp [behindInMarks,e1,e2]
theorem wo{op:CmpOp}{r:R2}(ho:OpR X (compareOp op) r)(ha:PE X a ta)(hb:PE X b tb)(hm:behindInMarks op b=false):PE X (.Compare a [op] [b] pos) (tOp r ta tb):=by
 intro pins s σ H Q I h
 exact wpAny_Compare1 (zbn ha hb I h fun v u s2 x y H2 I2 rx ry q=>ho pins s2 σ H2 x y v u Q I2 rx ry q) hm
noncomputable def JQ(t:TE):TT:=fun σ H Q=>t σ H fun x H'=>∃ k,x=.bl k/\Q k H'
theorem zE{op:CmpOp}{r:R2}(ho:OpR X (compareOp op) r)(ha:PE X a ta)(hb:PE X b tb)(hm:behindInMarks op b=false):PT X (.Compare a [op] [b] pos) (JQ (tOp r ta tb)):=by
 intro pins s σ H Q I h
 refine wpAny_isTrue_Compare1 (thn (ha pins s σ H _ I h) fun v s1 ⟨x,H1,I1,r1,q1⟩=>thn (hb pins s1 σ H1 _ I1 q1) fun u s2 ⟨y,H2,I2,r2,q2⟩ =>
  thn (ho pins s2 σ H2 x y v u _ I2 r1 r2 q2) fun c s3 ⟨z,H3,I3,r3,k,e,q3⟩=>?_) hm
 subst e
 cases r3
 exact wpAny_truthy_bool ⟨H3,I3,q3⟩
noncomputable def Vh(r r':R2)(ta tb tc:TE):TE:=fun σ H Q=>ta σ H fun x H1=>tb σ H1 fun y H2=>r x y H2 fun z H3=>∃ k,z=.bl k /\
 (if k=true then tc σ H3 fun w' H4=>r' y w' H4 Q else Q (.bl false) H3)
theorem Ui{op op':CmpOp}{r r':R2}(ho:OpR X (compareOp op) r)(ho':OpR X (compareOp op') r')(ha:PE X a ta)(hb:PE X b tb)(hc:PE X c tc)
  (hm:lastMarks [op,op'] [b,c]=false:=by with_unfolding_all rfl):PE X (.Compare a [op,op'] [b,c] pos) (Vh r r' ta tb tc):=by
 intro pins s σ H Q I h
 refine Compare_chain (thn (ha pins s σ H _ I h) fun v s1 ⟨x,H1,I1,r1,q1⟩=>chain_link (thn (hb pins s1 σ H1 _ I1 q1) fun u s2 ⟨y,H2,I2,r2,q2⟩ =>
  thn (ho pins s2 σ H2 x y v u _ I2 r1 r2 q2) fun d s3 ⟨z,H3,I3,r3,k,e,q3⟩=>?_)) hm
 subst e
 cases r3
 refine wpAny_truthy_bool ?_
 cases k with
 | false=>exact ite_ff ⟨.bl false,H3,I3,rfl,q3⟩
 | true=>exact ite_tt (chain_last (thn (hc pins s3 σ H3 _ I3 q3) fun w' s4 ⟨z',H4,I4,r4,q4⟩=>ho' pins s4 σ H4 y z' u w' Q I4 r2 r4 q4))
theorem jN{op op':CmpOp}{r r':R2}(ho:OpR X (compareOp op) r)(ho':OpR X (compareOp op') r')(ha:PE X a ta)(hb:PE X b tb)(hc:PE X c tc)
  (hm:lastMarks [op,op'] [b,c]=false:=by with_unfolding_all rfl):PT X (.Compare a [op,op'] [b,c] pos) (JQ (Vh r r' ta tb tc)):=by
 intro pins s σ H Q I h
 refine isTrue_chain (thn (ha pins s σ H _ I h) fun v s1 ⟨x,H1,I1,r1,q1⟩=>test_link (thn (hb pins s1 σ H1 _ I1 q1) fun u s2 ⟨y,H2,I2,r2,q2⟩ =>
  thn (ho pins s2 σ H2 x y v u _ I2 r1 r2 q2) fun d s3 ⟨z,H3,I3,r3,k,e,q3⟩=>?_)) hm
 subst e
 cases r3
 refine wpAny_truthy_bool ?_
 cases k with
 | false =>
  obtain⟨k',e',q'⟩:=q3
  cases e'
  exact ite_ff ⟨H3,I3,q'⟩
 | true =>
  refine ite_tt (test_last (thn (hc pins s3 σ H3 _ I3 q3) fun w' s4 ⟨z',H4,I4,r4,q4⟩=>thn (ho' pins s4 σ H4 y z' u w' _ I4 r2 r4 q4) fun d' s5 ⟨z2,H5,I5,r5,k2,e2,q5⟩=>?_))
  subst e2
  cases r5
  exact wpAny_truthy_bool ⟨H5,I5,q5⟩
noncomputable def Kb(K:ot)(x:V)(H:Hp)(k:Bool):Prop :=
 match x with
 | .non=>k=false
 | .bl b=>k=b
 | .int i=>k=(i != 0)
 | .str y=>y.length<=oq/\k=((y.length:Int) != 0)
 | .byt y=>y.size<=oq/\k=((y.size:Int) != 0)
 | .ref p=>(∃ xs,SqL K H p xs/\k=!xs.isEmpty)\/(∃ xs,SqT K H p xs/\k=!xs.isEmpty)\/∃ kvs,H p=some (.dK kvs)/\k=!kvs.isEmpty
 | _=>False
theorem XF{κ:Type}{kvs:List (κ × V)}{vs:List (κ × Value)}(r:KV kvs vs):(!vs.isEmpty)=!kvs.isEmpty:=by
 cases r <;> rfl
theorem jD{xs:List V}{its:List Value}(r:Vals xs its):(!its.toArray.isEmpty)=!xs.isEmpty:=by
 cases r <;> simp
theorem Zl:(oq:Nat)<2 ^ 63:=by rw[sizeLine_eq];decide
theorem QC:zcv X (fun x H Q=>∃ k,Kb X.K x H k/\Q k H):=by
 intro pins s σ H x v Q I rx h
 obtain⟨k,e,q⟩:=h
 have hl:=Zl
 have hs:oq=16777216:=sizeLine_eq
 cases x with
 | non =>
  cases rx
  have e':k=false:=e
  subst e'
  exact truthy_none ⟨H,I,q⟩
 | bl b =>
  cases rx
  have e':k=b:=e
  subst e'
  exact wpAny_truthy_bool ⟨H,I,q⟩
 | int i =>
  obtain⟨t,rfl⟩:=rx
  have e':k=(i != 0):=e
  subst e'
  exact PySem.P.truthy_int ⟨H,I,q⟩
 | str y =>
  obtain⟨t,rfl⟩:=rx
  obtain⟨hy,e'⟩:y.length<=oq/\k=((y.length:Int) != 0):=e
  subst e'
  exact PySem.P.truthy_str (by lia) ⟨H,I.tok _,q⟩
 | byt y =>
  obtain⟨t,rfl⟩:=rx
  obtain⟨hy,e'⟩:y.size<=oq/\k=((y.size:Int) != 0):=e
  subst e'
  exact PySem.W.truthy_bytes (by lia) ⟨H,I.tok _,q⟩
 | ref p =>
  cases rx
  have e':(∃ xs,SqL X.K H p xs/\k=!xs.isEmpty)\/(∃ xs,SqT X.K H p xs/\k=!xs.isEmpty)\/∃ kvs,H p=some (.dK kvs)/\k=!kvs.isEmpty:=e
  rcases e' with ⟨xs,hx,e'⟩ | ⟨xs,hx,e'⟩ | ⟨kvs,hx,e'⟩
  ·subst e'
   obtain⟨its,r,pl,hz⟩:=I.list hx
   have hlen:=r.length
   exact wpAny_truthy_list pl.isList (by simp only[al];lia) ⟨H,I.tok _,by rw[jD r];exact q⟩
  ·subst e'
   obtain⟨its,r,pl,hz⟩:=I.tuple hx
   have hlen:=r.length
   exact truthy_tuple pl (by simp only[al];lia) ⟨H,I.tok _,by rw[jD r];exact q⟩
  ·subst e'
   obtain⟨hz,hS,vs,r,m⟩:kvs.length<=oq/\(p == sysModules)=false/\∃ vs,KV kvs vs/\s.heap.DictOf (Yd X.prog X.w) p vs:=I.hok p _ hx
   have hlen:kvs.length=vs.length:=Paired.length r
   exact wpAny_truthy_dict hS m (by lia) ⟨H,I.tok _,by rw[XF r];exact q⟩
 | _=>exact (show False from e).elim
theorem YI(ha:PE X a ta)(he:∀ whole,isTrue a X.env whole=(do let v <- whole;standAt a.pos;holding [v] (truthy v))) :
  PT X a (fun σ H Q=>ta σ H fun x H'=>∃ k,Kb X.K x H' k/\Q k H'):=by
 intro pins s σ H Q I h
 exact isTrue_plain (thn (ha pins s σ H _ I h) fun v s1 ⟨x,H1,I1,r1,q1⟩=>QC pins s1 σ H1 x v Q I1 r1 q1) (he _)
theorem op_add_str:OpR X (binaryOp .Add) (fun x y H Q=>∃ i j,x=.str i/\y=.str j/\i.length+j.length<=oq/\Q (.str (i ++ j)) H):=by
 intro pins s σ H x y v u Q I rx ry h
 obtain⟨i,j,rfl,rfl,hz,q⟩:=h
 obtain⟨t,rfl⟩:=rx
 obtain⟨t',rfl⟩:=ry
 exact add_str (fun t' tk=>⟨.str (i ++ j),H,I.tok _,⟨_,rfl⟩,q⟩) hz
theorem wf{x:V}{us:List Value}(r:Vals [x] us):∃ u,us=[u]/\RelV x u:=by
 cases r with
 | cons r1 r2=>cases r2;exact⟨_,rfl,r1⟩
theorem Wv{x y:V}{us:List Value}(r:Vals [x,y] us):∃ u w',us=[u,w']/\RelV x u/\RelV y w':=by
 cases r with
 | cons r1 r2 =>
  cases r2 with
  | cons r3 r4=>cases r4;exact⟨_,_,rfl,r1,r3⟩
theorem WX(hc:X.calm=true):vf X (.builtin "max") (fun xs H Q=>∃ i j,xs=[.int i,.int j]/\Q (.int (if j > i then j else i)) H):=by
 intro pins s σ H xs us Q I r h
 obtain⟨i,j,rfl,q⟩:=h
 obtain⟨u,w',rfl,⟨t,rfl⟩,⟨t',rfl⟩⟩:=Wv r
 refine max_two_ints (I.ok.hd hc) fun h' tk k=>⟨_,H,I.kept k,?_,q⟩
 by_cases hj:j > i
 ·rw[if_pos hj,if_pos hj];exact⟨_,rfl⟩
 ·rw[if_neg hj,if_neg hj];exact⟨_,rfl⟩
theorem VJ:vf X (.type "int") (fun xs H Q=>(∃ i,xs=[.int i]/\Q (.int i) H)\/∃ k,xs=[.bl k]/\Q (.int (if k then 1 else 0)) H):=by
 intro pins s σ H xs us Q I r h
 rcases h with ⟨i,rfl,q⟩ | ⟨k,rfl,q⟩
 ·obtain⟨u,rfl,t,rfl⟩:=wf r
  exact call_int_int ⟨.int i,H,I,⟨_,rfl⟩,q⟩
 ·obtain⟨u,rfl,r1⟩:=wf r
  cases r1
  exact call_int_bool ⟨.int (if k then 1 else 0),H,I.tok _,⟨_,rfl⟩,q⟩
noncomputable def zbj(K:ot)(x:V)(H:Hp)(n:Nat):Prop :=
 match x with
 | .str y=>y.length<=oq/\n=y.length
 | .byt y=>y.size<=oq/\n=y.size
 | .ref p=>(∃ xs,SqL K H p xs/\n=xs.length)\/∃ xs,SqT K H p xs/\n=xs.length
 | _=>False
theorem Um:vf X (.builtin "len") (fun xs H Q=>∃ x n,xs=[x]/\zbj X.K x H n/\Q (.int n) H):=by
 intro pins s σ H xs us Q I r h
 obtain⟨x,n,rfl,e,q⟩:=h
 obtain⟨u,rfl,rx⟩:=wf r
 have hl:=Zl
 have hs:oq=16777216:=sizeLine_eq
 cases x with
 | str y =>
  obtain⟨t,rfl⟩:=rx
  obtain⟨hy,e'⟩:y.length<=oq/\n=y.length:=e
  subst e'
  exact len_str (by lia) ⟨.int _,H,I.tok _,⟨_,rfl⟩,q⟩
 | byt y =>
  obtain⟨t,rfl⟩:=rx
  obtain⟨hy,e'⟩:y.size<=oq/\n=y.size:=e
  subst e'
  exact PySem.W.len_bytes (by lia) ⟨.int _,H,I.tok _,⟨_,rfl⟩,q⟩
 | ref p =>
  cases rx
  have e':(∃ xs,SqL X.K H p xs/\n=xs.length)\/∃ xs,SqT X.K H p xs/\n=xs.length:=e
  rcases e' with ⟨xs,hx,e'⟩ | ⟨xs,hx,e'⟩
  ·subst e'
   obtain⟨its,r',pl,hz⟩:=I.list hx
   have hlen:=r'.length
   exact Calls.call_len_list pl.isList (by simp only[al];lia) ⟨.int xs.length,H,I.tok _,⟨_,by simp only[al];rw[hlen]⟩,q⟩
  ·subst e'
   obtain⟨its,r',pl,hz⟩:=I.tuple hx
   have hlen:=r'.length
   exact len_tuple pl (by simp only[al];lia) ⟨.int xs.length,H,I.tok _,⟨_,by simp only[al];rw[hlen]⟩,q⟩
 | _=>exact (show False from e).elim
end
end L2
namespace L2
structure ObjM(h:Heap)(x dx C:Addr)(mA:Str->Option Value):Prop where
 obj:h.get? x=some (bQ C dx)
 ns:h.Ns1 dx mA
 ne:dx≠x
theorem X5{h:Heap}{dx:Addr}{mA:Str->Option Value}(n:h.Ns1 dx mA):∃ od,h.get? dx=some od/\∀ name,dD name od=some (mA name):=by
 obtain⟨o,es,ep,ho,hd,hk,_,hm⟩:=n
 refine⟨o,ho,fun name=>?_⟩
 have e:=hm name
 unfold nsFind findBy at e
 rw[<- Array.find?_toList] at e
 unfold dD
 rw[hd]
 dsimp only
 split
 ·rename_i y q
  rw[q] at e
  exact congrArg some e
 ·rename_i q
  rw[q] at e
  have a:es.toList.any (·.refKey)=false:=by
   rw[List.any_eq_false]
   intro y hy
   obtain⟨z,t,hkey⟩:=hk y (Array.mem_toList_iff.mp hy)
   simp [DictEntry.refKey,hkey]
  have a':¬ es.toList.any (·.refKey)=true:=by rw[a];exact aC
  rw[if_neg a']
  exact congrArg some e
theorem ObjM.look{h:Heap}{x dx C:Addr}{mA:Str->Option Value}(I:ObjM h x dx C mA):∃ od,PySem.W.InstAt h x (bQ C dx) C (some od)/\∀ name,dD name od=some (mA name) :=
 let ⟨od,ho,hl⟩:=X5 I.ns
 ⟨od,⟨I.obj,rfl,rfl,ho⟩,hl⟩
section
variable{prog:Program}{w:World}{A:Around}{E:Value->Shared->Prop}{s:Shared}{K:ot}{x dx C f:Addr}{mA:Str->Option Value}{name:Str}{v:Value}
theorem QR{expr:Bool}{Q:Value->Shared->Prop}(X:K.In s.heap)(I:ObjM s.heap x dx C mA)(hg:bL K C name=true)(hh:bH K C=true)
  (ha:af K (.ref C) name=some none) (hv:mA name=some v) (hv':eZ v=true) (h:Q v { s with toks:=s.toks+1 }) :
  wpAny (model prog w) A (getAttr (.ref x) name expr) Q E s:=by
 obtain⟨od,J,hl⟩:=I.look
 exact PySem.W.get_value X J (dB hg).1 (PySem.W.findObj_own hh ha rfl (by rw[hl,hv])) hv' h
theorem VZ{pl:Sem Bool}{Q:Value × List Value->Shared->Prop}(X:K.In s.heap)(I:ObjM s.heap x dx C mA)(hg:bL K C name=true)
  (hf:af K (.ref C) name=some (some (.ref f))) (ht:aY K (.ref f)=true) (hv:mA name=none) (h:Q (.ref f,[.ref x]) s) :
  wpAny (model prog w) A (getMethod (.ref x) name pl) Q E s:=by
 obtain⟨od,J,hl⟩:=I.look
 exact PySem.W.method_fn X J (dB hg).1 (dB hg).2 hf (beq_iff_eq.mp ht) (by show (dD name od).map (·.isSome)=some false;rw[hl,hv];rfl) h
theorem QT{ns:List Str}{Q:Unit->Shared->Prop}(X:K.In s.heap)(I:ObjM s.heap x dx C mA)
  (hs:af K (.ref C) "__setattr__" = some (some (.builtin "object.__setattr__"))) (hp:ce K C=true) (ht:eg K C name=some none) (hh:bH K C=true)
  (hw:PySem.Within mA ns) (hsz:ns.length<=oq)
  (h:∀ h',ObjM h' x dx C (fun y=>if y=name then some v else mA y)->Heap.SameBut dx s.heap h'->Q () { s with heap:=h',toks:=s.toks+2 }) :
  wpAny (model prog w) A (setAttr (.ref x) name v) Q E s:=by
 obtain⟨od,J,hl⟩:=I.look
 refine eW X J hs (PySem.W.osa_open (s:={ s with toks:=s.toks+1 }) (r:=none) X J hp ht fun b=>?_)
 obtain⟨cd,hc,hd'⟩:=PySem.W.any_some hh
 have hx:s.heap.get? x=some ⟨.ref C,some dx,.plain,#[]⟩:=I.obj
 refine oh (oj (oh (oh (wpAny_loadPart hx (oh (PySem.W.Looks.here (s:={ s with toks:=s.toks+1 }) (PySem.W.looks_clsIn X hc) ?_))))))
 rw[hd']
 refine oj (a:=some dx) (oh (oj (oh ?_)))
 refine wpAny_nsSet1 (s:={ s with toks:=s.toks+1 }) I.ns fun h' hn2 hs2=>?_
 obtain⟨oD,esD,epD,hoD,hdD,hcD⟩:=hn2.count (PySem.Within.cons name v hw)
 refine oh (wpAny_lookBehind hoD (by rw[hdD];exact pastItsLine_dict (aQ hcD (by rw[aL];lia))) ?_)
 exact oj (h _ ⟨(hs2.2 _ (Ne.symm I.ne)).trans I.obj,hn2,I.ne⟩ hs2)
theorem UK{R:Result->Shared->Prop}{vs:List Value}{kw:List (Str × Value)}(X:K.In s.heap)(hm:cw K C=true)
  (hi:af K (.ref C) "__init__" = some (some (.ref f))) (hf:PySem.W.typeIn K (.ref f)=some (.type "function"))
  (h:codeAny (model prog w) (A.under (.builtin "type.__call__" ⟨.ref C::vs,kw⟩)) (.call (.ref f) ⟨.ref (s.heap.objs.size+1)::vs,kw⟩) (PySem.W.InitBack (s.heap.objs.size+1) R)
   { s with heap:=(s.heap.push bA).push (bQ C s.heap.objs.size) }) :
  codeAny (model prog w) A (.call (.ref C) ⟨vs,kw⟩) R s:=by
 obtain⟨hh,g,d,t,os⟩:=s
 exact PySem.W.make_core (PySem.W.makes_of X hm) (ci X hi) (fun self=>e8 X self hf) (.inl rfl) h
end
noncomputable def Zw(f:Str)(v:V):List (Str × V)->List (Str × V)
  | []=>[(f,v)]
  | (g,x)::r=>if g=f then (g,v)::r else (g,x)::Zw f v r
theorem qj(f g:Str)(v:V):∀ fs:List (Str × V),(Zw f v fs).lookup g=if g=f then some v else fs.lookup g
  | []=>by
    show bc g [(f,v)]=_
    by_cases h:g=f
    . have hb:(g == f)=true:=beq_iff_eq.mpr h
      simp only[bc,hb,if_pos h]
    . have hb:(g == f)=false:=beq_eq_false_iff_ne.mpr h
      simp only[bc,hb,if_neg h]
  | (k,x)::r=>by
    have ih:=qj f g v r
    rw[show Zw f v ((k,x)::r)=(if k=f then (k,v)::r else (k,x)::Zw f v r) from rfl]
    by_cases hk:k=f
    . rw[if_pos hk]
      by_cases h:g=k
      . have hb:(g == k)=true:=beq_iff_eq.mpr h
        simp only[bc,hb,if_pos (h.trans hk)]
      . have hb:(g == k)=false:=beq_eq_false_iff_ne.mpr h
        simp only[bc,hb,if_neg (fun e:g=f=>h (e.trans hk.symm))]
    . rw[if_neg hk]
      by_cases h:g=k
      . have hb:(g == k)=true:=beq_iff_eq.mpr h
        simp only[bc,hb,if_neg (fun e:g=f=>hk (h.symm.trans e))]
      . have hb:(g == k)=false:=beq_eq_false_iff_ne.mpr h
        simp only[bc,hb]
        exact ih
theorem qb(f:Str)(v:V):∀ fs:List (Str × V),f ∈ (Zw f v fs).map (·.1)/\∀ g,g ∈ fs.map (·.1)->g ∈ (Zw f v fs).map (·.1)
  | []=>⟨by simp [Zw],fun g h=>by simp at h⟩
  | (k,x)::r=>by
    obtain⟨i1,i2⟩:=qb f v r
    rw[show Zw f v ((k,x)::r)=(if k=f then (k,v)::r else (k,x)::Zw f v r) from rfl]
    by_cases hk:k=f
    . rw[if_pos hk]
      subst hk
      exact⟨by simp,fun g h=>by simpa using h⟩
    . rw[if_neg hk]
      refine⟨?_,fun g h=>?_⟩
      . rw[ax]
        exact aw _ i1
      . rw[ax] at h ⊢
        rcases List.mem_cons.mp h with e | e
        . exact List.mem_cons.mpr (.inl e)
        . exact aw _ (i2 g e)
theorem qB(f:Str)(v:V):∀ fs:List (Str × V),(Zw f v fs).length<=fs.length+1
  | []=>by simp [Zw]
  | (k,x)::r=>by
    have ih:=qB f v r
    rw[show Zw f v ((k,x)::r)=(if k=f then (k,v)::r else (k,x)::Zw f v r) from rfl]
    by_cases hk:k=f
    . rw[if_pos hk,aL,aL];lia
    . rw[if_neg hk,aL,aL];lia
theorem RelO.some_of{v:V}{o:Option Value}(r:RelO (some v) o):∃ u,o=some u/\RelV v u:=by
 cases o with
 | none=>exact (show False from r).elim
 | some u=>exact⟨u,rfl,r⟩
theorem RelO.none_of{o:Option Value}(r:RelO none o):o=none:=by
 cases o with
 | none=>rfl
 | some u=>exact (show False from r).elim
theorem WS{v:V}{u:Value}(r:RelV v u):eZ u=true:=by
 cases v with
 | non=>cases (show u=Value.none from r);rfl
 | bl b=>cases (show u=Value.bool b from r);rfl
 | int i=>obtain⟨t,e⟩:=(show ∃ t,u=Value.int i t from r);cases e;rfl
 | str x=>obtain⟨t,e⟩:=(show ∃ t,u=Value.str x t from r);cases e;rfl
 | byt b=>obtain⟨t,e⟩:=(show ∃ t,u=Value.bytes b t from r);cases e;rfl
 | flt b=>obtain⟨t,e⟩:=(show ∃ t,u=Value.float b t from r);cases e;rfl
 | ref a=>cases (show u=Value.ref a from r);rfl
 | ty n=>cases (show u=Value.type n from r);rfl
section
variable{P:Program}{w:World}{H H':Hp}{h h':Heap}{a C dx:Addr}{fs fs':List (Str × V)}
theorem jT(hok:HOk P w H h)(e:H a=some (.ins C dx fs)):∃ mA,ObjM h a dx C mA/\(∀ f,RelO (fs.lookup f) (mA f))/\PySem.Within mA (fs.map (·.1))/\fs.length<=1000/\H dx=some (.own a):=by
 obtain⟨d,z,ne,ob,mA,n,r,q⟩:=(show ObjOk P w H h a (.ins C dx fs) from hok a _ e)
 exact⟨mA,⟨ob,n,ne⟩,r,q,z,d⟩
end
structure Cls(K:ot)(C:Addr):Prop where
 pg:bL K C eh=true
 hd:bH K C=true
 po:ce K C=true
 sa:af K (.ref C) "__setattr__" = some (some (.builtin "object.__setattr__"))
theorem Cls.get{K:ot}{C:Addr}(c:Cls K C)(f:Str):bL K C f=true:=c.pg
noncomputable def NoAttr(K:ot)(C:Addr)(f:Str):Prop:=af K (.ref C) f=some none
theorem NoAttr.taker{K:ot}{C:Addr}{f:Str}(n:NoAttr K C f):eg K C f=some none:=by
 unfold eg
 rw[show af K (.ref C) f=some none from n]
 rfl
structure zax(K:ot)(C:Addr)(m:Str)(f:Addr):Prop where
 at_:af K (.ref C) m=some (some (.ref f))
 fn:aY K (.ref f)=true
 kp:ah K (.ref f)=true
section
variable{X:Cx}{pins:List (Addr × Obj)}{σ:St}{H:Hp}{s:Shared}{a C dx:Addr}{fs:List (Str × V)}{f:Str}{v:V}{A:Around}{E:Value->Shared->Prop}
theorem Xh{b:Bool}{Q:Value->Shared->Prop}(I:Inv X pins σ H s)(e:H a=some (.ins C dx fs))(c:Cls X.K C)(n:NoAttr X.K C f)(l:fs.lookup f=some v)
  (h:∀ u s',Inv X pins σ H s'->RelV v u->Q u s'):wpAny (model X.prog X.w) A (getAttr (.ref a) f b) Q E s:=by
 obtain⟨mA,O,r,_,_,_⟩:=jT I.hok e
 obtain⟨u,hu,ru⟩:=RelO.some_of (v:=v) (o:=mA f) (by rw[<- l];exact r f)
 exact QR I.kIn O (c.get f) c.hd n hu (WS ru) (h u _ (I.tok _) ru)
theorem xV{m:Str}{g:Addr}{pl:Sem Bool}{Q:Value × List Value->Shared->Prop}(I:Inv X pins σ H s)(e:H a=some (.ins C dx fs))(c:Cls X.K C)(k:zax X.K C m g)(l:fs.lookup m=none)
  (h:Q (.ref g,[.ref a]) s):wpAny (model X.prog X.w) A (getMethod (.ref a) m pl) Q E s:=by
 obtain⟨mA,O,r,_,_,_⟩:=jT I.hok e
 have hn:mA m=none:=RelO.none_of (by rw[<- l];exact r m)
 exact VZ I.kIn O (c.get m) k.at_ k.fn hn h
theorem Xe{y:V}{u:Value}{Q:Unit->Shared->Prop}(I:Inv X pins σ H s)(e:H a=some (.ins C dx fs))(c:Cls X.K C)(n:NoAttr X.K C f)(hl:fs.length<1000)(ry:RelV y u)
  (h:∀ s',Inv X pins σ (upd H a (.ins C dx (Zw f y fs))) s'->Q () s'):wpAny (model X.prog X.w) A (setAttr (.ref a) f u) Q E s:=by
 obtain⟨mA,O,r,wi,_,ho⟩:=jT I.hok e
 have hz:(fs.map (·.1)).length<=oq:=by rw[ag,sizeLine_eq];lia
 refine QT I.kIn O c.sa c.po n.taker c.hd wi hz fun h' O' sb=>h _ ?_
 have hd:∃ o,h'.get? dx=some o:=let ⟨o,_,_,e',_⟩:=O'.ns; ⟨o,e'⟩
 refine I.write (x:=a) (e:=dx) (by rw[e];exact True.intro) (.inr ho) (fun b q hb z=>(sb.2 b hb).trans z) hd ?_
 refine⟨by rw[zq O.ne];exact ho,?_,O.ne,O'.obj,_,O'.ns,fun g=>?_,fun g hg=>?_⟩
 ·have:=qB f y fs;lia
 ·show RelO ((Zw f y fs).lookup g) (if g=f then some u else mA g)
  rw[qj]
  by_cases q:g=f
  ·rw[if_pos q,if_pos q];exact ry
  ·rw[if_neg q,if_neg q];exact r g
 ·by_cases q:g=f
  ·rw[q];exact (qb f y fs).1
  ·refine (qb f y fs).2 g (wi g fun z=>hg ?_)
   show (if g=f then some u else mA g)=none
   rw[if_neg q];exact z
theorem Inv.made(I:Inv X pins σ H s):Inv X pins σ (upd (upd H s.heap.objs.size (.own (s.heap.objs.size+1))) (s.heap.objs.size+1) (.ins C s.heap.objs.size []))
  { s with heap:=(s.heap.push bA).push (bQ C s.heap.objs.size) }:=by
 have e1:(s.heap.push bA).get? s.heap.objs.size=some bA:=aF s.heap rfl
 have e2:((s.heap.push bA).push (bQ C s.heap.objs.size)).get? (s.heap.objs.size+1)=some (bQ C s.heap.objs.size):=by
  have:=aF (s.heap.push bA) (o:=bQ C s.heap.objs.size) rfl
  rwa [bw] at this
 have e3:(s.heap.push bA).Ns s.heap.objs.size (fun _=>none):=⟨bA,#[],_,e1,rfl,(fun e he=>absurd he (by simp)),fun _=>rfl⟩
 have I1:=I.laid (a:=s.heap.objs.size) (o:=.own (s.heap.objs.size+1)) (h':=s.heap.push bA) (t':=s.toks) (fun b u q=>aa _ q) (aq _) ⟨_,e1⟩
 refine I1.laid (a:=s.heap.objs.size+1) (o:=.ins C s.heap.objs.size []) (t':=s.toks) (fun b u q=>aa _ q) (Nat.le_of_eq (bw _ _)) ?_
 have ne:s.heap.objs.size≠s.heap.objs.size+1:=aA (Nat.lt_succ_self _)
 refine⟨by rw[zq ne,ze],aG _,ne,e2,fun _=>none,(Heap.Ns1.of_empty e3).at fun o q=>aa _ q,fun _=>True.intro,fun y hy=>absurd rfl hy⟩
theorem J4{prog:Program}{w:World}{env:Env}{e:Expr}{f:Str}{pos:Pos}{s:Shared}{Q:Value->Shared->Prop}(hb:attributeBase e f env (eval e env)=eval e env)
  (h:wpAny (model prog w) A (eval e env) (fun o s₁=>wpAny (model prog w) A (getAttr o f true) Q E s₁) E s):wpAny (model prog w) A (eval (.Attribute e f pos) env) Q E s :=
 Attribute_any_ h (by rw[arm_eval_Attribute,hb])
end
noncomputable def zar(K:ot)(ta:TE)(f:Str):TE:=fun σ H Q=>ta σ H fun x H1=>∃ a C dx fs v,x=.ref a/\H1 a=some (.ins C dx fs)/\Cls K C/\NoAttr K C f/\fs.lookup f=some v/\Q v H1
noncomputable def zbW(K:ot)(ta tv:TE)(f:Str):TS:=fun D σ H=>tv σ H fun y H1=>ta σ H1 fun x H2=>∃ a C dx fs,x=.ref a/\H2 a=some (.ins C dx fs)/\Cls K C/\NoAttr K C f/\fs.length<1000 /\
 D.nx σ (upd H2 a (.ins C dx (Zw f y fs)))
section
variable{X:Cx}{o e value:Expr}{f:Str}{pos pos' tpos:Pos}{ta tv:TE}
theorem Yt(he:PE X e ta)(hb:attributeBase e f X.env (eval e X.env)=eval e X.env):PE X (.Attribute e f pos) (zar X.K ta f):=by
 intro pins s σ H Q I h
 refine J4 hb (thn (he pins s σ H _ I h) fun u s1 ⟨x,H1,I1,rx,a,C,dx,fs,v,ex,ea,c,n,l,q⟩=>?_)
 subst ex
 obtain rfl:u=Value.ref a:=rx
 exact Xh I1 ea c n l fun u' s2 I2 ru=>⟨v,H1,I2,ru,q⟩
theorem Yl(ha:PE X o ta)(hv:PE X value tv)(hs:swapsWith value (some (.Attribute o f pos')) pos.line X.env=pure false):PS X (.Assign [.Attribute o f pos'] value pos) (zbW X.K ta tv f):=by
 intro pins s σ H D I h
 refine plainObj_wpAny_Assign_Attribute (thn (hv pins s σ H _ I h) fun u s1 ⟨y,H1,I1,ry,q⟩=>thn (ha pins s1 σ H1 _ I1 q) fun ov s2 ⟨x,H2,I2,rx,a,C,dx,fs,ex,ea,c,n,l,q2⟩=>?_) hs
 subst ex
 obtain rfl:ov=Value.ref a:=rx
 exact Xe I2 ea c n l ry fun s3 I3=>⟨σ,_,I3,q2⟩
theorem Jm{pl:Sem Bool}{m:Str}{apos:Pos}{args:List Expr}{pins:List (Addr × Obj)}{s:Shared}{σ:St}{H:Hp}{Q:Value->Shared->Prop}{te:TE}(he:PE X e te)(I:Inv X pins σ H s)
    (h:te σ H fun x H1=>∃ a C dx fs g,x=.ref a/\H1 a=some (.ins C dx fs)/\Cls X.K C/\zax X.K C m g/\fs.lookup m=none /\
      ∀ s1,Inv X pins σ H1 s1->wpAny (model X.prog X.w) X.A (callWith pos (.ref g) [.ref a] (backTo pos (oo args X.env)) (backToKw pos (keywordEach [] X.env))) Q X.xe s1)
    (ht:eval (.Call (.Attribute e m apos) args [] pos) X.env=(do
      let ov <- eval e X.env
      standAt apos.atName
      let (f,first) <- holding [ov] (getMethod ov m pl)
      callWith pos f first (backTo pos (oo args X.env)) (backToKw pos (keywordEach [] X.env)))) :
    wpAny (model X.prog X.w) X.A (eval (.Call (.Attribute e m apos) args [] pos) X.env) Q X.xe s:=by
  refine bN (pl:=pl) (thn (he pins s σ H _ I h) fun u s1 ⟨x,H1,I1,rx,a,C,dx,fs,g,ex,ea,c,k,l,q⟩=>?_) ht
  subst ex
  obtain rfl:u=Value.ref a:=rx
  exact xV I1 ea c k l (q s1 I1)
end
section
variable{X:Cx}{pins:List (Addr × Obj)}{σ:St}{H:Hp}{s:Shared}{A:Around}{E:Value->Shared->Prop}{Q:Value->Shared->Prop}{c:Value}{b:Bool}
inductive Yr(K:ot)(H:Hp):V->Value->Prop where
 | non:Yr K H .non (.type "NoneType")
 | bl (x:Bool):Yr K H (.bl x) (.type "bool")
 | int (i:Int):Yr K H (.int i) (.type "int")
 | str (x:Str):Yr K H (.str x) (.type "str")
 | flt (x:UInt64):Yr K H (.flt x) (.type "float")
 | lst {a:Addr} {xs:List V} (e:H a=some (.lst xs)):Yr K H (.ref a) (.type "list")
 | frz {a:Addr} {o:Obj} {xs:List V} (e:H a=some (.frz o (.lst xs))):Yr K H (.ref a) (.type "list")
 | tup {a:Addr} {xs:List V} (e:H a=some (.tup xs)):Yr K H (.ref a) (.type "tuple")
 | dK {a:Addr} {kvs:List (Key × V)} (e:H a=some (.dK kvs)):Yr K H (.ref a) (.type "dict")
 | dT {a:Addr} {kvs:List (List Key × V)} (e:H a=some (.dT kvs)):Yr K H (.ref a) (.type "dict")
 | ins {a C dx:Addr} {fs:List (Str × V)} (e:H a=some (.ins C dx fs)) (cl:Cls K C) (ha:af K (.ref C) "__class__" = some (some (.builtin "object.__class__")))
   (hn:cf K (.builtin "object.__class__") "__get__" = some (some (.builtin "getset_descriptor.__get__"))) (htk:dm K (.builtin "object.__class__")=some true)
   (hm:bF K C (.type "object")=some true):Yr K H (.ref a) (.ref C)
theorem Va{x:V}{u t:Value}(I:Inv X pins σ H s)(rx:RelV x u)(ty:Yr X.K H x t)(e:aP X.K t c=some b)(h:∀ tk,Q (.bool b) { s with toks:=tk }) :
  wpAny (model X.prog X.w) A (call (.builtin "isinstance") [u,c]) Q E s:=by
 cases ty with
 | non=>cases (show u=Value.none from rx);exact ba PySem.W.kitx_none I.kIn True.intro e (fun z=>nomatch z) h
 | bl y=>cases (show u=Value.bool y from rx);exact ba PySem.W.kitx_bool I.kIn True.intro e (fun z=>nomatch z) h
 | int i=>obtain⟨t,q⟩:=(show ∃ t,u=Value.int i t from rx);cases q;exact ba PySem.W.kitx_int I.kIn True.intro e (fun z=>nomatch z) h
 | str y=>obtain⟨t,q⟩:=(show ∃ t,u=Value.str y t from rx);cases q;exact ba PySem.W.kitx_str I.kIn True.intro e (fun z=>nomatch z) h
 | flt y=>obtain⟨t,q⟩:=(show ∃ t,u=Value.float y t from rx);cases q;exact ba PySem.W.kitx_float I.kIn True.intro e (fun z=>nomatch z) h
 | @lst a xs ea =>
  cases (show u=Value.ref a from rx)
  obtain⟨_,_,n,_,h1⟩:=(show ObjOk X.prog X.w H s.heap a (.lst xs) from I.hok a _ ea)
  exact ba dN I.kIn ⟨_,h1,rfl⟩ e (fun z=>nomatch z) h
 | @frz a ob xs ea =>
  cases (show u=Value.ref a from rx)
  obtain⟨_,_,_,n,_,h1⟩:=(show ObjOk X.prog X.w H s.heap a (.frz ob (.lst xs)) from I.hok a _ ea)
  exact ba dN I.kIn ⟨_,h1,rfl⟩ e (fun z=>nomatch z) h
 | @tup a xs ea =>
  cases (show u=Value.ref a from rx)
  obtain⟨_,_,_,p⟩:=(show ObjOk X.prog X.w H s.heap a (.tup xs) from I.hok a _ ea)
  obtain⟨o,h1,h2,_⟩:=p
  exact ba eR I.kIn ⟨o,h1,h2⟩ e (fun z=>nomatch z) h
 | @dK a kvs ea =>
  cases (show u=Value.ref a from rx)
  obtain⟨_,_,vs,_,p⟩:=(show ObjOk X.prog X.w H s.heap a (.dK kvs) from I.hok a _ ea)
  obtain⟨o,es,ep,h1,h2,_⟩:=p
  exact ba eX I.kIn ⟨o,h1,h2.1⟩ e (fun z=>nomatch z) h
 | @dT a kvs ea =>
  cases (show u=Value.ref a from rx)
  obtain⟨_,_,xs,_,o,es,ep,h1,h2,_⟩:=(show ObjOk X.prog X.w H s.heap a (.dT kvs) from I.hok a _ ea)
  exact ba eX I.kIn ⟨o,h1,h2.1⟩ e (fun z=>nomatch z) h
 | @ins a C dx fs ea cl ha hn htk hm =>
  cases (show u=Value.ref a from rx)
  obtain⟨mA,O,_⟩:=jT I.hok ea
  obtain⟨od,J,_⟩:=O.look
  exact ba (PySem.W.kitx_own (cl.get _) cl.hd ha hn htk hm) I.kIn J e (fun z=>nomatch z) h
end
end L2
namespace L2
structure Room(k:Nat)(A:Around):Prop where
 hd:A.handled=none
 dp:A.depth+3 * k+5<recursionLimit
 un:A.units+16 * k+200<cLine
theorem Room.mono{j k:Nat}{A:Around}(r:Room k A)(h:j<=k):Room j A:=⟨r.hd,by have:=r.dp;lia,by have:=r.un;lia⟩
theorem Room.deeper{k:Nat}{A:Around}(r:Room (k+1) A)(env:Env):Room k (A.deeper env) :=
 ⟨r.hd,by have:=r.dp;show A.depth+1+3 * k+5<_;lia,by have:=r.un;show A.units+3+16 * k+200<_;lia⟩
theorem Room.in1{k:Nat}{A:Around}(r:Room (k+1) A):Room k A.in1 :=
 ⟨r.hd,by have:=r.dp;show A.depth+3 * k+5<_;lia,by have:=r.un;show A.units+1+16 * k+200<_;lia⟩
theorem XH{A:Around}{C:Addr}{us:List Value}{kw:List (Str × Value)}:(A.under (.builtin "type.__call__" ⟨.ref C::us,kw⟩)).depth=A.depth+1:=by
 first | rfl | simp [Around.under,Code.weight,Code.isCreation,Code.isGuard,Code.isCaller,Code.frames,Code.isFrame,guardIds]
theorem Xc{A:Around}{C:Addr}{us:List Value}{kw:List (Str × Value)}:(A.under (.builtin "type.__call__" ⟨.ref C::us,kw⟩)).units=A.units+1:=by
 first | rfl | simp [Around.under,Code.cUnits,Code.frames,Code.isFrame]
theorem Room.make{k:Nat}{A:Around}(r:Room (k+1) A)(C:Addr)(us:List Value)(kw:List (Str × Value)):Room k (A.under (.builtin "type.__call__" ⟨.ref C::us,kw⟩)) :=
 ⟨r.hd,by have:=r.dp;rw[XH];lia,by have:=r.un;rw[Xc];lia⟩
theorem Room.depth{k:Nat}{A:Around}(r:Room k A):A.depth<recursionLimit:=by have:=r.dp;lia
theorem Room.units{k:Nat}{A:Around}(r:Room k A):A.units+64<cLine:=by have:=r.un;lia
noncomputable def wq:TA:=fun _ H Q=>Q [] H
noncomputable def zN(ta:TE)(tr:TA):TA:=fun σ H Q=>ta σ H fun x H1=>tr σ H1 fun xs H2=>Q (x::xs) H2
section
variable{X:Cx}{e:Expr}{es:List Expr}{te:TE}{t:TA}{pos:Pos}
theorem zc:PA X [] wq:=fun _ _ _ _ H Q I h=>Calls.spliced_nil ⟨[],H,I,.nil,h⟩
theorem za(ha:PE X e te)(hr:PA X es t)(hs:oo (e::es) X.env=(false,eval e X.env)::oo es X.env:=by rfl):PA X (e::es) (zN te t):=by
 intro pos pins s σ H Q I h
 rw[hs]
 show wpAny _ _ (spliced ((false,eval e X.env)::backTo pos (oo es X.env))) _ _ s
 refine Calls.spliced_cons (thn (ha pins s σ H _ I h) fun u s1 ⟨x,H1,I1,r1,q1⟩=>?_)
 exact thn (hr pos pins s1 σ H1 _ I1 q1) fun us s2 ⟨xs,H2,I2,r2,q2⟩=>⟨x::xs,H2,I2,.cons r1 r2,q2⟩
noncomputable def QD(t:TA):TE:=fun σ H Q=>t σ H fun xs H1=>xs.length<=oq/\∀ p,H1 p=none->Q (.ref p) (upd H1 p (.tup xs))
noncomputable def zbM(t:TA):TE:=fun σ H Q=>t σ H fun xs H1=>xs.length<=oq/\∀ p,H1 p=none->Q (.ref p) (upd H1 p (.lst xs))
theorem yo{x1}(h:PA X es t):PE X (.Tuple es x1 pos) (QD t):=by
 intro pins s σ H Q I hq
 refine wpAny_Tuple_spliced (thn (h pos pins s σ H _ I hq) fun us s1 ⟨xs,H1,I1,r,z,q⟩=>⟨by rw[<- r.length];exact z,?_⟩)
 have hf:H1 s1.heap.objs.size=none:=I1.hok.fresh (aq _)
 refine⟨.ref s1.heap.objs.size,upd H1 s1.heap.objs.size (.tup xs),I1.laid (t':=s1.toks) (fun b u e=>aa _ e) (aq _) ?_,rfl,q _ hf⟩
 exact⟨z,us,r,⟨_,aF _ rfl,rfl,_,rfl⟩⟩
theorem ue(h:PA X es t):PE X (.List es pos) (zbM t):=by
 intro pins s σ H Q I hq
 refine wpAny_List_spliced (thn (h pos pins s σ H _ I hq) fun us s1 ⟨xs,H1,I1,r,z,q⟩=>⟨by rw[<- r.length];exact z,?_⟩)
 have hf:H1 s1.heap.objs.size=none:=I1.hok.fresh (aq _)
 refine⟨.ref s1.heap.objs.size,upd H1 s1.heap.objs.size (.lst xs),I1.laid (t':=s1.toks) (fun b u e=>aa _ e) (aq _) ?_,rfl,q _ hf⟩
 exact⟨z,us,0,r,aF _ rfl⟩
end
noncomputable abbrev Sp:=List V->Hp->VK->XK->Prop
noncomputable abbrev CXT:=List Env->Hp->Shared->XK->Value->Shared->Prop
structure Env0(P:Program)(w:World)(K:ot)(mg:Str->Option Value)(base:Heap)(A:Around)(outer:List Env)(s:Shared)(H:Hp):Prop where
 frames:A.frames=some outer
 mod:Mod K mg base
 bs:∀ b o,base.get? b=some o->s.heap.get? b=some o/\H b=none
 bsz:base.objs.size<=s.heap.objs.size
 funs:s.heap.FunFrames base outer
 frf:∀ b ∈ frs outer,H b=none
 hok:HOk P w H s.heap
 bare:AllBare s.gens
noncomputable def CE(outer:List Env)(P:Program)(w:World)(H:Hp)(s:Shared)(Q:VK)(u:Value)(s':Shared):Prop :=
 ∃ v H',s'.os=s.os/\AllBare s'.gens/\Un (frs outer) [] H H' s.heap s'.heap/\HOk P w H' s'.heap/\RelV v u/\Q v H'
noncomputable def CR(CX:CXT)(outer:List Env)(P:Program)(w:World)(H:Hp)(s:Shared)(Q:VK)(E:XK)(r:Result)(s':Shared):Prop :=
 match r with
 | .ok (.ret u)=>CE outer P w H s Q u s'
 | .ok _=>False
 | .error e=>CX outer H s E e s'
structure ye(P:Program)(w:World)(K:ot)(mg:Str->Option Value)(base:Heap)(CX:CXT)(k:Nat)(f:Addr)(fd:FuncData)(ps:List Str)(sp:Sp):Prop where
 len:∀ vs H Q E,sp vs H Q E->vs.length=ps.length
 run:∀(A:Around) (outer:List Env) (s:Shared) (H:Hp) (args:Args) (us:List Value) (vs:List V) (Q:VK) (E:XK),Room k A->Env0 P w K mg base A outer s H->BindsTo s fd args (ps.zip us)->Vals vs us->sp vs H Q E ->
  codeAny (model P w) A (.call (.ref f) args) (CR CX outer P w H s Q E) s
theorem Env0.make{P:Program}{w:World}{K:ot}{mg:Str->Option Value}{base:Heap}{A:Around}{outer:List Env}{s:Shared}{H:Hp}(e:Env0 P w K mg base A outer s H)(C:Addr)(us:List Value)(kw:List (Str × Value)) :
  Env0 P w K mg base (A.under (.builtin "type.__call__" ⟨.ref C::us,kw⟩)) outer s H:=⟨by first | exact e.frames | (simpa [Around.under,Code.envs,Code.isFrame,pushEnvs] using e.frames),e.mod,e.bs,e.bsz,e.funs,e.frf,e.hok,e.bare⟩
section
variable{X:Cx}{pins:List (Addr × Obj)}{σ:St}{H:Hp}{s s':Shared}
theorem Inv.env0(I:Inv X pins σ H s):Env0 X.prog X.w X.K X.mg X.base X.A X.stack s H :=
 ⟨I.ok.frames,I.ok.mod,I.bs,aQ I.ok.bsz I.sz,I.stack,I.stkFree,I.hok,I.bare⟩
theorem Inv.after{Q:VK}{u:Value}(I:Inv X pins σ H s)(h:CE X.stack X.prog X.w H s Q u s'):EP X pins σ Q u s':=by
 obtain⟨v,H',os,bare,un,hok,r,q⟩:=h
 obtain⟨hh,g,d,t,os'⟩:=s'
 obtain rfl:os'=s.os:=os
 exact⟨v,H',I.call (h':=hh) (g':=g) (d':=d) (t':=t) (ch:=[]) un hok bare (fun b z=>absurd z (by simp)),r,q⟩
end
noncomputable def qv(sp:Sp)(dvs:List V)(E:XK)(t:TA):TE:=fun σ H Q=>t σ H fun vs H1=>sp (vs ++ dvs) H1 Q E
noncomputable def Zh(C:Addr)(m:Str)(sp:Sp)(dvs:List V)(E:XK)(ta:TE)(t:TA):TE:=fun σ H Q=>ta σ H fun x H1=>∃ a dx fs,x=.ref a/\H1 a=some (.ins C dx fs)/\fs.lookup m=none /\
 t σ H1 fun vs H2=>sp (x::(vs ++ dvs)) H2 Q E
noncomputable def UR(C:Addr)(sp:Sp)(dvs:List V)(E:XK)(t:TA):TE:=fun σ H Q=>t σ H fun vs H1=>∀ x dx,H1 x=none->H1 dx=none->dx≠x ->
 sp (.ref x::(vs ++ dvs)) (upd (upd H1 dx (.own x)) x (.ins C dx [])) (fun v H2=>v=.non/\Q (.ref x) H2) E
noncomputable def Binds(K:ot)(fd:FuncData)(ps:List Str)(ds:List Value):Prop :=
 ∀(s:Shared) (us:List Value),K.In s.heap->(us ++ ds).length=ps.length->BindsTo s fd ⟨us,[]⟩ (ps.zip (us ++ ds))
theorem Binds.all{K:ot}{fd:FuncData}{ps:List Str}(h:∀ us:List Value,us.length=ps.length->bindArgs fd ⟨us,[]⟩=pure (ps.zip us)):Binds K fd ps []:=fun s us _ hl=>by
 rw[aU] at hl ⊢
 exact .of_eq (h us hl)
noncomputable def uk(CX:CXT)(X:Cx)(E:XK):Prop:=∀(pins:List (Addr × Obj)) (σ:St) (H:Hp) (s:Shared) (e:Value) (s':Shared),Inv X pins σ H s->CX X.stack H s E e s'->X.xe e s'
section
variable{X:Cx}{CX:CXT}{k:Nat}{f C:Addr}{fd:FuncData}{ps:List Str}{sp:Sp}{dvs:List V}{ds:List Value}{E:XK}{x m:Str}{p pos apos:Pos}{e o:Expr}{es:List Expr}{ta:TE}{t:TA}
theorem jl{pins:List (Addr × Obj)}{σ:St}{H:Hp}{s:Shared}{Q:VK}{us:List Value}{vs:List V}(F:ye X.prog X.w X.K X.mg X.base CX k f fd ps sp)(hr:Room k X.A)(hb:Binds X.K fd ps ds)(hd:Vals dvs ds)(hx:uk CX X E)
  (I:Inv X pins σ H s) (r:Vals vs us) (h:sp (vs ++ dvs) H Q E):wpAny (model X.prog X.w) X.A (call (.ref f) us) (EP X pins σ Q) X.xe s:=by
 have r2:Vals (vs ++ dvs) (us ++ ds):=r.append hd
 have hl:(us ++ ds).length=ps.length:=by rw[<- r2.length];exact F.len _ _ _ _ h
 refine wpAny_call (codeAny_mono (F.run X.A X.stack s H ⟨us,[]⟩ (us ++ ds) (vs ++ dvs) Q E hr I.env0 (hb s us I.kIn hl) r2 h) fun r s' hq=>?_)
 cases r with
 | error e=>exact hx pins σ H s e s' I hq
 | ok fl =>
  cases fl with
  | ret u=>exact I.after hq
  | next=>exact False.elim hq
  | brk=>exact False.elim hq
  | cont=>exact False.elim hq
theorem WC(F:ye X.prog X.w X.K X.mg X.base CX k f fd ps sp)(hr:Room k X.A)(hg:Gl X x)(hm:X.mg x=some (.ref f))(hk:ah X.K (.ref f)=true)(hb:Binds X.K fd ps ds)(hd:Vals dvs ds)(hx:uk CX X E)
  (ha:PA X (e::es) t) (hdb:(x == ("__debug__" : Str))=false:=by decide) (he:oo (e::es) X.env=(false,eval e X.env)::oo es X.env:=by rfl) (hpl:(backTo pos (oo es X.env)).any (·.1)=false:=by rfl) :
  PE X (.Call (.Name x p) (e::es) [] pos) (qv sp dvs E t):=by
 intro pins s σ H Q I h
 refine wpAny_Call_Name_kw (ve I hg hm ?_ hdb)
 refine bC (h₀:=X.base) I.ok.mod.kin hk (thn (ha pos pins s σ H _ I h) fun us s1 ⟨vs,H1,I1,r,q⟩=>⟨I1.kIn,?_⟩) he hpl
 exact jl F hr hb hd hx I1 r q
theorem Jb{pl:Sem Bool}(he:PE X o ta)(c:Cls X.K C)(hm:zax X.K C m f)(F:ye X.prog X.w X.K X.mg X.base CX k f fd ps sp)(hr:Room k X.A)(hb:Binds X.K fd ps ds)(hd:Vals dvs ds)(hx:uk CX X E)(ha:PA X (e::es) t)
    (hst:oo (e::es) X.env=(false,eval e X.env)::oo es X.env:=by rfl) (hpl:(backTo pos (oo es X.env)).any (·.1)=false:=by rfl)
    (ht:eval (.Call (.Attribute o m apos) (e::es) [] pos) X.env=(do
      let ov <- eval o X.env
      standAt apos.atName
      let (f,first) <- holding [ov] (getMethod ov m pl)
      callWith pos f first (backTo pos (oo (e::es) X.env)) (backToKw pos (keywordEach [] X.env))):=by rfl) :
    PE X (.Call (.Attribute o m apos) (e::es) [] pos) (Zh C m sp dvs E ta t):=by
  intro pins s σ H Q I h
  refine bN (pl:=pl) (thn (he pins s σ H _ I h) fun u s1 ⟨x,H1,I1,rx,a,dx,fs,ex,ea,l,q⟩=>?_) ht
  subst ex
  obtain rfl:u=Value.ref a:=rx
  refine xV I1 ea c hm l ?_
  refine bC (first:=[.ref a]) (h₀:=X.base) I.ok.mod.kin hm.kp (thn (ha pos pins s1 σ H1 _ I1 q) fun us s2 ⟨vs,H2,I2,r,q2⟩=>⟨I2.kIn,?_⟩) hst hpl
  exact jl (us:=.ref a::us) (vs:=.ref a::vs) F hr hb hd hx I2 (.cons rfl r) q2
theorem Ue{pl:Sem Bool}(he:PE X o ta)(c:Cls X.K C)(hm:zax X.K C m f)(F:ye X.prog X.w X.K X.mg X.base CX k f fd ps sp)(hr:Room k X.A)(hb:Binds X.K fd ps ds)(hd:Vals dvs ds)(hx:uk CX X E)
    (ht:eval (.Call (.Attribute o m apos) [] [] pos) X.env=(do
      let ov <- eval o X.env
      standAt apos.atName
      let (f,first) <- holding [ov] (getMethod ov m pl)
      callWith pos f first (backTo pos (oo [] X.env)) (backToKw pos (keywordEach [] X.env))):=by rfl) :
    PE X (.Call (.Attribute o m apos) [] [] pos) (Zh C m sp dvs E ta wq):=by
  intro pins s σ H Q I h
  refine bN (pl:=pl) (thn (he pins s σ H _ I h) fun u s1 ⟨x,H1,I1,rx,a,dx,fs,ex,ea,l,q⟩=>?_) ht
  subst ex
  obtain rfl:u=Value.ref a:=rx
  refine xV I1 ea c hm l ?_
  exact eP (first:=[.ref a]) I1.kIn hm.kp (jl (us:=[.ref a]) (vs:=[.ref a]) F hr hb hd hx I1 (.cons rfl .nil) q)
structure Mk(K:ot)(C f:Addr):Prop where
 makes:cw K C=true
 init:af K (.ref C) "__init__" = some (some (.ref f))
 fn:aY K (.ref f)=true
 kp:ah K (.ref C)=true
theorem V8{pins:List (Addr × Obj)}{σ:St}{H:Hp}{s:Shared}{Q:VK}{us:List Value}{vs:List V}(M:Mk X.K C f)(F:ye X.prog X.w X.K X.mg X.base CX k f fd ps sp)(hr:Room (k+1) X.A)(hb:Binds X.K fd ps ds)(hd:Vals dvs ds)
  (hx:uk CX X E) (I:Inv X pins σ H s) (r:Vals vs us)
  (h:∀ x dx,H x=none->H dx=none->dx≠x->sp (.ref x::(vs ++ dvs)) (upd (upd H dx (.own x)) x (.ins C dx [])) (fun v H2=>v=.non/\Q (.ref x) H2) E) :
  wpAny (model X.prog X.w) X.A (call (.ref C) us) (EP X pins σ Q) X.xe s:=by
 have hq:=h (s.heap.objs.size+1) s.heap.objs.size (I.hok.fresh (cA _)) (I.hok.fresh (aq _)) (aA (Nat.lt_succ_self _))
 have I2:=Inv.made (C:=C) I
 have r2:Vals (V.ref (s.heap.objs.size+1)::(vs ++ dvs)) (Value.ref (s.heap.objs.size+1)::(us ++ ds)):=.cons rfl (r.append hd)
 have hl:(Value.ref (s.heap.objs.size+1)::us ++ ds).length=ps.length:=by
  have e:=r2.length
  rw[F.len _ _ _ _ hq] at e
  exact e.symm
 refine wpAny_call (UK (f:=f) I.kIn M.makes M.init (beq_iff_eq.mp M.fn) (codeAny_mono (F.run _ X.stack _ _ ⟨Value.ref (s.heap.objs.size+1)::us,[]⟩ (Value.ref (s.heap.objs.size+1)::(us ++ ds)) _ _ E (hr.make C us [])
  (I2.env0.make C us []) (hb _ (Value.ref (s.heap.objs.size+1)::us) I2.kIn hl) r2 hq) fun r s' hq'=>?_))
 cases r with
 | error e=>exact hx pins σ _ _ e s' I2 hq'
 | ok fl =>
  cases fl with
  | ret u =>
   obtain⟨v,H',I3,rv,ev,q3⟩:=I2.after hq'
   subst ev
   exact⟨rv,⟨V.ref (s.heap.objs.size+1),H',I3,rfl,q3⟩⟩
  | next=>exact False.elim hq'
  | brk=>exact False.elim hq'
  | cont=>exact False.elim hq'
theorem Vj(M:Mk X.K C f)(F:ye X.prog X.w X.K X.mg X.base CX k f fd ps sp)(hr:Room (k+1) X.A)(hg:Gl X x)(hm:X.mg x=some (.ref C))(hb:Binds X.K fd ps ds)(hd:Vals dvs ds)(hx:uk CX X E)
  (ha:PA X (e::es) t) (hdb:(x == ("__debug__" : Str))=false:=by decide) (he:oo (e::es) X.env=(false,eval e X.env)::oo es X.env:=by rfl) (hpl:(backTo pos (oo es X.env)).any (·.1)=false:=by rfl) :
  PE X (.Call (.Name x p) (e::es) [] pos) (UR C sp dvs E t):=by
 intro pins s σ H Q I h
 refine wpAny_Call_Name_kw (ve I hg hm ?_ hdb)
 refine bC (h₀:=X.base) I.ok.mod.kin M.kp (thn (ha pos pins s σ H _ I h) fun us s1 ⟨vs,H1,I1,r,q⟩=>⟨I1.kIn,?_⟩) he hpl
 exact V8 M F hr hb hd hx I1 r q
end
noncomputable def PK(X:Cx)(kws:List Keyword)(t:TA):Prop :=
 ∀(pos:Pos) (pins:List (Addr × Obj)) (s:Shared) (σ:St) (H:Hp) (Q:List V->Hp->Prop),Inv X pins σ H s->t σ H Q->wpAny (model X.prog X.w) X.A (evalAll ((backToKw pos (keywordEach kws X.env)).map (·.2))) (AP X pins σ Q) X.xe s
section
variable{X:Cx}{CX:CXT}{k:Nat}{f C:Addr}{fd:FuncData}{ps ks:List Str}{sp:Sp}{E:XK}{x m:Str}{p pos apos kpos:Pos}{e o:Expr}{es:List Expr}{kws:List Keyword}{te ta:TE}{t tk:TA}{nm:Option Str}
theorem Qx:PK X [] wq:=fun _ _ _ _ H Q I h=>wpAny_evalAll_nil ⟨[],H,I,.nil,h⟩
theorem XV(ha:PE X e te)(hr:PK X kws t):PK X (⟨nm,e,kpos⟩::kws) (zN te t):=by
 intro pos pins s σ H Q I h
 show wpAny _ _ (evalAll ((do let v <- eval e X.env;standAt pos;pure v)::(backToKw pos (keywordEach kws X.env)).map (·.2))) _ _ s
 refine wpAny_evalAll_cons (oh (thn (ha pins s σ H _ I h) fun u s1 ⟨x,H1,I1,r1,q1⟩=>oh (wpAny_standAt (oj ?_))))
 exact thn (hr pos pins s1 σ H1 _ I1 q1) fun us s2 ⟨xs,H2,I2,r2,q2⟩=>⟨x::xs,H2,I2,.cons r1 r2,q2⟩
variable{g:List Value->List Value->List Value}{gV:List V->List V->List V}
end
structure zr(N P:List Str)(sc:Scope):Prop where
 kind:sc.kind=.function
 co:sc.isCoroutine=false
 gen:sc.isGenerator=false
 nd:N.Nodup
 pre:N.take P.length=P
 par:∀ x ∈ P,sc.names.lookup x=some .local\/sc.names.lookup x=some .cell
 nofree:∀ y ∈ sc.names,y.2≠.free
theorem kD{kindOf:Str->Option NameKind}{x:Str}:∀{binds:List (Str × Value)} {m:Str->Option Value},(∀ v,(x,v) ∉ binds)->bindL kindOf binds m x=m x
  | [],_,_=>rfl
  | (n,v)::r,m,h=>by
    unfold bindL
    rw[kD fun w hw=>h w (aw _ hw)]
    split
    . have:x≠n:=by rintro rfl;exact h v aI
      simp [this]
    . rfl
theorem kK{kindOf:Str->Option NameKind}{x:Str}:∀{binds:List (Str × Value)} {m:Str->Option Value},(∀ v,(x,v) ∉ binds)->bindC kindOf binds m x=m x
  | [],_,_=>rfl
  | (n,v)::r,m,h=>by
    unfold bindC
    rw[kK fun w hw=>h w (aw _ hw)]
    split
    . rfl
    . have:x≠n:=by rintro rfl;exact h v aI
      simp [this]
theorem ZB{kindOf:Str->Option NameKind}{x:Str}{v:Value}:∀{P:List Str} {vs:List Value} {i:Nat} {m:Str->Option Value},P.Nodup->P[i]? = some x->vs[i]? = some v->kindOf x=some .local ->
  bindL kindOf (P.zip vs) m x=some v
 | [],_,_,_,_,h,_,_=>by simp at h
 | _::_,[],_,_,_,_,h,_=>by simp at h
 | p::P,w::vs,0,m,nd,h1,h2,hk=>by
  simp at h1 h2;subst h1;subst h2
  show bindL kindOf ((p,w)::P.zip vs) m p=_
  unfold bindL
  rw[kD fun v hv=>(List.nodup_cons.mp nd).1 (cJ hv).1,if_pos hk]
  simp
 | p::P,w::vs,i+1,m,nd,h1,h2,hk=>by
  show bindL kindOf ((p,w)::P.zip vs) m x=_
  unfold bindL
  exact ZB (i:=i) (List.nodup_cons.mp nd).2 (by simpa using h1) (by simpa using h2) hk
theorem Zq{kindOf:Str->Option NameKind}{x:Str}{v:Value}:∀{P:List Str} {vs:List Value} {i:Nat} {m:Str->Option Value},P.Nodup->P[i]? = some x->vs[i]? = some v->kindOf x≠some .local ->
  bindC kindOf (P.zip vs) m x=some v
 | [],_,_,_,_,h,_,_=>by simp at h
 | _::_,[],_,_,_,_,h,_=>by simp at h
 | p::P,w::vs,0,m,nd,h1,h2,hk=>by
  simp at h1 h2;subst h1;subst h2
  show bindC kindOf ((p,w)::P.zip vs) m p=_
  unfold bindC
  rw[kK fun v hv=>(List.nodup_cons.mp nd).1 (cJ hv).1,if_neg hk]
  simp
 | p::P,w::vs,i+1,m,nd,h1,h2,hk=>by
  show bindC kindOf ((p,w)::P.zip vs) m x=_
  unfold bindC
  exact Zq (i:=i) (List.nodup_cons.mp nd).2 (by simpa using h1) (by simpa using h2) hk
noncomputable def start(N:List Str)(vs:List V):St:=vs.map some ++ aO (N.length - vs.length) none
noncomputable def uA(CX:CXT)(P:Program)(w:World)(K:ot)(mg:Str->Option Value)(base:Heap)(N:List Str)(qual:Str)(scope:Scope)(f:Addr)(cd:Value)(A:Around)(outer:List Env)(s:Shared)(H:Hp)(E:XK):Cx where
 prog:=P
 w:=w
 K:=K
 mg:=mg
 base:=base
 A:=A.deeper (envOfC qual scope s.heap.objs.size f cd)
 N:=N
 s₀:=s
 H₀:=H
 env:=envOfC qual scope s.heap.objs.size f cd
 outer:=outer
 stack:=envOfC qual scope s.heap.objs.size f cd::outer
 ex:=[]
 calm:=true
 fn:=fun _=>true
 pn:=[]
 xe:=fun e s'=>wpAny (model P w) (A.deeper (envOfC qual scope s.heap.objs.size f cd)) (leaving (envOfC qual scope s.heap.objs.size f cd) e) (fun _ s''=>CX outer H s E e s'') (fun e' s''=>CX outer H s E e' s'') s'
theorem Yn{sc:Scope}{n:Nat}{x:Str}(h:sc.names.lookup x=some .cell):∃ c,(cellsFrom n sc.names []).lookup x=some c:=by
 have q:=et sc.names n [] (.inl h)
 exact Option.isSome_iff_exists.mp q
theorem VM{CX:CXT}{P:Program}{w:World}{K:ot}{mg:Str->Option Value}{base:Heap}{N ps:List Str}{qual:Str}{scope:Scope}{f:Addr}{cd:Value}{A:Around}{outer:List Env}{s s1:Shared}{H:Hp}{E:XK}{us:List Value}{vs:List V}
  (S:zr N ps scope) (hd:A.handled=none) (e0:Env0 P w K mg base A outer s H) (hl:vs.length=ps.length) (r:Vals vs us)
  (x:InCallC s s.heap.objs.size (bindL (envOfC qual scope s.heap.objs.size f cd).kindOf (ps.zip us) fun _=>none) (cellsFrom (s.heap.objs.size+1) scope.names []) (bindC (envOfC qual scope s.heap.objs.size f cd).kindOf (ps.zip us) fun _=>none) s1) :
  Inv (uA CX P w K mg base N qual scope f cd A outer s H E) [] (start N vs) H s1:=by
 have hpl:ps.length<=N.length:=by have:=congrArg eY S.pre;rw[aJ] at this;lia
 obtain⟨h1,tk,rfl,hk⟩:=x.done
 have noA:∀ b:Addr,b ∉ (uA CX P w K mg base N qual scope f cd A outer s H E).ex:=fun b z=>absurd (show b ∈ ([]:List Addr) from z) (by simp)
 refine⟨⟨e0.mod,S.kind,rfl,rfl,aq _,fun y z c h1 h2=>?_,fun y hy=>?_,fun y c _ h=>?_,fun _=>hd,Around.frames_deeper e0.frames,.inr ⟨rfl,rfl⟩,fun b z=>absurd z (noA b),e0.bs,e0.bsz,fun b _ _=>noA b,fun b z=>absurd z (noA b),e0.funs,e0.frf⟩,
  rfl,e0.bare,Un.kept hk,⟨_,x.toInCall.ns,fun i y v h1 h2 h3=>?_⟩,fun y c h=>⟨_,x.cell y c h⟩,e0.hok.fresh (aq _),fun y c h=>?_,fun p hp=>absurd (show p ∈ ([]:List (Addr × Obj)) from hp) (by simp),e0.hok.kept hk,?_⟩
 ·exact name_of_addr x.apart (bK h1) (bK h2)
 ·have hy:scope.names.lookup y=some .cell\/scope.names.lookup y=some .free:=hy
  rcases hy with hy | hy
  ·exact Yn hy
  ·exact absurd rfl (S.nofree _ (bK hy))
 ·exact cS (x.above y c (bK h))
 ·have hi:i<vs.length:=by
   unfold start at h2
   by_cases hi:i<vs.length
   ·exact hi
   ·rw[cb (by simpa using hi)] at h2
    rw[d7] at h2
    split at h2 <;> cases h2
  have ha:vs[i]? = some v:=by
   unfold start at h2
   rw[cK (by simpa using hi),aE] at h2
   cases e:vs[i]? with
   | none=>rw[e] at h2;cases h2
   | some a=>rw[e] at h2;cases h2;rfl
  obtain⟨u,hu,rv⟩:=r.get ha
  have hp:ps[i]? = some y:=by
   rw[<- S.pre,cT (by lia)];exact h1
  have ndP:ps.Nodup:=by rw[<- S.pre];exact S.nd.sublist (List.take_sublist _ _)
  refine⟨u,rv,?_⟩
  rcases S.par y (ac hp) with k | k
  ·exact .inl ⟨k,ZB ndP hp hu k⟩
  ·obtain⟨c,e⟩:=Yn (n:=s.heap.objs.size+1) k
   refine .inr ⟨.inl k,c,e,?_⟩
   have q:=x.cell y c e
   rw[Zq ndP hp hu (by show scope.names.lookup y≠_;rw[k];decide)] at q
   exact q
 ·exact e0.hok.fresh (cS (x.above y c (bK h)))
 ·unfold start
  show _=N.length
  rw[au,ag,bi]
  lia
theorem U5{CX:CXT}{P:Program}{w:World}{K:ot}{mg:Str->Option Value}{base:Heap}{k:Nat}{f:Addr}{name qual:Str}{params:Arguments}{body:List Stmt}{scope:Scope}{dV kV doc pm cdv ct oc:Value}{an od:Option Addr}
  {osl:Array (Option Value)} {N ps:List Str} {sp:Sp} (lk:K.lookup f=some ⟨oc,od,.func (ar name qual params body scope dV kV doc pm an cdv ct),osl⟩) (hcd:ao K cdv qual=true) (S:zr N ps scope)
  (len:∀ vs H Q E,sp vs H Q E->vs.length=ps.length)
  (hbody:∀(A:Around) (outer:List Env) (s:Shared) (H:Hp) (vs:List V) (Q:VK) (E:XK),Room k (A.deeper (envOfC qual scope s.heap.objs.size f cdv))->sp vs H Q E ->
   ∃ t,PSs (uA CX P w K mg base N qual scope f cdv A outer s H E) body t/\t { nx:=fun _ H'=>Q .non H',rt:=Q } (start N vs) H) :
  ye P w K mg base CX (k+1) f (ar name qual params body scope dV kV doc pm an cdv ct) ps sp:=by
 refine⟨len,fun A outer s H args us vs Q E hr e0 hb r hsp=>?_⟩
 have hl:=len _ _ _ _ hsp
 have KX:K.In s.heap:=e0.mod.kin.keeps fun b o e=>(e0.bs b o e).1
 have lim:s.heap.NoLimit:=e0.mod.nolimit.keeps fun b o e=>(e0.bs b o e).1
 have hkind:∀ y ∈ ps.zip us,scope.names.lookup y.1=some .local\/(scope.names.lookup y.1=some .cell/\((cellsFrom (s.heap.objs.size+1) scope.names []).lookup y.1).isSome=true):=fun⟨n,v⟩ hy=>by
  rcases S.par n (cJ hy).1 with q | q
  ·exact .inl q
  ·exact .inr ⟨q,et _ _ _ (.inl q)⟩
 refine codeAny_call_function hr.depth (KX _ _ lk) rfl S.co S.gen rfl (PySem.W.codeRec_of KX hcd) (hb _ _ _ _ ?_)
 refine wpAny_newFunctionEnv_cells S.kind hkind fun env he s1 x=>?_
 subst he
 refine⟨lim.keeps x.toInCall.keep,codeAny_func ?_⟩
 obtain⟨t,ht,hq⟩:=hbody A outer s H vs Q E (hr.deeper _) hsp
 have I:Inv (uA CX P w K mg base N qual scope f cdv A outer s H E) [] (start N vs) H s1:=VM S hr.hd e0 hl r x
 refine wpAny_mono (ht [] s1 (start N vs) H _ I hq) (fun fl s' hs=>?_) fun e s' hs=>hs
 have fin:∀{σ':St} {H':Hp} {v:V} {u:Value},Inv (uA CX P w K mg base N qual scope f cdv A outer s H E) [] σ' H' s'->RelV v u->Q v H'->CE outer P w H s Q u s' :=
  fun {σ' H' v u} J rv q=>⟨v,H',J.os,J.bare,J.base,J.hok,rv,q⟩
 cases fl with
 | ret u =>
  obtain⟨v,σ',H',J,rv,q⟩:=hs
  exact fin J rv q
 | next =>
  obtain⟨σ',H',J,q⟩:=hs
  exact fin (v:=V.non) (u:=Value.none) J rfl q
 | brk =>
  obtain⟨_,_,_,q⟩:=hs
  exact False.elim q
 | cont =>
  obtain⟨_,_,_,q⟩:=hs
  exact False.elim q
end L2
namespace L2
section
variable{X:Cx}{x:Str}{p pos:Pos}{e:Expr}{es:List Expr}{t:TA}{id T:String}{r:List V->Hp->VK->Prop}
noncomputable def tCB(r:List V->Hp->VK->Prop)(t:TA):TE:=fun σ H Q=>t σ H fun vs H1=>r vs H1 Q
theorem zm(hc:vf X (.builtin id) r)(hg:Gl X x)(hm:X.mg x=none)(hv:bootBuiltins x=some (.builtin id))(ha:PA X (e::es) t)(hn:x≠"__name__":=by decide)(hdb:(x == ("__debug__" : Str))=false:=by decide)
  (he:oo (e::es) X.env=(false,eval e X.env)::oo es X.env:=by rfl) (hpl:(backTo pos (oo es X.env)).any (·.1)=false:=by rfl):PE X (.Call (.Name x p) (e::es) [] pos) (tCB r t):=by
 intro pins s σ H Q I h
 refine wpAny_Call_Name_kw (w4 I hg hm hv ?_ hn hdb)
 exact PyProof.Rows.callWith_builtin1 (thn (ha pos pins s σ H _ I h) fun us s1 ⟨vs,H1,I1,r1,q1⟩=>hc pins s1 σ H1 vs us Q I1 r1 q1) he hpl
theorem xW(hc:vf X (.type T) r)(hg:Gl X x)(hm:X.mg x=none)(hv:bootBuiltins x=some (.type T))(ha:PA X (e::es) t)(hn:x≠"__name__":=by decide)(hdb:(x == ("__debug__" : Str))=false:=by decide)
  (he:oo (e::es) X.env=(false,eval e X.env)::oo es X.env:=by rfl) (hpl:(backTo pos (oo es X.env)).any (·.1)=false:=by rfl):PE X (.Call (.Name x p) (e::es) [] pos) (tCB r t):=by
 intro pins s σ H Q I h
 refine wpAny_Call_Name_kw (w4 I hg hm hv ?_ hn hdb)
 exact bn (thn (ha pos pins s σ H _ I h) fun us s1 ⟨vs,H1,I1,r1,q1⟩=>hc pins s1 σ H1 vs us Q I1 r1 q1) he hpl
end
end L2
namespace HT
open PySem PyProof.Rows
section
open PySem.SeqAt
open PySem.AutoSeq1 (wpAny_loadPart')
open PySem.MeetsSeq PySem.MeetsSeq2 PySem.MeetsSeq3
end
section
variable{prog:Program}{w:World}{A:Around}{E:Value->Shared->Prop}{s:Shared}
noncomputable def sIx(n d:Nat):Option Int->Nat
 | none=>d
 | some v=>if v<0 then (v+(n:Int)).toNat else min v.toNat n
theorem sIx_none(n d:Nat):sIx n d none=d:=rfl
theorem sIx_nat(n d k:Nat):sIx n d (some (k:Int))=min k n:=by
 show (if (k:Int)<0 then ((k:Int)+(n:Int)).toNat else min (k:Int).toNat n)=min k n
 rw[if_neg (by lia),aW]
theorem sIx_le(n d:Nat)(hd:d<=n)(o:Option Int):sIx n d o<=n:=by
 cases o with
 | none=>exact hd
 | some v =>
  show (if v<0 then (v+(n:Int)).toNat else min v.toNat n)<=n
  by_cases hv:v<0
  ·rw[if_pos hv];lia
  ·rw[if_neg hv];exact Nat.min_le_right _ _
end
end HT
namespace L2
noncomputable abbrev TO:=St->Hp->(Option Int->Hp->Prop)->Prop
noncomputable def PO(X:Cx)(e:Option Expr)(t:TO):Prop :=
 ∀(pins:List (Addr × Obj)) (s:Shared) (σ:St) (H:Hp) (Q:Option Int->Hp->Prop),Inv X pins σ H s->t σ H Q ->
  wpAny (model X.prog X.w) X.A (evalPart e X.env) (fun u s'=>∃ o H',Inv X pins σ H' s'/\IsPart u o/\Q o H') X.xe s
noncomputable def W6:TO:=fun _ H Q=>Q none H
noncomputable def K3(t:TE):TO:=fun σ H Q=>t σ H fun x H1=>∃ i,x=.int i/\Q (some i) H1
section
variable{X:Cx}{e:Expr}{te:TE}{lo hi:Option Expr}{tl th:TO}{pos p2:Pos}
theorem xN:PO X none W6:=by
 intro pins s σ H Q I h
 rw[evalPart_none]
 exact oj ⟨none,H,I,.none,h⟩
theorem yC(h:PE X e te):PO X (some e) (K3 te):=by
 intro pins s σ H Q I hw
 rw[evalPart_some]
 refine thn (h pins s σ H _ I hw) fun u s1 ⟨x,H1,I1,r1,q1⟩=>?_
 obtain⟨i,rfl,q⟩:=q1
 obtain⟨t,rfl⟩:=r1
 exact⟨some i,H1,I1,.int i t,q⟩
noncomputable def SlR(X:Cx)(r:V->Option Int->Option Int->Hp->VK->Prop):Prop :=
 ∀(pins:List (Addr × Obj)) (s:Shared) (σ:St) (H:Hp) (x:V) (v vl vu:Value) (lo hi:Option Int) (sl:Addr) (Q:VK),Inv X pins σ H s->RelV x v->s.heap.IsSliceOf sl vl vu .none->IsPart vl lo->IsPart vu hi->r x lo hi H Q ->
  ∃ T id,typeLookup (.type T) "__getitem__" = pure (some (.builtin id))/\s.TypeIs v T/\wpAny (model X.prog X.w) X.A (getItem v (.ref sl)) (EP X pins σ Q) X.xe s
theorem SlR.or{r r':V->Option Int->Option Int->Hp->VK->Prop}(h:SlR X r)(h':SlR X r'):SlR X (fun x lo hi H Q=>r x lo hi H Q\/r' x lo hi H Q):=by
 intro pins s σ H x v vl vu lo hi sl Q I rx hs pl pu q
 rcases q with q | q
 ·exact h pins s σ H x v vl vu lo hi sl Q I rx hs pl pu q
 ·exact h' pins s σ H x v vl vu lo hi sl Q I rx hs pl pu q
noncomputable def tSl(r:V->Option Int->Option Int->Hp->VK->Prop)(te:TE)(tl th:TO):TE:=fun σ H Q=>te σ H fun x H1=>tl σ H1 fun l H2=>th σ H2 fun u H3=>r x l u H3 Q
theorem yA{r:V->Option Int->Option Int->Hp->VK->Prop}(hr:SlR X r)(he:PE X e te)(hl:PO X lo tl)(hu:PO X hi th):PE X (.Subscript e (.Slice lo hi none p2) pos) (tSl r te tl th):=by
 intro pins s σ H Q I h
 refine Subscript_ (thn (he pins s σ H _ I h) fun v s1 ⟨x,H1,I1,r1,q1⟩=>?_)
 refine wpAny_Slice (thn (hl pins s1 σ H1 _ I1 q1) fun vl s2 ⟨l,H2,I2,pl,q2⟩=>thn (hu pins s2 σ H2 _ I2 q2) fun vu s3 ⟨u,H3,I3,pu,q3⟩=>?_)
 rw[evalPart_none]
 refine oj ?_
 have I4:Inv X pins σ H3 { s3 with heap:=s3.heap.push { cls:=.type "slice",data:=.fields #[vl,vu,.none] } }:=I3.kept (t':=s3.toks) fun b ob q=>aa _ q
 obtain⟨T,id,hT,ht,hg⟩:=hr pins { s3 with heap:=s3.heap.push { cls:=.type "slice",data:=.fields #[vl,vu,.none] } } σ H3 x v vl vu l u s3.heap.objs.size Q I4 r1 (Heap.IsSliceOf.new ..) pl pu q3
 show wpAny (model X.prog X.w) X.A (subscriptTail e (.Slice lo hi none p2) v (.ref s3.heap.objs.size)) (EP X pins σ Q) X.xe { s3 with heap:=s3.heap.push { cls:=.type "slice",data:=.fields #[vl,vu,.none] } }
 exact tail_any (ops:=[.ref s3.heap.objs.size,v]) ht hT hg (by with_unfolding_all rfl)
noncomputable def Ke(xs:List V)(lo hi:Option Int):List V:=(xs.drop (HT.sIx xs.length 0 lo)).take (HT.sIx xs.length xs.length hi - HT.sIx xs.length 0 lo)
theorem ZV(xs:List V)(lo hi:Option Int):(Ke xs lo hi).length<=xs.length:=by
 unfold Ke
 rw[aJ,be]
 lia
end
end L2
namespace L2
noncomputable def ixN(n:Nat)(i:Int):Option Nat:=if 0<=i then (if i<n then some i.toNat else none) else if -(n:Int)<=i then some (i+n).toNat else none
noncomputable def atI{α:Type}(xs:List α)(i:Int):Option α:=(ixN xs.length i).bind fun j=>xs[j]?
theorem JJ{n:Nat}{i:Int}{j:Nat}(h:ixN n i=some j):seqIndex? i n=some j/\j<n/\-(n:Int)<=i/\i<n:=by
 unfold ixN at h
 by_cases h0:0<=i
 ·rw[if_pos h0] at h
  by_cases h1:i<n
  ·rw[if_pos h1] at h
   have e:i.toNat=j:=Option.some.inj h
   exact⟨by rw[seqIndex_of h0 h1,e],by lia,by lia,h1⟩
  ·rw[if_neg h1] at h;cases h
 ·rw[if_neg h0] at h
  by_cases h1:-(n:Int)<=i
  ·rw[if_pos h1] at h
   have e:(i+n).toNat=j:=Option.some.inj h
   exact⟨by rw[seqIndex_neg (by lia) h1,e],by lia,h1,by lia⟩
  ·rw[if_neg h1] at h;cases h
theorem ZX{α:Type}{xs:List α}{i:Int}{v:α}(h:atI xs i=some v):∃ j,seqIndex? i xs.length=some j/\xs[j]? = some v/\j<xs.length/\-(xs.length:Int)<=i/\i<xs.length:=by
 unfold atI at h
 cases e:ixN xs.length i with
 | none=>rw[e] at h;cases h
 | some j =>
  rw[e] at h
  obtain⟨h1,h2,h3,h4⟩:=JJ e
  exact⟨j,h1,h,h2,h3,h4⟩
theorem jZ{α:Type}{xs:List α}{j:Nat}{v:α}(h:xs[j]? = some v):atI xs (j:Int)=some v:=by
 have hj:j<xs.length:=(List.getElem?_eq_some_iff.mp h).1
 have e:ixN xs.length (j:Int)=some j:=by
  unfold ixN
  rw[if_pos (by lia),if_pos (by lia)];simp
 unfold atI;rw[e];exact h
noncomputable def QH(b:Expr):Prop:=∀ o i,subscripted b false o i=operate [o,i] (getItem o i)
noncomputable def IxR(X:Cx)(r:R2):Prop :=
 ∀(value slice:Expr) (pins:List (Addr × Obj)) (s:Shared) (σ:St) (H:Hp) (x y:V) (v u:Value) (Q:VK),Inv X pins σ H s->RelV x v->RelV y u->r x y H Q ->
  subscripted slice false v u=operate [v,u] (getItem v u)->wpAny (model X.prog X.w) X.A (subscriptTail value slice v u) (EP X pins σ Q) X.xe s
noncomputable def MtR(X:Cx)(id:String)(r:V->List V->Hp->VK->Prop):Prop :=
 ∀(pins:List (Addr × Obj)) (s:Shared) (σ:St) (H:Hp) (x:V) (xs:List V) (v:Value) (us:List Value) (Q:VK),Inv X pins σ H s->RelV x v->Vals xs us->r x xs H Q ->
  wpAny (model X.prog X.w) X.A (call (.builtin id) (v::us)) (EP X pins σ Q) X.xe s
section
variable{X:Cx}{a b:Expr}{ta tb:TE}{pos:Pos}
theorem IxR.or{r r':R2}(h:IxR X r)(h':IxR X r'):IxR X (fun x y H Q=>r x y H Q\/r' x y H Q):=by
 intro value slice pins s σ H x y v u Q I rx ry q hs
 rcases q with q | q
 ·exact h value slice pins s σ H x y v u Q I rx ry q hs
 ·exact h' value slice pins s σ H x y v u Q I rx ry q hs
theorem zp{r:R2}(hr:IxR X r)(ha:PE X a ta)(hb:PE X b tb)(hs:QH b):PE X (.Subscript a b pos) (tOp r ta tb):=by
 intro pins s σ H Q I h
 exact Subscript_ (zbn ha hb I h fun v u s2 x y H2 I2 rx ry q=>hr a b pins s2 σ H2 x y v u Q I2 rx ry q (hs _ _))
noncomputable def zbv(K:ot):R2:=fun x y H Q=>∃ p xs i v,x=.ref p/\y=.int i/\SqL K H p xs/\atI xs i=some v/\Q v H
noncomputable def ub(K:ot):R2:=fun x y H Q=>∃ p xs i v,x=.ref p/\y=.int i/\SqT K H p xs/\atI xs i=some v/\Q v H
noncomputable def zbF:R2:=fun x y H Q=>∃ z i c,x=.str z/\y=.int i/\z.length<=oq/\atI z.cps.toList i=some c/\Q (.str ⟨#[c]⟩) H
theorem ix_list:IxR X (zbv X.K):=by
 intro value slice pins s σ H x y v u Q I rx ry h hs
 obtain⟨p,xs,i,z,rfl,rfl,hq,he,q⟩:=h
 cases rx
 obtain⟨t,rfl⟩:=ry
 obtain⟨its,r,pl,hz⟩:=I.list hq
 obtain⟨j,h1,h2,h3,h4,h5⟩:=ZX he
 obtain⟨w,ew,rw'⟩:=r.get h2
 have hl:=r.length
 have hn:=Zl
 have fin:EP X pins σ Q w s:=⟨z,H,I,rw',q⟩
 by_cases h0:0<=i
 ·have hj:i.toNat=j:=by
   rw[seqIndex_of h0 h5] at h1
   exact Option.some.inj h1
  exact item_listR pl.isList h0 (by lia) (by rw[hj];simpa using ew) fin hs
 ·have hj:(i+(its.toArray.size:Int)).toNat=j:=by
   rw[seqIndex_neg (by lia) h4] at h1
   rw[al,<- hl]
   exact Option.some.inj h1
  exact subscriptTail_builtinR (x:=w) pl.isList.typeIs slot_list_getitem.lookup
   (wpAny_getItem_list_neg (Q:=fun r s'=>r=w/\EP X pins σ Q r s') pl.isList (by lia) (by rw[al] <;> lia) (by lia) (by rw[hj];simpa using ew) ⟨rfl,fin⟩) hs
theorem ix_tup:IxR X (ub X.K):=by
 intro value slice pins s σ H x y v u Q I rx ry h hs
 obtain⟨p,xs,i,z,rfl,rfl,hq,he,q⟩:=h
 cases rx
 obtain⟨t,rfl⟩:=ry
 obtain⟨its,r,pl,hz⟩:=I.tuple hq
 obtain⟨j,h1,h2,h3,h4,h5⟩:=ZX he
 obtain⟨w,ew,rw'⟩:=r.get h2
 have hl:=r.length
 have hn:=Zl
 have fin:EP X pins σ Q w s:=⟨z,H,I,rw',q⟩
 exact subscriptTail_builtinR (x:=w) pl.typeIs slot_tuple_getitem.lookup
  (getItem_tuple (j:=j) (Q:=fun r s'=>r=w/\EP X pins σ Q r s') pl (by lia) (by lia) (by rw[al,<- hl];exact h1) (by simpa using ew) ⟨rfl,fin⟩) hs
theorem Vo:IxR X zbF:=by
 intro value slice pins s σ H x y v u Q I rx ry h hs
 obtain⟨z,i,c,rfl,rfl,hz,he,q⟩:=h
 obtain⟨t,rfl⟩:=rx
 obtain⟨t',rfl⟩:=ry
 obtain⟨j,h1,h2,h3,h4,h5⟩:=ZX he
 have hl:z.cps.toList.length=z.length:=by simp [Str.length]
 rw[hl] at h1 h4 h5
 have hn:=Zl
 exact tail_any (typeIs_str s z t) slot_str_getitem.lookup (getItem_str (c:=c) (by
  have e1:decide (i < -(2 ^ 63:Int))=false:=decide_eq_false (by lia)
  have e2:decide (i ≥ 2 ^ 63)=false:=decide_eq_false (by lia)
  rw[e1,e2,Bool.or_false]) (by rw[h1];simpa using h2) ⟨.str ⟨#[c]⟩,H,I.tok _,⟨_,rfl⟩,q⟩) hs
noncomputable def rIx(K:ot):R2:=fun x y H Q=>zbv K x y H Q\/ub K x y H Q\/zbF x y H Q
theorem VC:IxR X (rIx X.K):=ix_list.or (ix_tup.or Vo)
theorem Inv.lst{pins:List (Addr × Obj)}{σ:St}{H:Hp}{s:Shared}{p:Addr}{xs:List V}(I:Inv X pins σ H s)(h:H p=some (.lst xs)) :
  ∃(its:List Value) (n:Nat),Vals xs its/\s.heap.get? p=some { cls:=.type "list",data:=.seq its.toArray n }/\xs.length<=oq:=by
 obtain⟨z,its,n,r,e⟩:=I.hok p _ h
 exact⟨its,n,r,e,z⟩
theorem kF(lo hi:Option Int)(n:Nat):(sliceBounds lo hi none n).1=((HT.sIx n 0 lo:Nat):Int)/\(sliceBounds lo hi none n).2.1=((HT.sIx n n hi:Nat):Int)/\(sliceBounds lo hi none n).2.2=1:=by
 refine⟨?_,?_,rfl⟩
 ·cases lo with
  | none=>simp [sliceBounds,HT.sIx]
  | some i =>
   simp only[sliceBounds,HT.sIx,e7,show (1:Int) > 0 by decide,if_true]
   by_cases h:i<0
   ·simp only[h,if_true] <;> lia
   ·simp only[h,if_false] <;> lia
 ·cases hi with
  | none=>simp [sliceBounds,HT.sIx]
  | some i =>
   simp only[sliceBounds,HT.sIx,e7,show (1:Int) > 0 by decide,if_true]
   by_cases h:i<0
   ·simp only[h,if_true] <;> lia
   ·simp only[h,if_false] <;> lia
theorem ky(its:List Value)(lo hi:Option Int):slicePick its.toArray lo hi none=((its.drop (HT.sIx its.length 0 lo)).take (HT.sIx its.length its.length hi - HT.sIx its.length 0 lo)).toArray:=by
 obtain⟨h1,h2,h3⟩:=kF lo hi its.toArray.size
 unfold slicePick
 rw[h1,h2,h3]
 simp only[sliceRange_one,pick_run,al] <;> rfl
noncomputable def zaX(K:ot):V->Option Int->Option Int->Hp->VK->Prop:=fun x lo hi H Q=>∃ a xs,x=.ref a/\SqL K H a xs/\∀ p,H p=none->Q (.ref p) (upd H p (.lst (Ke xs lo hi)))
theorem sl_list:SlR X (zaX X.K):=by
 intro pins s σ H x v vl vu lo hi sl Q I rx hs pl pu h
 obtain⟨a,xs,rfl,hx,q⟩:=h
 cases rx
 obtain⟨its,r,ht,hz⟩:=I.list hx
 have hlen:=r.length
 refine⟨"list",_,slot_list_getitem.lookup,ht.isList.typeIs,?_⟩
 refine wpAny_getItem_list_slice ht.isList hs pl pu .none (by simp) ?_ (by rw[al] <;> lia)
 rw[ky,<- hlen]
 refine⟨.ref s.heap.objs.size,_,I.laid (t':=s.toks) (o:=.lst (Ke xs lo hi)) (fun b ob q=>aa _ q) (aq _) ?_,rfl,q _ (I.hok.fresh (aq _))⟩
 exact⟨aQ (ZV xs lo hi) hz,_,0,(r.drop (HT.sIx xs.length 0 lo)).take (HT.sIx xs.length xs.length hi - HT.sIx xs.length 0 lo),aF _ rfl⟩
noncomputable def Ks:V->Bool
 | .non=>true
 | .bl _=>true
 | .int _=>true
 | .str _=>true
 | _=>false
noncomputable def eqV:V->V->Bool
 | .non,.non=>true
 | .bl a,.bl b=>a == b
 | .bl a,.int b=>(if a then 1 else 0) == b
 | .int a,.bl b=>a == (if b then 1 else 0)
 | .int a,.int b=>a == b
 | .str a,.str b=>a == b
 | _,_=>false
theorem Yv{A:Around}{s:Shared}{y x:V}{u v:Value}(ry:RelV y u)(rx:RelV x v)(fy:Ks y=true)(fx:Ks x=true):SeqAt.EqAt A s u v (eqV y x):=by
 cases y with
 | non =>
  cases ry
  cases x with
  | non=>cases rx;exact SeqAt.EqAt.same _
  | bl b=>cases rx;exact SeqAt.EqAt.none_bool b
  | int b=>obtain⟨t,rfl⟩:=rx;exact SeqAt.EqAt.none_int b t
  | str b=>obtain⟨t,rfl⟩:=rx;exact SeqAt.EqAt.none_str b t
  | _=>exact absurd (show false=true from fx) aC
 | bl a =>
  cases ry
  cases x with
  | non=>cases rx;exact SeqAt.EqAt.bool_none a
  | bl b=>cases rx;exact SeqAt.EqAt.bool_bool a b
  | int b=>obtain⟨t,rfl⟩:=rx;exact SeqAt.EqAt.bool_int a b t
  | str b=>obtain⟨t,rfl⟩:=rx;exact SeqAt.EqAt.bool_str a b t
  | _=>exact absurd (show false=true from fx) aC
 | int a =>
  obtain⟨t',rfl⟩:=ry
  cases x with
  | non=>cases rx;exact SeqAt.EqAt.int_none a t'
  | bl b=>cases rx;exact SeqAt.EqAt.int_bool a t' b
  | int b=>obtain⟨t,rfl⟩:=rx;exact SeqAt.EqAt.int_int a t' b t
  | str b=>obtain⟨t,rfl⟩:=rx;exact SeqAt.EqAt.int_str a t' b t
  | _=>exact absurd (show false=true from fx) aC
 | str a =>
  obtain⟨t',rfl⟩:=ry
  cases x with
  | non=>cases rx;exact SeqAt.EqAt.str_none a t'
  | bl b=>cases rx;exact SeqAt.EqAt.str_bool a t' b
  | int b=>obtain⟨t,rfl⟩:=rx;exact SeqAt.EqAt.str_int a t' b t
  | str b=>obtain⟨t,rfl⟩:=rx;exact SeqAt.EqAt.str_str a t' b t
  | _=>exact absurd (show false=true from fx) aC
 | _=>exact absurd (show false=true from fy) aC
theorem xE:vf X (.type "list") (fun xs H Q=>∃ p ys,xs=[.ref p]/\(SqL X.K H p ys\/SqT X.K H p ys)/\∀ l,H l=none->Q (.ref l) (upd H l (.lst ys))):=by
 intro pins s σ H xs us Q I r h
 obtain⟨p,ys,rfl,hq,q⟩:=h
 obtain⟨u,rfl,rx⟩:=wf r
 cases rx
 have fin:∀(its:List Value),Vals ys its->ys.length<=oq->∀(h':Heap) (c':Nat),(∀ b o',s.heap.get? b=some o'->h'.get? b=some o') ->
   h'.get? s.heap.objs.size=some { cls:=.type "list",dict:=none,data:=.seq its.toArray c',slots:=#[] }->EP X pins σ Q (.ref s.heap.objs.size) { s with heap:=h' }:=fun its r' hz h' c' kp e =>
  ⟨.ref s.heap.objs.size,_,I.laid (t':=s.toks) kp (aq _) (show ObjOk X.prog X.w _ h' _ (.lst ys) from ⟨hz,its,c',r',e⟩),rfl,q _ (I.hok.fresh (aq _))⟩
 rcases hq with hq | hq
 ·obtain⟨its,r',pl,hz⟩:=I.list hq
  have hlen:=r'.length
  obtain⟨o,ho,hc,n,hd⟩:=pl.isList
  exact call_list_seq p (.inl rfl) ho hc hd (fun h' c' kp e=>fin its r' hz h' c' kp e) (by simp only[al] <;> lia)
 ·obtain⟨its,r',pl,hz⟩:=I.tuple hq
  have hlen:=r'.length
  obtain⟨o,ho,hc,n,hd⟩:=pl
  exact call_list_seq p (.inr rfl) ho hc hd (fun h' c' kp e=>fin its r' hz h' c' kp e) (by simp only[al] <;> lia)
theorem kd:vf X (.type "tuple") (fun xs H Q=>∃ p ys,xs=[.ref p]/\((SqL X.K H p ys/\∀ l,H l=none->Q (.ref l) (upd H l (.tup ys)))\/(SqT X.K H p ys/\Q (.ref p) H))):=by
 intro pins s σ H xs us Q I r h
 obtain⟨p,ys,rfl,h⟩:=h
 obtain⟨u,rfl,rx⟩:=wf r
 cases rx
 rcases h with ⟨hq,q⟩ | ⟨hq,q⟩
 ·obtain⟨its,r',pl,hz⟩:=I.list hq
  have hlen:=r'.length
  refine call_tuple_list pl.isList (fun h' kp=>?_) (by simp only[al] <;> lia)
  have I1:Inv X pins σ H { s with heap:=h' }:=I.kept (t':=s.toks) kp
  have I2:Inv X pins σ (upd H h'.objs.size (.tup ys)) { s with heap:=h'.push { cls:=.type "tuple",data:=.seq its.toArray } } :=
   I1.laid (t':=s.toks) (fun b o e=>aa _ e) (aq _) (show ObjOk X.prog X.w _ _ _ (.tup ys) from ⟨hz,its,r',IsTup.new _ _⟩)
  exact⟨.ref h'.objs.size,_,I2,rfl,q _ (I1.hok.fresh (aq _))⟩
 ·obtain⟨its,r',pl,hz⟩:=I.tuple hq
  exact call_tuple_same pl ⟨.ref p,H,I,rfl,q⟩
noncomputable def tyV(K:ot)(T:String)(x:V)(H:Hp):Prop:=match x with
 | .str _=>T="str"
 | .int _=>T="int"
 | .ref p=>(T="list"/\∃ xs,SqL K H p xs)\/(T="tuple"/\∃ o,K.lookup p=some o/\o.cls=.type "tuple"/\o.dict=none) \/
   (T="dict"/\((∃ kvs,H p=some (.dK kvs))\/∃ kvs,H p=some (.dT kvs)))\/(T="set"/\∃ S n,H p=some (.set S n))
 | _=>False
theorem KA{pins:List (Addr × Obj)}{σ:St}{H:Hp}{s:Shared}{T:String}{x:V}{v:Value}(I:Inv X pins σ H s)(r:RelV x v)(ty:tyV X.K T x H) :
  s.TypeIs v T/\∀ a,v=.ref a->∃ ob,s.heap.get? a=some ob/\ob.dict=none:=by
 cases x with
 | str z =>
  obtain⟨t,rfl⟩:=r
  cases (show T="str" from ty)
  exact⟨typeIs_str s z t,fun _ e=>nomatch e⟩
 | int i =>
  obtain⟨t,rfl⟩:=r
  cases (show T="int" from ty)
  exact⟨typeIs_int s i t,fun _ e=>nomatch e⟩
 | ref p =>
  cases r
  rcases ty with ⟨rfl,xs,hq⟩ | ⟨rfl,o,hk,hc,hd⟩ | ⟨rfl,hk⟩ | ⟨rfl,S,n,hk⟩
  ·obtain⟨its,_,pl,_⟩:=I.list hq
   refine⟨pl.isList.typeIs,fun a e=>?_⟩
   cases e
   obtain⟨o,n,e,c,hd,_⟩:=pl
   exact⟨o,e,hd⟩
  ·refine⟨⟨o,I.kIn p o hk,hc⟩,fun a e=>?_⟩
   cases e
   exact⟨o,I.kIn _ o hk,hd⟩
  ·have z:∃ o,s.heap.get? p=some o/\o.ExactDict:=by
    rcases hk with ⟨kvs,hk⟩ | ⟨kvs,hk⟩
    ·obtain⟨_,_,_,_,o,_,_,e,ex,_⟩:=I.hok p _ hk
     exact⟨o,e,ex⟩
    ·obtain⟨_,_,_,_,o,_,_,e,ex,_⟩:=I.hok p _ hk
     exact⟨o,e,ex⟩
   obtain⟨o,e,ex⟩:=z
   refine⟨⟨o,e,ex.1⟩,fun a e2=>?_⟩
   cases e2
   exact⟨o,e,ex.2.1⟩
  ·obtain⟨o,_,_,_,e,ex,_⟩:=I.hok p _ hk
   refine⟨⟨o,e,ex.1⟩,fun a e2=>?_⟩
   cases e2
   exact⟨o,e,ex.2.1⟩
 | _=>exact False.elim ty
noncomputable def zcg(K:ot)(T:String)(r:V->List V->Hp->VK->Prop)(to:TE):TE:=fun σ H Q=>to σ H fun x H1=>tyV K T x H1/\r x [] H1 Q
noncomputable def tBM(K:ot)(T:String)(r:V->List V->Hp->VK->Prop)(to:TE)(t:TA):TE:=fun σ H Q=>to σ H fun x H1=>tyV K T x H1/\t σ H1 fun xs H2=>r x xs H2 Q
variable{o e:Expr}{es:List Expr}{to:TE}{t:TA}{name:Str}{apos cpos:Pos}{T id:String}{r:V->List V->Hp->VK->Prop}
theorem qF(pa:PlainAttrs T)(slot:Slot T name id)(hty:typeOf (.builtin id)=pure (.type "method_descriptor"))(hm:MtR X id r)(ho:PE X o to)(ha:PA X (e::es) t)
  (hbase:attributeBase o name X.env (eval o X.env)=eval o X.env:=by rfl)
  (hfew:((backTo cpos (oo (e::es) X.env)).all (fun x=>!x.1) && (backToKw cpos (keywordEach [] X.env)).all (fun x=>x.1.isSome)
   && decide ((e::es).length+([]:List Keyword).length+(if ([]:List Keyword).isEmpty then 0 else 1)<30))=true:=by rfl)
  (hline:(apos.endLine == cpos.line)=true:=by rfl) (hs:oo (e::es) X.env=(false,eval e X.env)::oo es X.env:=by rfl) (hplain:(backTo cpos (oo es X.env)).any (·.1)=false:=by rfl) :
  PE X (.Call (.Attribute o name apos) (e::es) [] cpos) (tBM X.K T r to t):=by
 intro pins s σ H Q I h
 refine wpAny_Call_method_late hbase hfew hline rfl (thn (ho pins s σ H _ I h) fun v s1 ⟨x,H1,I1,r1,ty,q1⟩=>?_)
 obtain⟨h1,h2⟩:=KA I1 r1 ty
 refine⟨T,id,pa,slot,hty,h1,h2,?_⟩
 have hA:=ha cpos pins s1 σ H1 _ I1 q1
 rw[hs] at hA ⊢
 refine Calls.callWith_builtin (by show (false || (backTo cpos (oo es X.env)).any (·.1))=false;rw[hplain] <;> rfl) (Calls.evalArgs_plain ?_)
 exact thn hA fun us s2 ⟨vs,H2,I2,r2,q2⟩=>hm pins s2 σ H2 x vs v us Q I2 r1 r2 q2
/- xs.append(e),list.index on a module's tuple .. are MtR facts of 06m -/
end
end L2
namespace L2
noncomputable def MtM(X:Cx)(id:String)(r:V->List V->Hp->VK->Prop):Prop :=
 ∀(pins:List (Addr × Obj)) (s:Shared) (σ:St) (H:Hp) (x:V) (xs:List V) (v:Value) (us:List Value) (Q:VK),Inv X pins σ H s->RelV x v->Vals xs us->r x xs H Q ->
  wpAny (model X.prog X.w) X.A (call (.builtin id) (v::us)) (EP X pins σ Q) X.xe s
theorem Vals.one:∀{x:V} {us:List Value},Vals [x] us->∃ u,us=[u]/\RelV x u
 | _,_,.cons r .nil=>⟨_,rfl,r⟩
theorem Vals.two:∀{x y:V} {us:List Value},Vals [x,y] us->∃ u v,us=[u,v]/\RelV x u/\RelV y v
 | _,_,_,.cons r (.cons q .nil)=>⟨_,_,rfl,r,q⟩
theorem Vals.zero:∀{us:List Value},Vals [] us->us=[]
 | _,.nil=>rfl
theorem Vals.reverse{xs:List V}{us:List Value}(h:Vals xs us):Vals xs.reverse us.reverse:=by
 induction h with
 | nil=>exact .nil
 | cons r t ih=>rw[List.reverse_cons,List.reverse_cons];exact Vals.append ih (.cons r .nil)
section
variable{X:Cx}{pins:List (Addr × Obj)}{σ:St}{H:Hp}{s:Shared}{l b:Addr}{xs ys zs:List V}
theorem Inv.lset{its its':List Value}{n:Nat}{f:Array Value->Array Value}{t':Nat}(I:Inv X pins σ H s)(hH:H l=some (.lst xs))
  (e:s.heap.get? l=some { cls:=.type "list",data:=.seq its.toArray n }) (hf:f its.toArray=its'.toArray) (hv:Vals ys its') (hz:ys.length<=oq) :
  Inv X pins σ (upd H l (.lst ys)) { s with heap:=s.heap.update l (Obj.mapSeq f),toks:=t' }:=by
 have q:=PySem.IsL.update e f
 rw[hf] at q
 refine I.write (x:=l) (e:=l) (by rw[hH];exact trivial) (.inl rfl) (fun b' u hb hu=>(aH s.heap (Obj.mapSeq f) (Ne.symm hb)).trans hu) ⟨_,q⟩ ?_
 exact⟨hz,its',_,hv,q⟩
theorem Inv.lnew{its:List Value}{t':Nat}(I:Inv X pins σ H s)(hv:Vals ys its)(hz:ys.length<=oq) :
  Inv X pins σ (upd H s.heap.objs.size (.lst ys)) { s with heap:=s.heap.push { cls:=.type "list",data:=.seq its.toArray },toks:=t' } :=
 I.laid (fun _ _ q=>aa _ q) (aq _) ⟨hz,its,0,hv,aF _ rfl⟩
theorem Inv.fresh(I:Inv X pins σ H s):H s.heap.objs.size=none:=I.hok.fresh (aq _)
theorem Inv.lstM(I:Inv X pins σ H s)(hH:H l=some (.lst xs)):xs.length<=oq/\∃(its:List Value) (n:Nat),Vals xs its/\xs.length=its.length/\s.heap.get? l=some { cls:=.type "list",data:=.seq its.toArray n }:=by
 obtain⟨z,its,n,r,e⟩:=I.hok l _ hH
 exact⟨z,its,n,r,r.length,e⟩
theorem VW{n:Nat}(h:n<=oq):Builtin.List.listTooLong n=false:=by
 unfold Builtin.List.listTooLong
 exact decide_eq_false (by lia)
end
section
variable{X:Cx}
noncomputable def WL:V->List V->Hp->VK->Prop:=fun x vs H Q=>∃ l xs y,x=.ref l/\vs=[y]/\H l=some (.lst xs)/\xs.length<oq/\Q .non (upd H l (.lst (xs ++ [y])))
theorem wx:MtM X "list.append" WL:=by
 intro pins s σ H x vs v us Q I rx rv h
 obtain⟨l,xs,y,rfl,rfl,hH,hz,q⟩:=h
 cases rx
 obtain⟨u,rfl,ru⟩:=rv.one
 obtain⟨z,its,n,r,hl,e⟩:=I.lstM hH
 refine call_meets F.slot_list_append ⟨_,e,rfl⟩ F.entry_list_append (F.args_list_append_2 _ _) (PySem.list_append l its.toArray n u (by rw[al];lia)) ⟨e,?_⟩
 refine⟨.non,_,I.lset (its':=its ++ [u]) hH e (by simp) (r.append (.cons ru .nil)) ?_,rfl,q⟩
 rw[au,eE]
 lia
noncomputable def WO:V->List V->Hp->VK->Prop:=fun x vs H Q=>∃ l b xs zs,x=.ref l/\vs=[.ref b]/\H l=some (.lst xs)/\H b=some (.lst zs)/\xs.length+zs.length<=oq/\Q .non (upd H l (.lst (xs ++ zs)))
theorem Vf:MtM X "list.extend" WO:=by
 intro pins s σ H x vs v us Q I rx rv h
 obtain⟨l,b,xs,zs,rfl,rfl,hH,hB,hz,q⟩:=h
 cases rx
 obtain⟨u,rfl,ru⟩:=rv.one
 cases ru
 obtain⟨z,its,n,r,hl,e⟩:=I.lstM hH
 obtain⟨z2,its2,n2,r2,hl2,e2⟩:=I.lstM hB
 have hsz:its.toArray.size+its2.toArray.size<=oq:=by rw[al,al];lia
 have hlong:¬ (!its.toArray.isEmpty && Builtin.List.listTooLong (its.toArray.size+its2.toArray.size))=true:=by
  rw[VW hsz,dF]
  exact aC
 refine call_meets F.slot_list_extend ⟨_,e,rfl⟩ F.entry_list_extend (F.args_list_extend_2 _ _)
  (AutoSeq1.list_extend_list_list_0 l its.toArray n b its2.toArray n2 hlong (by rw[al];lia) (by lia)) ⟨e,e2,?_⟩
 refine⟨.non,_,I.lset (its':=its ++ its2) hH e (by simp) (r.append r2) ?_,rfl,q⟩
 rw[au]
 lia
noncomputable def zbC:R2:=fun x y H Q=>∃ l b xs zs,x=.ref l/\y=.ref b/\H l=some (.lst xs)/\H b=some (.lst zs)/\xs.length+zs.length<=oq/\∀ p,H p=none->Q (.ref p) (upd H p (.lst (xs ++ zs)))
theorem Vp:OpR X (binaryOp .Add) zbC:=by
 intro pins s σ H x y v u Q I rx ry h
 obtain⟨l,b,xs,zs,rfl,rfl,hH,hB,hz,q⟩:=h
 cases rx
 cases ry
 obtain⟨z,its,n,r,hl,e⟩:=I.lstM hH
 obtain⟨z2,its2,n2,r2,hl2,e2⟩:=I.lstM hB
 refine PySem.P.add_list e e2 ?_ (by rw[al,al];lia)
 have ea:its.toArray ++ its2.toArray=(its ++ its2).toArray:=by simp
 rw[ea]
 exact⟨.ref _,_,I.lnew (t':=s.toks) (r.append r2) (by rw[au];lia),rfl,q _ I.fresh⟩
theorem len_rep{α:Type}(xs:List α)(k:Nat):(aO k xs).flatten.length=k * xs.length:=by
 induction k with
 | zero=>simp
 | succ k ih=>rw[cG,da,au,ih,dW,Nat.add_comm]
end
section
variable{prog:Program}{w:World}{A:Around}{E:Value->Shared->Prop}{s:Shared}
end
section
variable{X:Cx}
end
end L2
namespace Att
open PySem PySem.W PySem.Calls PyProof.Rows
theorem u7{P:Params}{h:Heap}:∀(ns:List Int) (vs:List Value),WellAll P h vs (ns.map WData.int)->IntsAre vs ns:=by
 intro ns
 induction ns with
 | nil =>
  intro vs w
  rw[aN] at w
  cases w
  exact .nil
 | cons n ns ih =>
  intro vs w
  rw[ax] at w
  cases w with
  | cons a b =>
   cases a
   exact .cons _ _ (ih _ b)
theorem script_of{l:OpenLaw}{n:Nat}(hn:l.most=some n){P:Params}{h:Heap}{args:List WData}{vals:List Value}
  (hpre:l.row.toRowW.claim.pre args=true) (hwl:WellAll P h vals args) :
  ∃ a vs ns,vals=[Value.ref a]/\args=[WData.list (ns.map WData.int)]/\h.get? a=some { cls:=.type "list",data:=.seq vs.toArray }/\IntsAre vs ns/\ns.length<=n:=by
 have hsh:WShape.hasAll [] args [.list .int]=true:=(pre_splitW hpre).1
 have hc:l.pre.holds [] { args:=args }=true:=(pre_splitW hpre).2
 obtain⟨d,r,rfl,h1,h2⟩:=hasAllW_cons hsh
 obtain rfl:=hasAllW_nil h2
 obtain⟨xs,rfl,h3⟩:=hasW_list h1
 obtain⟨ns,rfl⟩:=items_int h3
 have hlen:ns.length<=n:=by
  unfold OpenLaw.pre at hc
  have h4:(WTm.not (.lt (.lit (.int (n:Int))) (.len (.arg 0)))).holds [] { args:=[.list (ns.map .int)] }=true:=by
   have h4:=(holds_andW hc).1
   rw[hn] at h4
   exact h4
  have h5:=condW_of h4 (w_not (w_lt w_lit (w_len_list (w_arg rfl))))
  rw[ag] at h5
  refine cD fun q=>?_
  have q':(n:Int)<((ns.length:Nat):Int):=by lia
  first
   | (rw[decide_eq_true q'] at h5;exact absurd h5 (by decide))
   | (simp at h5;lia)
 cases hwl with
 | cons w1 w2 =>
  cases w2
  cases w1 with
  | list ho hall=>exact⟨_,_,ns,rfl,rfl,ho,u7 ns _ hall,hlen⟩
theorem post_true(l:OpenLaw)(args:List WData):l.row.toRowW.claim.post args (.bool true) args=true :=
 postW_of (r:=l.row.toRowW) (X:=(true == true))
  (show WShape.has [] (.bool true) .bool=true by first | rfl | decide | simp [WShape.has,WShape.arms,WShape.armsAll])
  (show (WTm.eq .res (.lit (.bool true))).value [] { args:=args,res:=some (.bool true),after:=args }=some (.bool (true == true)) from w_eq_bool (w_res rfl) w_lit) rfl
section
variable{prog:Program}{w:World}{A:Around}{E:Value->Shared->Prop}{s:Shared}{K:Frag}
noncomputable def zb6(h:Heap)(L d:Addr):List (Addr × Obj):=(aS h.objs.size).filterMap fun a=>if a=L\/a=d then none else (h.get? a).map fun o=>(a,o)
end
end Att
namespace L2
theorem Zd:∀{vs:List Value} {ns:List Int},IntsAre vs ns->Vals (ns.map V.int) vs
 | _,_,.nil=>.nil
 | _,_,.cons n t h=>.cons ⟨t,rfl⟩ (Zd h)
end L2
namespace L2
end L2
namespace L2
noncomputable def xg(s:Stmt)(j:Nat):Stmt:=match s with
 | .ClassDef _ _ _ body _ _ _ _ _ _ _=>body.getD j (.Pass ⟨0,0,0,0⟩)
 | _=>.Pass ⟨0,0,0,0⟩
noncomputable def zo(s:Stmt):Arguments:=match s with
 | .FunctionDef _ a _ _ _ _ _ _ _ _=>a
 | _=>{ posonlyargs:=[],args:=[],vararg:=none,kwonlyargs:=[],kw_defaults:=[],kwarg:=none,defaults:=[] }
noncomputable def zl(s:Stmt):List Stmt:=match s with
 | .FunctionDef _ _ b _ _ _ _ _ _ _=>b
 | _=>[]
noncomputable def zb(s:Stmt):Scope:=match s with
 | .FunctionDef _ _ _ _ _ _ sc _ _ _=>sc
 | _=>{ kind:=.function,names:=[],isGenerator:=false,isCoroutine:=false }
noncomputable abbrev CX0:CXT:=fun _ _ _ _ _ _=>False
noncomputable abbrev E0:XK:=fun _ _ _=>False
theorem Z1{X:Cx}:uk CX0 X E0:=fun _ _ _ _ _ _ _ h=>h.elim
structure Fun(K:ot)(x qual:Str)(st:Stmt)(f:Addr)(fd:FuncData):Prop where
 ex:∃(oc:Value) (od:Option Addr) (kV doc pm:Value) (an:Option Addr) (cdv ct:Value) (osl:Array (Option Value)),
  fd=ar x qual (zo st) (zl st) (zb st) .none kV doc pm an cdv ct/\K.lookup f=some ⟨oc,od,.func fd,osl⟩/\ao K cdv qual=true
 kp:ah K (.ref f)=true
section
variable{P:Program}{w:World}{K:ot}{mg:Str->Option Value}{base:Heap}
theorem Fun.ok{x qual:Str}{st:Stmt}{f:Addr}{fd:FuncData}{N ps:List Str}{k:Nat}{sp:Sp}(F:Fun K x qual st f fd)(S:zr N ps (zb st))(len:∀ vs H Q E,sp vs H Q E->vs.length=ps.length)
  (hbody:∀(cdv:Value) (A:Around) (outer:List Env) (s:Shared) (H:Hp) (vs:List V) (Q:VK) (E:XK),Room k (A.deeper (envOfC qual (zb st) s.heap.objs.size f cdv))->sp vs H Q E ->
   ∃ t,PSs (uA CX0 P w K mg base N qual (zb st) f cdv A outer s H E).nox (zl st) t/\t { nx:=fun _ H'=>Q .non H',rt:=Q } (start N vs) H):ye P w K mg base CX0 (k+1) f fd ps sp:=by
 obtain⟨oc,od,kV,doc,pm,an,cdv,ct,osl,rfl,lk,hcd⟩:=F.ex
 refine U5 lk hcd S len fun A outer s H vs Q E hr hsp=>?_
 obtain⟨t,h,q⟩:=hbody cdv A outer s H vs Q E hr hsp
 exact⟨t,h.nox,q⟩
theorem Fun.binds{x qual:Str}{st:Stmt}{f:Addr}{fd:FuncData}{ps:List Str}(F:Fun K x qual st f fd)
  (h:∀(kV doc pm:Value) (an:Option Addr) (cdv ct:Value) (us:List Value),us.length=ps.length->bindArgs (ar x qual (zo st) (zl st) (zb st) .none kV doc pm an cdv ct) ⟨us,[]⟩=pure (ps.zip us)):Binds K fd ps []:=by
 obtain⟨oc,od,kV,doc,pm,an,cdv,ct,osl,rfl,lk,hcd⟩:=F.ex
 exact .all (h kV doc pm an cdv ct)
theorem zD{x qual:Str}{st:Stmt}{f:Addr}{oc:Value}{od an:Option Addr}{osl:Array (Option Value)}{kV doc pm cdv ct:Value}(l:K.lookup f=some ⟨oc,od,.func (ar x qual (zo st) (zl st) (zb st) .none kV doc pm an cdv ct),osl⟩)
  (c:ao K cdv qual=true) (k:ah K (.ref f)=true):Fun K x qual st f (ar x qual (zo st) (zl st) (zb st) .none kV doc pm an cdv ct):=⟨⟨oc,od,kV,doc,pm,an,cdv,ct,osl,rfl,l,c⟩,k⟩
end
section
variable{X:Cx}
theorem pv(i:Nat){x:Str}{pos:Pos}(hN:X.N[i]? = some x:=by rfl)(hv:Vis X.env.scope x:=by first | exact Or.inl rfl | exact Or.inr (Or.inl rfl) | exact Or.inr (Or.inr rfl))(hd:(x == ("__debug__" : Str))=false:=by decide)
  (hcd:(x == ("__classdict__" : Str))=false:=by decide):PE X (.Name x pos) (yK i):=zaz hN hv hd hcd
end
theorem zcy{A B:Prop}(h:A):if true=true then A else B:=by
 rw[if_pos rfl]
 exact h
theorem xa{c A B:Prop}[Decidable c](h1:c->A)(h2:¬ c->B):if c then A else B:=by
 by_cases h:c
 ·rw[if_pos h]
  exact h1 h
 ·rw[if_neg h]
  exact h2 h
noncomputable def Same(H H':Hp):Prop:=∀ b o,H b=some o->H' b=some o
theorem Same.refl(H:Hp):Same H H:=fun _ _ h=>h
theorem Same.trans{H H1 H2:Hp}(a:Same H H1)(b:Same H1 H2):Same H H2:=fun c o h=>b c o (a c o h)
theorem Same.free{H H':Hp}(e:Same H H'){l:Addr}(h:H' l=Option.none):H l=Option.none:=by
 cases q:H l with
 | none=>rfl
 | some o =>
  rw[e l o q] at h
  cases h
theorem Same.seq{K:ot}{H H':Hp}{a:Addr}{xs:List V}(e:Same H H')(h:SqL K H a xs):SqL K H' a xs:=by
 rcases h with (h | ⟨o,h⟩) | h
 ·exact .inl (.inl (e _ _ h))
 ·exact .inl (.inr ⟨o,e _ _ h⟩)
 ·exact .inr h
end L2
open L2
namespace L3
noncomputable abbrev St:=L2.St
noncomputable abbrev cs(x:Str):List Nat:=x.cps.toList
noncomputable abbrev tx(l:List Nat):Str:=⟨l.toArray⟩
theorem KT(x:Str):tx (cs x)=x:=by cases x;rfl
theorem Xk(l:List Nat):cs (tx l)=l:=rfl
theorem Yi(x:Str):x.length=(cs x).length:=by simp [Str.length,cs]
theorem zQ(l:List Nat):(tx l).length=l.length:=by simp [Str.length,tx]
theorem kQ{x y:Str}(h:cs x=cs y):x=y:=by rw[<- KT x,<- KT y,h]
theorem jy{l m:List Nat}(h:tx l=tx m):l=m:=by rw[<- Xk l,<- Xk m,h]
theorem zbd{l m:List Nat}:tx l=tx m ↔ l=m:=⟨jy,fun h=>by rw[h]⟩
theorem wC(l m:List Nat):tx l ++ tx m=tx (l ++ m):=by
 apply kQ
 show (tx l ++ tx m).cps.toList=l ++ m
 rw[Str.cps_append]
 simp
noncomputable def cut{α:Type}(l:List α)(lo hi:Option Int):List α:=(l.drop (HT.sIx l.length 0 lo)).take (HT.sIx l.length l.length hi - HT.sIx l.length 0 lo)
theorem ww{α:Type}(l:List α)(lo hi:Option Int):(cut l lo hi).length<=l.length:=by
 unfold cut
 rw[aJ,be]
 lia
theorem Vs(a b:Nat):sliceRange (a:Int) (b:Int) 1=(aS (b - a)).map (fun k=>a+k):=by
 unfold sliceRange
 have e:(if (1:Int) > 0 then (if (a:Int)<b then ((b:Int) - a+1 - 1) / 1 else 0) else (if (a:Int) > b then ((a:Int) - b - 1 - 1) / (-1) else 0)).toNat=b - a:=by
  rw[if_pos (by decide)]
  by_cases h:(a:Int)<b
  ·rw[if_pos h,Int.ediv_one];lia
  ·rw[if_neg h];lia
 show (aS ((if (1:Int) > 0 then (if (a:Int)<b then ((b:Int) - a+1 - 1) / 1 else 0) else (if (a:Int) > b then ((a:Int) - b - 1 - 1) / (-1) else 0)).toNat)).map _=_
 rw[e]
 refine cp fun k _=>?_
 lia
theorem J8(lo hi:Option Int)(n:Nat):Builtin.Str.strSliceIndices lo hi 1 n=(aS (HT.sIx n n hi - HT.sIx n 0 lo)).map (fun k=>HT.sIx n 0 lo+k):=by
 rw[<- Vs]
 have clip:∀(v:Int) (d:Nat),max 0 (min (if v<0 then v+(n:Int) else v) (n:Int))=((HT.sIx n d (some v):Nat):Int):=fun v d=>by
  show _=(((if v<0 then (v+(n:Int)).toNat else min v.toNat n):Nat):Int)
  by_cases hv:v<0
  ·simp only[if_pos hv];lia
  ·simp only[if_neg hv];lia
 have h1:((1:Int) > 0)=True:=by simp
 unfold Builtin.Str.strSliceIndices
 cases lo with
 | none =>
  cases hi with
  | none=>simp only[h1,if_true];rfl
  | some j=>simp only[h1,if_true,clip j n];rfl
 | some i =>
  cases hi with
  | none=>simp only[h1,if_true,clip i 0];rfl
  | some j=>simp only[h1,if_true,clip i 0,clip j n]
theorem Wq(x:Str)(lo hi:Option Int):Txt.slice x lo hi=tx (cut (cs x) lo hi):=by
 have hn:x.length=x.cps.toList.length:=Yi x
 have hj:HT.sIx x.length x.length hi<=x.length:=HT.sIx_le _ _ (aq _) hi
 have hi0:HT.sIx x.length 0 lo<=x.length:=HT.sIx_le _ _ (aG _) lo
 unfold Txt.slice
 rw[J8]
 split
 ·rename_i h
  have h':HT.sIx x.length x.length hi - HT.sIx x.length 0 lo=x.length:=by simpa using h
  apply kQ
  show x.cps.toList=cut x.cps.toList lo hi
  unfold cut
  rw[<- hn]
  by_cases z:x.length=0
  ·have:x.cps.toList=[]:=dw (by lia)
   rw[this];simp
  ·have e0:HT.sIx x.length 0 lo=0:=by lia
   rw[e0] at h' ⊢
   rw[h',dH,hn,aM]
 ·apply kQ
  have h:=StrLaws.picks x.cps.toList (HT.sIx x.length x.length hi - HT.sIx x.length 0 lo) (HT.sIx x.length 0 lo) (by lia)
  show (List.filterMap (fun k=>x.cps[k]?) _).toArray.toList=cut x.cps.toList lo hi
  unfold cut
  rw[<- hn]
  simpa using h
section
variable{X:Cx}
theorem Vt{v:Value}{o:Option Int}(p:IsPart v o):∃ l:Option (Int × Tok),v=partValue l/\l.map (·.1)=o:=by
 cases p with
 | none=>exact⟨none,rfl,rfl⟩
 | int i t=>exact⟨some (i,t),rfl,rfl⟩
noncomputable def zbN:V->Option Int->Option Int->Hp->VK->Prop:=fun x lo hi H Q=>∃ z,x=.str z/\z.length<=oq/\Q (.str (tx (cut (cs z) lo hi))) H
theorem wB:SlR X zbN:=by
 intro pins s σ H x v vl vu lo hi sl Q I rx hs pl pu h
 obtain⟨z,rfl,hz,q⟩:=h
 obtain⟨t,rfl⟩:=rx
 obtain⟨l,rfl,el⟩:=Vt pl
 obtain⟨u,rfl,eu⟩:=Vt pu
 refine⟨"str",_,slot_str_getitem.lookup,typeIs_str s z t,?_⟩
 refine wpAny_getItem_str_slice (l:=l) (u:=u) (st:=none) hs rfl ?_
 have e:Txt.slice z lo hi=tx (cut (cs z) lo hi):=Wq z lo hi
 have hl:(tx (cut (cs z) lo hi)).length<=oq:=by rw[zQ];have:=ww (cs z) lo hi;rw[<- Yi] at this;lia
 unfold sliceMade slicePicked
 rw[el,eu]
 unfold Txt.slice at e
 by_cases hc:((1:Int) == 1 && (Builtin.Str.strSliceIndices lo hi 1 z.length).length == z.length)=true
 ·rw[if_pos hc] at e
  have hc':(((none:Option (Int × Tok)).map (·.1)).getD 1 == 1 && (Builtin.Str.strSliceIndices lo hi (((none:Option (Int × Tok)).map (·.1)).getD 1) z.length).length == z.length)=true:=hc
  rw[if_pos hc']
  exact⟨.str (tx (cut (cs z) lo hi)),H,I,⟨t,by rw[<- e]⟩,q⟩
 ·rw[if_neg hc] at e
  have hc':¬ (((none:Option (Int × Tok)).map (·.1)).getD 1 == 1 && (Builtin.Str.strSliceIndices lo hi (((none:Option (Int × Tok)).map (·.1)).getD 1) z.length).length == z.length)=true:=hc
  rw[if_neg hc']
  show (Str.mk ((Builtin.Str.strSliceIndices lo hi 1 z.length).filterMap (z.cps[·]?)).toArray).length<=oq/\_
  rw[e]
  refine⟨hl,?_⟩
  exact⟨.str (tx (cut (cs z) lo hi)),H,I.tok _,⟨_,by
   show Value.str (Str.mk ((Builtin.Str.strSliceIndices lo hi 1 z.length).filterMap (z.cps[·]?)).toArray) _=_
   rw[e]⟩,q⟩
theorem Y1(l:List Nat):∀(k:Nat) (acc:Array Nat),((aO k l.toArray).foldl (· ++ ·) acc).toList=acc.toList ++ (aO k l).flatten
 | 0,acc=>by simp
 | k+1,acc=>by
  rw[cG,List.foldl_cons,Y1 l k,cG,da]
  simp
theorem XM:OpR X (binaryOp .Mult) (fun x y H Q=>∃ z n,x=.str z/\y=.int n/\0<=n/\n<=1000/\z.length<=1000/\Q (.str (tx (aO n.toNat (cs z)).flatten)) H):=by
 intro pins s σ H x y v u Q I rx ry h
 obtain⟨z,n,rfl,rfl,h0,h1,hz,q⟩:=h
 obtain⟨t,rfl⟩:=rx
 obtain⟨t',rfl⟩:=ry
 have hs:oq=16777216:=sizeLine_eq
 have hmul:z.length * n.toNat<=1000 * 1000:=Nat.mul_le_mul hz (by lia)
 have fl:((aO n.toNat (cs z)).flatten).length=n.toNat * z.length:=by rw[L2.len_rep,<- Yi]
 refine PySem.P.mul_str ?_ (fun _ _=>?_) (fun _ _=>?_) ?_
 ·rw[decide_eq_false (by lia),decide_eq_false (by lia)];rfl
 ·have:(1000:Int)<=(2 ^ 63 - 1) / n:=by
   apply Int.le_ediv_of_mul_le (by lia)
   lia
  lia
 ·unfold Builtin.Str.tooLong
  exact decide_eq_false (by lia)
 ·by_cases c1:n<1
  ·rw[if_pos c1]
   have e:n.toNat=0:=by lia
   rw[e] at q
   exact⟨by decide,.str (tx []),H,I.tok _,⟨_,rfl⟩,q⟩
  ·rw[if_neg c1]
   by_cases c2:(n == 1 || z.length == 0)=true
   ·rw[if_pos c2]
    have e:tx (aO n.toNat (cs z)).flatten=z:=by
     rw[Bool.or_eq_true] at c2
     rcases c2 with c | c
     ·have:n.toNat=1:=by have:=eq_of_beq c;lia
      rw[this]
      simp only[List.replicate_one,List.flatten_singleton]
     ·have c0:z.length=0:=eq_of_beq c
      have:cs z=[]:=dw (by rw[<- Yi];exact c0)
      apply kQ
      rw[this]
      show (aO n.toNat ([]:List Nat)).flatten=[]
      simp only[List.flatten_replicate_nil]
    rw[e] at q
    exact⟨.str z,H,I,⟨_,rfl⟩,q⟩
   ·rw[if_neg c2]
    have e:(⟨(aO n.toNat z.cps).foldl (· ++ ·) #[]⟩:Str)=tx (aO n.toNat (cs z)).flatten:=by
     apply kQ
     have:=Y1 (cs z) n.toNat #[]
     have e2:(cs z).toArray=z.cps:=by cases z;rfl
     rw[e2] at this
     show (List.foldl (· ++ ·) #[] (aO n.toNat z.cps)).toList=(aO n.toNat (cs z)).flatten
     rw[this]
     rfl
    rw[e]
    refine⟨by rw[zQ,fl,Nat.mul_comm];lia,.str _,H,I.tok _,⟨_,rfl⟩,q⟩
theorem Wn:OpR X (compareOp .LtE) (fun x y H Q=>∃ i j,x=.str i/\y=.str j/\Q (.bl (!(decide (cs j<cs i)))) H):=by
 intro pins s σ H x y v u Q I rx ry h
 obtain⟨i,j,rfl,rfl,q⟩:=h
 obtain⟨t,rfl⟩:=rx
 obtain⟨t',rfl⟩:=ry
 exact PySem.P.le_str ⟨.bl _,H,I,rfl,q⟩
theorem Ku(x:Str)(c:Nat):(!(Builtin.Str.occurrences x (tx [c]) 0 x.length 1).isEmpty)=decide (c ∈ cs x):=StrLaws.found_one x c
theorem Ub:MtR X "str.count" (fun x xs H Q=>∃ z y,x=.str z/\xs=[.str y]/\Q (.int (Txt.count z y)) H):=by
 intro pins s σ H x xs v us Q I rx rv h
 obtain⟨z,y,rfl,rfl,q⟩:=h
 obtain⟨t,rfl⟩:=rx
 obtain⟨u,rfl,t',rfl⟩:=wf rv
 exact PySem.SC.count ⟨.int _,H,I.tok _,⟨_,rfl⟩,q⟩
theorem QP:MtR X "str.find" (fun x xs H Q=>∃ z y,x=.str z/\xs=[.str y]/\Q (.int (Txt.find z y)) H):=by
 intro pins s σ H x xs v us Q I rx rv h
 obtain⟨z,y,rfl,rfl,q⟩:=h
 obtain⟨t,rfl⟩:=rx
 obtain⟨u,rfl,t',rfl⟩:=wf rv
 exact PySem.SC.find ⟨.int _,H,I.tok _,⟨_,rfl⟩,q⟩
end
end L3
namespace L3
section
variable{X:Cx}{pins:List (Addr × Obj)}{σ:St}{H:Hp}{s:Shared}{fp:List Addr}{h':Heap}{t':Nat}
theorem Inv.turns(I:Inv X pins σ H s)(k:∀ b o,b ∉ fp->s.heap.get? b=some o->h'.get? b=some o)(hf:∀ b ∈ fp,xH X pins H b):Inv X pins σ H { s with heap:=h',toks:=t' }:=by
 have nit:∀ b u,H b=some u->b ∉ fp:=fun b u e z=>by rw[(hf b z).1] at e;cases e
 refine I.step (g':=s.gens) (d':=s.drawn) (ch:=fp) (fun b hb=>?_) (fun b o _ _ hc e _=>k b o hc e) (fun b o _ _ hc e _=>⟨o.slots,k b o hc e⟩) (fun _ _ _ _ n=>n)
  (fun b o hc e=>⟨o,k b o hc e⟩) (fun _ _ e=>e) (fun _ _ _ e=>e) (fun b ps e=>⟨#[],by rw[e];simp⟩) (fun m hm=>?_) (fun b u e=>?_) I.bare
 ·obtain⟨_,a1,_,a3,a4,a5⟩:=hf b hb
  exact⟨a3,a1,a4,a5⟩
 ·obtain⟨o,es,ep,ho,r⟩:=hm
  exact⟨o,es,ep,k _ o (fun z=>(hf _ z).2.1 rfl) ho,r⟩
 ·refine (I.hok b u e).stay (fun c v hc q=>k c v ?_ q) (fun _ q=>q) fun _ _ q=>q
  rcases hc with z | z
  ·rw[z];exact nit b u e
  ·exact nit c _ z
theorem Inv.track{a:Addr}{o:HO}(I:Inv X pins σ H s)(fa:xH X pins H a)(new:ObjOk X.prog X.w (upd H a o) s.heap a o):Inv X pins σ (upd H a o) s:=by
 obtain⟨a0,a1,a2,a3,a4,a5⟩:=fa
 have e:s={ s with heap:=s.heap,gens:=s.gens,drawn:=s.drawn,toks:=s.toks }:=rfl
 rw[e]
 refine I.step (g':=s.gens) (d':=s.drawn) (ch:=[a]) (fun b hb=>?_) (fun b o _ _ _ e _=>e) (fun b o _ _ _ e _=>⟨o.slots,e⟩) (fun b o hc _ n=>?_)
  (fun b o _ e=>⟨o,e⟩) (fun b xs e=>?_) (fun b u xs e=>?_) (fun b ps e=>?_) (fun m hm=>hm) (fun b u e=>?_) I.bare
 ·have eb:b=a:=by simpa using hb
  subst eb
  exact⟨a3,a1,a4,a5⟩
 ·rw[zq (by simpa using hc)];exact n
 ·rw[zq (zF e a0)];exact e
 ·rw[zq (zF e a0)];exact e
 ·exact⟨#[],by rw[zq (zF e a0),e];simp⟩
 ·by_cases hb:b=a
  ·subst hb;rw[ze] at e;cases e;exact new
  ·rw[zq hb] at e
   exact (I.hok b u e).stay (fun c v _ q=>q) (fun c q=>by rw[zq (zF q a0)];exact q) fun c xs q=>by rw[zq (zF q a0)];exact q
end
noncomputable def Its(x:Str):It:=⟨fun i _=>i<(cs x).length,fun i H v H'=>H'=H/\∃ c,(cs x)[i]? = some c/\v=.str (tx [c]),fun i _=>i=(cs x).length⟩
theorem VP{P:Program}{w:World}{K:ot}{tg:Expr}{ty:String}(hty:["enumerate","zip","dict_itemiterator","dict_reverseitemiterator","odict_iterator","itertools.zip_longest","itertools.pairwise"].contains ty=false)(it:Addr)(x:Str)(t:Tok)
  (W:∀ A:Around,A.handled=none->Walks P w A it [it] [it] x.cps.size (SignAt x) fun i h=>h.IsStrIter it ty x t i)
  (S:∀(A:Around) (i:Nat) (s:Shared) (Q:Value->Shared->Prop) (E:Value->Shared->Prop),s.heap.IsStrIter it ty x t i->Q (.ref it) s->wpAny (model P w) A (pyIter (.ref it)) Q E s) :
  Us P w K tg (Its x) [it] it (fun i h=>h.IsStrIter it ty x t i) where
 mem:=by simp
 obj:=fun i h st b hb=>by
  have e:b=it:=by simpa using hb
  subst e
  obtain⟨o,e,c,d⟩:=st
  exact⟨o,e,fun v z=>by rw[d] at z;cases z⟩
 keep:=fun i h h' st k=>let ⟨o,e,r⟩:=st; ⟨o,k it (by simp) o e,r⟩
 item:=by
  intro X hP hw hK hc i pins s σ H E I hf st hg
  subst hP hw hK
  obtain⟨f0,f1,f2,f3,f4,f5⟩:=hf it (by simp)
  have hg':i<x.cps.size:=by have:i<x.cps.toList.length:=hg;simpa using this
  refine (W X.A (I.ok.hd hc)).item i s _ _ hg' st fun v h' tk hv st' kk=>?_
  obtain⟨c,u,hcc,rfl⟩:=hv
  have I1:Inv X pins σ H { s with heap:=h',toks:=tk }:=I.turned (fun b o hb e=>kk b o (by simpa using hb) e) f0 f1 f3 f4 f5
  obtain⟨o,e,cl,d⟩:=id st'
  refine⟨_,rfl,V1 (s:={ s with heap:=h',toks:=tk }) e cl d hty ⟨.str (tx [c]),H,I1,⟨u,rfl⟩,⟨rfl,c,?_,rfl⟩,st',fun b hb=>(hf b hb).1⟩⟩
  show x.cps.toList[i]? = some c
  simpa using hcc
 done:=by
  intro X hP hw hK hc i pins s σ H E I hf st hg
  subst hP hw hK
  obtain⟨f0,f1,f2,f3,f4,f5⟩:=hf it (by simp)
  have hi:i=x.cps.size:=by have:i=x.cps.toList.length:=hg;simpa using this
  rw[hi] at st
  exact (W X.A (I.ok.hd hc)).done s _ _ st fun h' tk kk=>⟨rfl,I.turned (fun b o hb e=>kk b o (by simpa using hb) e) f0 f1 f3 f4 f5⟩
 self:=fun A i s Q E st h=>S A i s Q E st h
section
variable{X:Cx}{tg:Expr}
noncomputable def zbb(tl:TE):TI:=fun σ H R=>tl σ H fun v H1=>∃ x,v=.str x/\R (Its x) H1
theorem Zj{l:Expr}{tl:TE}(hl:PE X l tl):PI X tg l (zbb tl):=by
 intro pins s σ H R I h
 refine thn (hl pins s σ H _ I h) fun v s1 ⟨y,H1,I1,r1,q1⟩=>?_
 obtain⟨x,e,q⟩:=q1
 subst e
 obtain⟨t,rfl⟩:=r1
 have fin:∀(ty:String) (hty:["enumerate","zip","dict_itemiterator","dict_reverseitemiterator","odict_iterator","itertools.zip_longest","itertools.pairwise"].contains ty=false)
   (W:∀ A:Around,A.handled=none->Walks X.prog X.w A s1.heap.objs.size [s1.heap.objs.size] [s1.heap.objs.size] x.cps.size (SignAt x) fun i h=>h.IsStrIter s1.heap.objs.size ty x t i)
   (S:∀(A:Around) (i:Nat) (s:Shared) (Q:Value->Shared->Prop) (E:Value->Shared->Prop),s.heap.IsStrIter s1.heap.objs.size ty x t i->Q (.ref s1.heap.objs.size) s->wpAny (model X.prog X.w) A (pyIter (.ref s1.heap.objs.size)) Q E s),
   PIE X pins σ tg R (.ref s1.heap.objs.size) { s1 with heap:=s1.heap.push { cls:=.type ty,data:=.fields #[.str x t,.int 0 0] } }:=fun ty hty W S=>by
  refine⟨s1.heap.objs.size,[s1.heap.objs.size],_,_,H1,rfl,I1.kept (t':=s1.toks) fun b o e=>aa _ e,VP hty _ x t W S,⟨_,aF _ rfl,rfl,rfl⟩,fun b hb=>?_,q⟩
  have e:b=s1.heap.objs.size:=by simpa using hb
  subst e
  exact I1.fpOk (aq _) (I1.hok.fresh (aq _))
 cases ha:x.cps.all (· < 128)
 ·exact wpAny_pyIter_wide ha (fin "str_iterator" (by decide) (fun A hA=>Walks.strWide hA _ x t) fun A i s Q E st h=>wpAny_pyIter_striter_wide st h)
 ·exact wpAny_pyIter_ascii ha (fin "str_ascii_iterator" (by decide) (fun A hA=>Walks.strAscii hA _ x t) fun A i s Q E st h=>wpAny_pyIter_striter_ascii st h)
end
theorem QL{x:Str}{g:TG}{tb:TS}{D:vh}{σ:St}{H:Hp}(Pv:Nat->St->Hp->Prop)(h0:Pv 0 σ H)
  (hs:∀ i c σ H,(cs x)[i]? = some c->Pv i σ H->g (.str (tx [c])) σ H fun σ2 H2=>tb { D with nx:=Pv (i+1),ct:=Pv (i+1),bk:=D.nx } σ2 H2) (hd:∀ σ H,Pv (cs x).length σ H->D.nx σ H) :
  ∃ W:Nat->Nat->St->Hp->Prop,(∃ m,W 0 m σ H)/\∀ i m σ H,W i m σ H ->
   ((Its x).stop i H/\D.nx σ H)\/((Its x).go i H/\∃ N:St->Hp->Prop,(∀ σ' H',N σ' H'->∃ m',m'<m/\W (i+1) m' σ' H')/\∀ v H',(Its x).yld i H v H'->g v σ H' fun σ2 H2=>tb { D with nx:=N,ct:=N,bk:=D.nx } σ2 H2):=by
 refine⟨fun i m σ H=>m=(cs x).length - i/\i<=(cs x).length/\Pv i σ H,⟨(cs x).length,by simp,aG _,h0⟩,?_⟩
 rintro i m σ H ⟨rfl,hi,p⟩
 by_cases hlt:i<(cs x).length
 ·refine .inr ⟨hlt,Pv (i+1),fun σ' H' p'=>⟨(cs x).length - (i+1),by lia,rfl,hlt,p'⟩,fun v H' y=>?_⟩
  obtain⟨e,c,hc,ev⟩:=y
  subst e ev
  exact hs i c σ _ hc p
 ·have e:i=(cs x).length:=by lia
  subst e
  exact .inl ⟨rfl,hd σ H p⟩
noncomputable def Ite(x:Str):It:=⟨fun i _=>i<(cs x).length,fun i H v H'=>∃ p c,H p=none/\(cs x)[i]? = some c/\v=.ref p/\H'=upd H p (.tup [.int (i:Nat),.str (tx [c])]),fun i _=>i=(cs x).length⟩
section
variable{X:Cx}
noncomputable def zaW(ta:TA):TI:=fun σ H R=>ta σ H fun vs H1=>∃ x,vs=[.str x]/\R (Ite x) H1
end
end L3
namespace L3
theorem vR{env:Env}:∀(names:List (Str × NameKind)) (acc:List (Str × Addr)),
    (∀ y,(y,NameKind.free) ∈ names->∃ c,env.cells.lookup y=some c)->(∀ y c,acc.lookup y=some c->env.cells.lookup y=some c) ->
    ∃ cl,(forIn names acc fun(x:Str × NameKind) (cs:List (Str × Addr))=>if (x.2 == NameKind.free)=true then (do let a <- cellOf env x.1;pure (ForInStep.yield ((x.1,a)::cs))) else pure (ForInStep.yield cs):Sem (List (Str × Addr)))=pure cl /\
      (∀ y c,cl.lookup y=some c->env.cells.lookup y=some c)/\(∀ y,(y,NameKind.free) ∈ names\/(acc.lookup y).isSome=true->∃ c,cl.lookup y=some c)
  | [],acc,_,ha=>⟨acc,rfl,ha,fun y h=>by
      rcases h with h | h
      . cases h
      . exact Option.isSome_iff_exists.mp h⟩
  | (n,k)::r,acc,hn,ha=>by
    by_cases hk:k=NameKind.free
    . subst hk
      obtain⟨c,hc⟩:=hn n (by simp)
      have ha':∀ y d,((n,c)::acc).lookup y=some d->env.cells.lookup y=some d:=fun y d e=>by
        rw[aT] at e
        by_cases hy:(y == n)=true
        . rw[hy] at e
          have:y=n:=eq_of_beq hy
          subst this
          cases e
          exact hc
        . have hy':(y == n)=false:=by simpa using hy
          rw[hy'] at e
          exact ha y d e
      obtain⟨cl,e,h1,h2⟩:=vR r ((n,c)::acc) (fun y hy=>hn y (aw _ hy)) ha'
      refine⟨cl,?_,h1,fun y hy=>h2 y ?_⟩
      . rw[cL]
        have ec:cellOf env n=pure c:=by unfold cellOf;rw[hc]
        simp only[beq_self_eq_true,if_true,ec,pure_bind]
        exact e
      . rcases hy with hy | hy
        . rcases List.mem_cons.mp hy with q | q
          . cases q
            exact .inr (by simp)
          . exact .inl q
        . refine .inr ?_
          rw[aT]
          by_cases hyn:(y == n)=true
          . rw[hyn];rfl
          . have hy':(y == n)=false:=by simpa using hyn
            rw[hy'];exact hy
    . obtain⟨cl,e,h1,h2⟩:=vR r acc (fun y hy=>hn y (aw _ hy)) ha
      refine⟨cl,?_,h1,fun y hy=>h2 y ?_⟩
      . rw[cL]
        have ek:(k == NameKind.free)=false:=by simpa using hk
        simp only[ek,bD,if_false,pure_bind]
        exact e
      . rcases hy with hy | hy
        . rcases List.mem_cons.mp hy with q | q
          . cases q;exact absurd rfl hk
          . exact .inl q
        . exact .inr hy
theorem we{scope:Scope}{env:Env}(hn:∀ y,(y,NameKind.free) ∈ scope.names->∃ c,env.cells.lookup y=some c) :
  ∃ cl,closureFor scope env=pure cl/\(∀ y c,cl.lookup y=some c->env.cells.lookup y=some c)/\(∀ y,(y,NameKind.free) ∈ scope.names->∃ c,cl.lookup y=some c):=by
 obtain⟨cl,e,h1,h2⟩:=vR scope.names [] hn (fun y c h=>by cases h)
 refine⟨cl,?_,h1,fun y hy=>h2 y (.inl hy)⟩
 unfold closureFor
 simp only[bind_pure]
 exact e
noncomputable abbrev Wx(ifs:List Expr)(env:Env):Sem Bool :=
 forIn ifs true fun c r=>if r=true then (do let ok <- isTrue c env (eval c env);pure (ForInStep.yield ok)) else pure (ForInStep.yield r)
theorem Zb{prog:Program}{w:World}{A:Around}{R:Result->Shared->Prop}{s:Shared}{elt tg iter:Expr}{ifs:List Expr}{scope:Scope}{pos:Pos}{it acc:Value}{env:Env}
  (I:Nat->Shared->Prop) {EE:Value->Shared->Prop} (hEE:EE=notedBy (model prog w) A env fun e s'=>R (.error e) s')
  (turn:∀ n s,I n s->wpAny (model prog w) A (pyNext it) (fun r s1=>match r with
   | none=>R (.ok .next) s1
   | some v=>wpAny (model prog w) A (letOwnedTupleGo tg it v) (fun _ s2=>wpAny (model prog w) A (assign tg env v) (fun _ s3 =>
     wpAny (model prog w) A (Wx ifs env) (fun ok s4=>if ok=true then
      wpAny (model prog w) A (eval elt env) (fun x s5=>wpAny (model prog w) A (call (.builtin "list.append") [acc,x]) (fun _ s6=>∃ m,m<n/\I m s6) EE s5) EE s4
      else ∃ m,m<n/\I m s4) EE s3) EE s2) EE s1) EE s) (n:Nat) (h:I n s) :
  codeAny (model prog w) A (.compLoop (.ListComp elt [⟨tg,iter,ifs,0⟩] scope pos) 0 it acc env) R s:=by
 subst hEE
 refine codeAny_loop rfl I (fun n s hI=>?_) n h
 show wpAny _ A ((compTurn (.ListComp elt [⟨tg,iter,ifs,0⟩] scope pos) 0 it acc env).onRaise (fun x=>do noteFrame x env;theTreesLotGoes x)) _ _ s
 refine wpAny_noted ?_
 rw[compTurn_list]
 refine oh (wpAny_standAt (oh (thn (turn n s hI) fun r s1 h1=>?_)))
 cases r with
 | none=>exact oj h1
 | some v =>
  refine oh (thn h1 fun _ s2 h2=>oh (thn h2 fun _ s3 h3=>oh (thn h3 fun ok s4 h4=>?_)))
  cases ok with
  | false=>exact oj ⟨rfl,h4⟩
  | true=>exact oh (oh (thn h4 fun x s5 h5=>oh (thn h5 fun _ s6 h6=>oj (oj ⟨rfl,h6⟩))))
noncomputable def yd(X:Cx)(scope:Scope)(cl:List (Str × Addr))(C:Addr)(N:List Str)(pins:List (Addr × Obj))(s3:Shared)(H3:Hp)(fp:List Addr)(E:Value->Shared->Prop):Cx :=
 { X with N:=N,s₀:=s3,H₀:=H3,env:=compEnvC scope cl C X.env,outer:=X.stack,ex:=fp,fn:=fun _=>false,pn:=X.pn ++ pins,xe:=E }
noncomputable def va(σ:St)(own:Nat)(ix:List Nat):St:=aO own none ++ ix.map fun i=>(σ[i]?).join
structure uY(X:Cx)(scope:Scope)(own caps:List Str)(ix:List Nat):Prop where
 kind:scope.kind=.function
 nocell:∀ y ∈ scope.names,y.2≠.cell
 names:∀ y ∈ scope.names,y.2=.local->scope.names.lookup y.1=some .local
 free:∀ y,(y,NameKind.free) ∈ scope.names->X.env.kindOf y=some .cell
 hown:∀ y ∈ own,scope.names.lookup y=some .local
 hcaps:∀ y ∈ caps,scope.names.lookup y=some .free
 hix:ix.map (fun i=>X.N[i]?)=caps.map some
theorem xP{α β:Type}[BEq α][LawfulBEq α]{l:List (α × β)}{a:α}{b:β}(h:l.lookup a=some b):(a,b) ∈ l:=by
 induction l with
 | nil=>cases h
 | cons p r ih =>
  obtain⟨c,d⟩:=p
  rw[aT] at h
  by_cases e:(a == c)=true
  ·rw[e] at h
   cases h
   rw[eq_of_beq e]
   exact aI
  ·have e':(a == c)=false:=by simpa using e
   rw[e'] at h
   exact aw _ (ih h)
theorem vb{scope:Scope}{env:Env}(hf:env.scope.kind=.function):∀{names:List (Str × NameKind)} {x:Str} {k:NameKind},names.lookup x=some k ->
    (names.map fun(n,k)=>if (k == NameKind.free && env.scope.kind == .function && env.kindOf n == some .cell) then (n,NameKind.cell) else (n,k)).lookup x=some (if (k == NameKind.free && env.scope.kind == .function && env.kindOf x == some .cell)=true then .cell else k)
  | [],_,_,h=>by simp at h
  | (n,k')::r,x,k,h=>by
    have ih:=@vb scope env hf r x k
    show bc x ((if (k' == NameKind.free && env.scope.kind == .function && env.kindOf n == some .cell)=true then (n,NameKind.cell) else (n,k'))::_)=_
    by_cases hx:(x == n)=true
    . have hxn:x=n:=eq_of_beq hx
      subst hxn
      rw[aT,hx] at h
      cases h
      by_cases c:(k' == NameKind.free && env.scope.kind == .function && env.kindOf x == some .cell)=true
      . rw[if_pos c,if_pos c,aT,hx]
      . rw[if_neg c,if_neg c,aT,hx]
    . have hx':(x == n)=false:=by simpa using hx
      rw[aT,hx'] at h
      by_cases c:(k' == NameKind.free && env.scope.kind == .function && env.kindOf n == some .cell)=true
      . rw[if_pos c,aT,hx'];exact ih h
      . rw[if_neg c,aT,hx'];exact ih h
theorem ui{scope:Scope}{env:Env}:∀{names:List (Str × NameKind)} {x:Str},names.lookup x=none ->
    (names.map fun(n,k)=>if (k == NameKind.free && env.scope.kind == .function && env.kindOf n == some .cell) then (n,NameKind.cell) else (n,k)).lookup x=none
  | [],_,_=>rfl
  | (n,k')::r,x,h=>by
    have ih:=@ui scope env r x
    show bc x ((if (k' == NameKind.free && env.scope.kind == .function && env.kindOf n == some .cell)=true then (n,NameKind.cell) else (n,k'))::_)=_
    by_cases hx:(x == n)=true
    . rw[aT,hx] at h;cases h
    . have hx':(x == n)=false:=by simpa using hx
      rw[aT,hx'] at h
      by_cases c:(k' == NameKind.free && env.scope.kind == .function && env.kindOf n == some .cell)=true
      . rw[if_pos c,aT,hx'];exact ih h
      . rw[if_neg c,aT,hx'];exact ih h
section
variable{X:Cx}{scope:Scope}{own caps:List Str}{ix:List Nat}{cl:List (Str × Addr)}{pins:List (Addr × Obj)}{σ:St}{H:Hp}{s:Shared}{fp:List Addr}{E:Value->Shared->Prop}
theorem jE(S:uY X scope own caps ix)(hcl1:∀ y c,cl.lookup y=some c->X.env.cells.lookup y=some c)(hcl2:∀ y,(y,NameKind.free) ∈ scope.names->∃ c,cl.lookup y=some c)
  (I:Inv X pins σ H s) (hfp:∀ b ∈ fp,xH X pins H b) (hlt:∀ b ∈ fp,b<s.heap.objs.size) {h4:Heap} {t4:Nat} (hn:h4.Ns s.heap.objs.size fun _=>none) (hk:∀ b o,s.heap.get? b=some o->h4.get? b=some o) :
  Inv (yd X scope cl s.heap.objs.size (own ++ caps) pins s H fp E) [] (va σ own.length ix) H { s with heap:=h4,toks:=t4 }:=by
 have kf:X.env.scope.kind=.function:=I.ok.kind
 have nofp:∀ b ∈ fp,b≠s.heap.objs.size:=fun b hb=>aA (hlt b hb)
 have cellLt:∀ x c,X.env.cells.lookup x=some c->c<s.heap.objs.size:=fun x c e=>by
  obtain⟨v,o,ho,_⟩:=I.cell x c e
  exact av ho
 have kinds:∀ y k,scope.names.lookup y=some k->(relabel scope X.env).names.lookup y=some (if (k == NameKind.free && X.env.scope.kind == .function && X.env.kindOf y == some .cell)=true then .cell else k):=fun y k e=>vb (scope:=scope) kf e
 have back:∀ y k,(relabel scope X.env).names.lookup y=some k->∃ k',scope.names.lookup y=some k'/\k=(if (k' == NameKind.free && X.env.scope.kind == .function && X.env.kindOf y == some .cell)=true then .cell else k'):=fun y k e=>by
  cases q:scope.names.lookup y with
  | none =>
   have:=ui (scope:=scope) (env:=X.env) q
   have e':(scope.names.map fun(n,k)=>if (k == NameKind.free && X.env.scope.kind == .function && X.env.kindOf n == some .cell) then (n,NameKind.cell) else (n,k)).lookup y=some k:=e
   rw[this] at e';cases e'
  | some k' =>
   refine⟨k',rfl,?_⟩
   have:=kinds y k' q
   rw[e] at this
   exact Option.some.inj this
 have isCell:∀ y,scope.names.lookup y=some .free->(relabel scope X.env).names.lookup y=some .cell:=fun y e=>by
  have:=kinds y _ e
  rw[this,if_pos]
  rw[S.free y (xP e),kf]
  rfl
 refine⟨⟨I.ok.mod,?_,I.ok.glob,I.ok.blt,aq _,?_,?_,?_,I.ok.hd,I.ok.frames,.inl rfl,?_,I.bs,aQ I.ok.bsz I.sz,?_,?_,I.stack,I.stkFree⟩,rfl,I.bare,Un.kept hk,⟨_,hn,?_⟩,?_,?_,?_,?_,I.hok.kept hk,?_⟩
 ·show (relabel scope X.env).kind=.function
  exact S.kind
 ·intro x y c h1 h2
  exact I.ok.inj x y c (hcl1 x c h1) (hcl1 y c h2)
 ·intro y hy
  have hy':(relabel scope X.env).names.lookup y=some .cell\/(relabel scope X.env).names.lookup y=some .free:=hy
  have:scope.names.lookup y=some .free:=by
   rcases hy' with q | q
   ·obtain⟨k',e,ek⟩:=back y _ q
    by_cases c:(k' == NameKind.free && X.env.scope.kind == .function && X.env.kindOf y == some .cell)=true
    ·rw[cj,cj] at c
     rw[e,eq_of_beq c.1.1]
    ·rw[if_neg c] at ek
     exact absurd ek.symm (S.nocell _ (xP e))
   ·obtain⟨k',e,ek⟩:=back y _ q
    by_cases c:(k' == NameKind.free && X.env.scope.kind == .function && X.env.kindOf y == some .cell)=true
    ·rw[if_pos c] at ek;cases ek
    ·rw[if_neg c] at ek
     rw[e,<- ek]
  exact hcl2 y (xP this)
 ·intro x c h _
  exact absurd h (by simp [yd])
 ·intro b hb
  refine⟨nofp b hb,fun x c e=>?_⟩
  exact (hfp b hb).2.2.2.2.1 x c (hcl1 x c e)
 ·intro b o e hb
  obtain⟨_,_,_,q,_⟩:=hfp b hb
  rcases q with q | q
  ·exact I.ok.noex b o e q
  ·exact absurd (az (av e) (aQ I.ok.bsz q)) (cr _)
 ·intro b hb z
  rcases List.mem_cons.mp (I.stkSub b z) with e | e
  ·exact (hfp b hb).2.1 e
  ·exact (hfp b hb).2.2.1 e
 ·intro i y v h1 h2 h3
  have hi:own.length<=i:=by
   refine cD fun hlt'=>?_
   unfold va at h2
   rw[cK (by rw[bi];exact hlt'),d7,if_pos hlt'] at h2
   cases h2
  have h1':caps[i - own.length]? = some y:=by
   have:(own ++ caps)[i]? = some y:=h1
   rw[cb hi] at this
   exact this
  have h2':(ix.map fun i=>(σ[i]?).join)[i - own.length]? = some (some v):=by
   unfold va at h2
   rw[cb (by rw[bi];exact hi),bi] at h2
   exact h2
  rw[aE] at h2'
  have hx:=congrArg (fun l=>l[i - own.length]?) S.hix
  simp only[aE,h1',Option.map_some] at hx
  cases q:ix[i - own.length]? with
  | none=>rw[q] at h2';cases h2'
  | some j =>
   rw[q] at h2' hx
   have hj:X.N[j]? = some y:=Option.some.inj hx
   have hv:(σ[j]?).join=some v:=Option.some.inj h2'
   have hσ:σ[j]? = some (some v):=by
    cases r:σ[j]? with
    | none=>rw[r] at hv;cases hv
    | some z=>rw[r] at hv;cases z with
     | none=>cases hv
     | some z=>cases hv;rfl
   have hfree:scope.names.lookup y=some .free:=S.hcaps y (ac h1')
   have hkc:=S.free y (xP hfree)
   obtain⟨m,hm,hl⟩:=I.loc
   obtain⟨u,ru,l⟩:=hl j y v hj hσ (.inr (.inl hkc))
   refine⟨u,ru,.inr ⟨.inl (isCell y hfree),?_⟩⟩
   rcases l with ⟨k,_⟩ | ⟨_,c,e,z⟩
   ·have:X.env.kindOf y=some .local:=k
    rw[hkc] at this;cases this
   ·obtain⟨c',e'⟩:=hcl2 y (xP hfree)
    have:=hcl1 y c' e'
    rw[e] at this
    cases this
    obtain⟨o,ho,hd⟩:=z
    exact⟨c,e',o,hk c o ho,hd⟩
 ·intro x c e
  obtain⟨v,o,ho,hd⟩:=I.cell x c (hcl1 x c e)
  exact⟨v,o,hk c o ho,hd⟩
 ·exact I.hok.fresh (aq _)
 ·intro x c e
  exact I.freeC x c (hcl1 x c e)
 ·intro p hp
  have hp':p ∈ X.pn ++ pins:=by
   have:p ∈ (X.pn ++ pins) ++ []:=hp
   rwa [aU] at this
  obtain⟨e,n,ne,nf,d⟩:=I.pin p hp'
  refine⟨hk _ _ e,n,?_,fun z=>?_,d⟩
  ·exact aA (av e)
  ·rcases List.mem_cons.mp (I.stkSub p.1 z) with q | q
   ·exact ne q
   ·exact nf q
 ·show (va σ own.length ix).length=(own ++ caps).length
  have:=congrArg eY S.hix
  rw[ag,ag] at this
  unfold va
  rw[au,bi,ag,au,this]
end
end L3
namespace L3
noncomputable def xf(σ σ':St):Prop:=σ.length=σ'.length/\∀(i:Nat) v,σ[i]? = some (some v)->σ'[i]? = some (some v)
noncomputable def PTs(X:Cx)(ifs:List Expr)(t:TT):Prop :=
 ∀(pins:List (Addr × Obj)) (s:Shared) (σ:St) (H:Hp) (Q:Bool->Hp->Prop),Inv X pins σ H s->t σ H Q->wpAny (model X.prog X.w) X.A (Wx ifs X.env) (TP X pins σ Q) X.xe s
noncomputable def wu:TT:=fun _ H Q=>Q true H
theorem yE{X:Cx}:PTs X [] wu:=fun _ _ _ H _ I h=>oj ⟨H,I,h⟩
theorem Vi{X:Cx}{c:Expr}{t:TT}(h:PT X c t):PTs X [c] t:=fun pins s σ H Q I hq=>by
 show wpAny _ _ (forIn [c] true _) _ _ s
 simp only[cL,eF,if_true]
 exact oh (oh (thn (h pins s σ H Q I hq) fun b s' hb=>oj (oj hb)))
noncomputable def jU(wi:TI)(g:TG)(tt:TT)(te:TE)(own:Nat)(ix:List Nat):TE:=fun σ H Q=>wi σ H fun J H1=>∀ D,H1 D=none->∃ W:Nat->Nat->List V->Hp->Prop,(∃ m,W 0 m [] (upd H1 D (.lst []))) /\
 ∀ i m acc H',W i m acc H'->(J.stop i H'/\Q (.ref D) H')\/(J.go i H'/\∀ x H2,J.yld i H' x H2->g x (va σ own ix) H2 fun σ3 H3=>xf (va σ own ix) σ3/\tt σ3 H3 fun b H4=>if b=true then
  te σ3 H4 fun v H5=>H5 D=some (.lst acc)/\acc.length<oq/\∃ m',m'<m/\W (i+1) m' (acc ++ [v]) (upd H5 D (.lst (acc ++ [v])))
  else ∃ m',m'<m/\W (i+1) m' acc H4)
theorem Un.but{fs ex:List Addr}{H H':Hp}{h h1 h2:Heap}{a:Addr}(u:Un fs ex H H' h h1)(sb:Heap.SameBut a h1 h2)(ha:h.get? a=none):Un fs ex H H' h h2:=by
 have ne:∀ b o,h.get? b=some o->b≠a:=fun b o e z=>by subst z;rw[ha] at e;cases e
 refine⟨fun b o e n hb hx=>(sb.2 b (ne b o e)).trans (u.keep b o e n hb hx),fun b o e n hb hx=>?_,u.free,fun b o e hx=>?_,u.tups,u.frzs,u.tbls⟩
 ·obtain⟨sl,q⟩:=u.slot b o e n hb hx
  exact⟨sl,(sb.2 b (ne b o e)).trans q⟩
 ·obtain⟨o',q⟩:=u.there b o e hx
  exact⟨o',(sb.2 b (ne b o e)).trans q⟩
theorem HOk.but{P:Program}{w:World}{H:Hp}{h1 h2:Heap}{a:Addr}(ok:HOk P w H h1)(sb:Heap.SameBut a h1 h2)(ha:H a=none):HOk P w H h2:=fun b ob e=>by
 refine (ok b ob e).stay (fun c u hc q=>(sb.2 c ?_).trans q) (fun _ q=>q) fun _ _ q=>q
 rintro rfl
 rcases hc with rfl | hc
 ·rw[ha] at e;cases e
 ·rw[ha] at hc;cases hc
section
variable{X:Cx}{scope:Scope}{own caps:List Str}{ix:List Nat}{elt tg iter:Expr}{ifs:List Expr}{pos:Pos}{wi:TI}{g:TG}{tt:TT}{te:TE}
theorem jd(hc:X.calm=true)(S:uY X scope own caps ix)
  (hg:∀ cl C pins s3 H3 fp,PG (yd X scope cl C (own ++ caps) pins s3 H3 fp fun _ _=>False) tg g)
  (ht:∀ cl C pins s3 H3 fp,PTs (yd X scope cl C (own ++ caps) pins s3 H3 fp fun _ _=>False) ifs tt)
  (he:∀ cl C pins s3 H3 fp,PE (yd X scope cl C (own ++ caps) pins s3 H3 fp fun _ _=>False) elt te)
  {cl:List (Str × Addr)} (hc1:∀ y c,cl.lookup y=some c->X.env.cells.lookup y=some c) (hc2:∀ y,(y,NameKind.free) ∈ scope.names->∃ c,cl.lookup y=some c)
  {pins:List (Addr × Obj)} {σ:St} {H2:Hp} {s2:Shared} {Q:VK} {it:Addr} {fp:List Addr} {tn:Nat->Heap->Prop} {J:It} (I2:Inv X pins σ H2 s2) (T:Us X.prog X.w X.K tg J fp it tn) (st2:tn 0 s2.heap) (f2:∀ b ∈ fp,xH X pins H2 b)
  (q:∀ D,H2 D=none->∃ W:Nat->Nat->List V->Hp->Prop,(∃ m,W 0 m [] (upd H2 D (.lst []))) /\
   ∀ i m acc H',W i m acc H'->(J.stop i H'/\Q (.ref D) H')\/(J.go i H'/\∀ x H2,J.yld i H' x H2->g x (va σ own.length ix) H2 fun σ3 H3=>xf (va σ own.length ix) σ3/\tt σ3 H3 fun b H4=>if b=true then
    te σ3 H4 fun v H5=>H5 D=some (.lst acc)/\acc.length<oq/\∃ m',m'<m/\W (i+1) m' (acc ++ [v]) (upd H5 D (.lst (acc ++ [v])))
    else ∃ m',m'<m/\W (i+1) m' acc H4))
  {RR:Value->Addr->Result->Shared->Prop} {E:Value->Shared->Prop}
  (hRR:∀ D C m s' H',H2 D=none->s'.heap.Ns C m->xH X pins H' C->Inv X pins σ H' s'->Q (.ref D) H'->RR (.ref D) C (.ok .next) s') :
  wpAny (model X.prog X.w) X.A (newList []) (fun acc s3=>wpAny (model X.prog X.w) X.A (newFunctionEnv scope X.env.globals cl [] X.env.qual none .none (some X.env)) (fun cenv s4 =>
   codeAny (model X.prog X.w) X.A (.compStart (.ListComp elt [⟨tg,iter,ifs,0⟩] scope pos) 0 (.ref it) acc { cenv with scope:=relabel scope X.env }) (RR acc cenv.locals) s4) E s3) E s2:=by
 have hD:H2 s2.heap.objs.size=none:=I2.hok.fresh (aq _)
 obtain⟨W,⟨m0,w0⟩,turn⟩:=q _ hD
 refine wpAny_newObj_type (wpAny_newFunctionEnv S.nocell (by intro y hy;simp at hy) (fun h1 hns1 hsb1=>?_) S.kind)
 dsimp only at hns1 hsb1 ⊢
 have I3:Inv X pins σ (upd H2 s2.heap.objs.size (.lst [])) { s2 with heap:=s2.heap.push { cls:=.type "list",dict:=none,data:=.seq ([]:List Value).toArray } } :=
  I2.lnew (its:=[]) (t':=s2.toks) .nil (aG _)
 generalize hs3:({ s2 with heap:=s2.heap.push { cls:=.type "list",dict:=none,data:=.seq ([]:List Value).toArray } }:Shared)=s3 at I3
 have e3:s2.heap.push { cls:=.type "list",dict:=none,data:=.seq ([]:List Value).toArray }=s3.heap:=by rw[<- hs3]
 rw[e3] at hns1 hsb1 ⊢
 have k1:∀ b o,s3.heap.get? b=some o->h1.get? b=some o:=fun b o e=>(hsb1.2 b (aA (av e))).trans (aa _ e)
 have k23:∀ b o,s2.heap.get? b=some o->s3.heap.get? b=some o:=fun b o e=>by rw[<- e3];exact aa _ e
 have hz:s3.heap.objs.size=s2.heap.objs.size+1:=by rw[<- e3,bw]
 have fpObj:∀ b ∈ fp,∃ o,s2.heap.get? b=some o:=fun b hb=>let ⟨o,e,_⟩:=T.obj 0 _ st2 b hb; ⟨o,e⟩
 have fplt:∀ b ∈ fp,b<s2.heap.objs.size:=fun b hb=>let ⟨o,e⟩:=fpObj b hb;av e
 have f3:∀ b ∈ fp,xH X pins (upd H2 s2.heap.objs.size (.lst [])) b:=fun b hb=>⟨by rw[zq (aA (fplt b hb))];exact (f2 b hb).1,(f2 b hb).2⟩
 have I4:Inv (yd X scope cl s3.heap.objs.size (own ++ caps) pins s3 (upd H2 s2.heap.objs.size (.lst [])) fp fun _ _=>False) [] (va σ own.length ix) (upd H2 s2.heap.objs.size (.lst [])) { s3 with heap:=h1,toks:=s3.toks+([]:List (Str × Value)).length } :=
  jE S hc1 hc2 I3 f3 (fun b hb=>by rw[hz];exact bU (fplt b hb)) hns1 k1
 have st4:tn 0 h1:=T.keep 0 _ _ st2 fun b hb o e=>k1 b o (k23 b o e)
 generalize hs4:({ s3 with heap:=h1,toks:=s3.toks+([]:List (Str × Value)).length }:Shared)=s4 at I4
 have es4:({ s2 with heap:=h1,toks:=s2.toks+([]:List (Str × Value)).length }:Shared)=s4:=by rw[<- hs4,<- hs3]
 have e4:h1=s4.heap:=by rw[<- hs4]
 have loop:codeAny (model X.prog X.w) X.A (.compLoop (.ListComp elt [⟨tg,iter,ifs,0⟩] scope pos) 0 (.ref it) (.ref s2.heap.objs.size) (compEnvC scope cl s3.heap.objs.size X.env)) (RR (.ref s2.heap.objs.size) s3.heap.objs.size) s4:=by
  let X':=yd X scope cl s3.heap.objs.size (own ++ caps) pins s3 (upd H2 s2.heap.objs.size (.lst [])) fp fun _ _=>False
  have fp':∀{H':Hp},(∀ b ∈ fp,H' b=none)->∀ b ∈ fp,xH X' [] H' b:=fun {H'} hn b hb=>by
   obtain⟨_,a1,a2,a3,a4,a5⟩:=f3 b hb
   refine⟨hn b hb,aA (show b<s3.heap.objs.size from by rw[hz];exact bU (fplt b hb)),fun z=>?_,.inl hb,fun x c e=>a4 x c (hc1 x c e),fun p hp=>?_⟩
   ·rcases List.mem_cons.mp (I3.stkSub b z) with e | e
    ·exact a1 e
    ·exact a2 e
   ·have:p ∈ (X.pn ++ pins) ++ []:=hp
    rw[aU] at this
    exact a5 p this
  refine Zb (fun n s'=>∃ i acc H',Inv X' [] (va σ own.length ix) H' s'/\tn i s'.heap/\(∀ b ∈ fp,H' b=none)/\W i n acc H') rfl ?_ m0 ⟨0,[],_,I4,by rw[<- e4];exact st4,fun b hb=>(f3 b hb).1,w0⟩
  rintro n s5 ⟨i,acc,H5,I5,st5,fr5,w5⟩
  refine wpAny_noRaise ?_
  rcases turn i n acc H5 w5 with ⟨stop,qn⟩ | ⟨go,step⟩
  ·refine thn (T.done X' rfl rfl rfl hc i [] s5 _ H5 _ I5 (fp' fr5) st5 stop) fun r s6 ⟨hr,I6⟩=>?_
   subst hr
   obtain⟨m,hm,_⟩:=I6.loc
   refine hRR _ _ m s6 H5 hD hm (I3.fpOk (aq _) I6.free) (I3.call' (s':=s6) I6.os I6.base I6.hok I6.bare fun b hb=>?_) qn
   obtain⟨_,a1,a2,a3,a4,a5⟩:=f3 b hb
   exact⟨a3,a1,a4,a5⟩
  ·refine thn (T.item X' rfl rfl rfl hc i [] s5 _ H5 (fun _ _=>False) I5 (fp' fr5) st5 go) fun r s6 ⟨u,hr,h6⟩=>?_
   subst hr
   refine wpAny_noRaise (thn h6 fun _ s7 ⟨x,H7,I7,r7,y7,st7,fr7⟩=>?_)
   have I7':=I7.pinned (fp' fr7) (T.obj _ _ st7)
   refine wpAny_noRaise (thn (hg _ _ _ _ _ _ _ s7 _ H7 x u _ I7' r7 (step x H7 y7)) fun _ s8 ⟨σ8,H8,I8,ks,q8⟩=>?_)
   refine wpAny_noRaise (thn (ht _ _ _ _ _ _ _ s8 σ8 H8 _ I8 q8) fun b s9 ⟨H9,I9,q9⟩=>?_)
   have back:∀{s':Shared} {H':Hp} {acc':List V} {m':Nat},Inv X' ([] ++ jf fp s7.heap) σ8 H' s'->m'<n->W (i+1) m' acc' H'->∃ m,m<n/\∃ i acc H',Inv X' [] (va σ own.length ix) H' s'/\tn i s'.heap/\(∀ b ∈ fp,H' b=none)/\W i m acc H':=fun {s' H' acc' m'} J' hm w'=>by
    refine⟨m',hm,i+1,acc',H',(J'.unpinned).weak ks.1 ks.2,T.keep _ _ _ st7 fun b hb o e=>(J'.pin (b,o) (aB _ (aB _ (xp hb e)))).1,fun b hb=>?_,w'⟩
    obtain⟨o,e,d⟩:=T.obj _ _ st7 b hb
    exact (J'.pin (b,o) (aB _ (aB _ (xp hb e)))).2.1
   cases b with
   | false =>
    rw[if_neg aC] at q9 ⊢
    obtain⟨m',hm,w'⟩:=q9
    exact back I9 hm w'
   | true =>
    rw[if_pos rfl] at q9 ⊢
    refine wpAny_noRaise (thn (he _ _ _ _ _ _ _ s9 σ8 H9 _ I9 q9) fun v s10 ⟨y,H10,I10,r10,hD10,hsz,m',hm,w'⟩=>?_)
    refine wpAny_noRaise ?_
    have:=wx (X:=X') _ s10 σ8 H10 (.ref s2.heap.objs.size) [y] (.ref s2.heap.objs.size) [v] (fun _ H'=>H'=upd H10 s2.heap.objs.size (.lst (acc ++ [y]))) I10 rfl (.cons r10 .nil) ⟨_,acc,y,rfl,rfl,hD10,hsz,rfl⟩
    refine thn this fun _ s11 ⟨_,H11,I11,_,eH⟩=>?_
    subst eH
    exact back I11 hm w'
 have goal:codeAny (model X.prog X.w) X.A (.compStart (.ListComp elt [⟨tg,iter,ifs,0⟩] scope pos) 0 (.ref it) (.ref s2.heap.objs.size) (compEnvC scope cl s3.heap.objs.size X.env)) (RR (.ref s2.heap.objs.size) s3.heap.objs.size) s4 :=
  codeAny_compStart_list loop (T.self _ 0 s4 _ _ (by rw[<- e4];exact st4) loop)
 rw[<- es4] at goal
 exact goal
theorem yD(hc:X.calm=true)(S:uY X scope own caps ix)(hi:PI X tg iter wi)
  (hg:∀ cl C pins s3 H3 fp,PG (yd X scope cl C (own ++ caps) pins s3 H3 fp fun _ _=>False) tg g)
  (ht:∀ cl C pins s3 H3 fp,PTs (yd X scope cl C (own ++ caps) pins s3 H3 fp fun _ _=>False) ifs tt)
  (he:∀ cl C pins s3 H3 fp,PE (yd X scope cl C (own ++ caps) pins s3 H3 fp fun _ _=>False) elt te)
  (hs:∀ x,foldedSetIterable iter X.env x=pure x:=by intro _;rfl) :
  PE X (.ListComp elt [⟨tg,iter,ifs,0⟩] scope pos) (jU wi g tt te own.length ix):=by
 intro pins s σ H Q I h
 obtain⟨cl,hclos,hc1,hc2⟩:=we (scope:=scope) (env:=X.env) fun y hy=>I.ok.has y (.inl (S.free y hy))
 rw[eval_ListComp]
 refine wpAny_comprehension_free (use:=none) rfl hs hclos S.kind S.names (thn (hi pins s σ H _ I h) fun v s1 h1=>thn h1 fun itv s2 h2=>?_)
 obtain⟨it,fp,tn,J,H2,e,I2,T,st2,f2,q⟩:=h2
 subst e
 refine jd (RR:=fun acc C=>compPost (model X.prog X.w) X.A X.xe none (EP X pins σ Q) acc C) hc S hg ht he hc1 hc2 I2 T st2 f2 q ?_
 intro D C m s' H' _ hn fc I' qn
 obtain⟨a0,a1,a2,a3,a4,a5⟩:=fc
 exact⟨m,hn,fun h' sb=>⟨.ref D,H',I'.turned (t':=s'.toks) (fun b o hb e=>(sb.2 b hb).trans e) a0 a1 a3 a4 a5,rfl,qn⟩⟩
noncomputable def Yo(i:Nat)(t:TE):TS:=fun D σ H=>t σ H fun x H1=>D.nx (σ.set i (some x)) H1
theorem ZJ{i:Nat}{y:Str}{py spos:Pos}(hN:X.N.Nodup)(hy:X.N[i]? = some y)(hly:Loc X.env.scope y)(hf:X.fn y=true\/X.env.scope.names.lookup y=some .local)(hc:X.calm=true)(S:uY X scope own caps ix)(hi:PI X tg iter wi)
  (hg:∀ cl C pins s3 H3 fp,PG (yd X scope cl C (own ++ caps) pins s3 H3 fp fun _ _=>False) tg g)
  (ht:∀ cl C pins s3 H3 fp,PTs (yd X scope cl C (own ++ caps) pins s3 H3 fp fun _ _=>False) ifs tt)
  (he:∀ cl C pins s3 H3 fp,PE (yd X scope cl C (own ++ caps) pins s3 H3 fp fun _ _=>False) elt te)
  (hsw:swapsWith (.ListComp elt [⟨tg,iter,ifs,0⟩] scope pos) (some (.Name y py)) spos.line X.env=pure true:=by rfl)
  (hs:∀ x,foldedSetIterable iter X.env x=pure x:=by intro _;rfl) :
  PS X (.Assign [.Name y py] (.ListComp elt [⟨tg,iter,ifs,0⟩] scope pos) spos) (Yo i (jU wi g tt te own.length ix)):=by
 intro pins s σ H D I h
 obtain⟨cl,hclos,hc1,hc2⟩:=we (scope:=scope) (env:=X.env) fun y hy=>I.ok.has y (.inl (S.free y hy))
 rw[exec_Assign_Name_used _ _ _ _ hsw]
 refine oh (wpAny_standAt (oh ?_))
 show wpAny _ X.A (do let _ <- comprehension (.ListComp elt [⟨tg,iter,ifs,0⟩] scope pos) scope X.env _ (newList []) false (eval iter X.env) (some (assign (.Name y py) X.env))) _ _ s
 refine oh (thn (wpAny_comprehension_free (use:=some (assign (.Name y py) X.env)) (Q:=fun _ s'=>SP X pins D .next s') rfl hs hclos S.kind S.names (thn (hi pins s σ H _ I h) fun v s1 h1=>thn h1 fun itv s2 h2=>?_)) fun _ s' hq=>oj (oj hq))
 obtain⟨it,fp,tn,J,H2,e,I2,T,st2,f2,q⟩:=h2
 subst e
 refine jd (Q:=fun x H1=>D.nx (σ.set i (some x)) H1) (RR:=fun acc C=>compPost (model X.prog X.w) X.A X.xe (some (assign (.Name y py) X.env)) (fun _ s'=>SP X pins D .next s') acc C) hc S hg ht he hc1 hc2 I2 T st2 f2 q ?_
 intro D' C m s' H1 hD' hn fc I1 nx
 obtain⟨a0,a1,a2,a3,a4,a5⟩:=fc
 show wpAny _ X.A (assign (.Name y py) X.env (.ref D')) _ _ s'
 refine wpAny_assign_Name (kO I1 hN hy hly (v:=.ref D') rfl (fun s'' I2' ⟨a,sb,ha⟩=>?_) hf)
 have hCa:C≠a:=by
  rcases ha with e | e
  ·rw[e];exact a1
  ·exact fun z=>a4 _ _ e z.symm
 refine⟨m,hn.sameBut sb hCa,fun h' sb'=>⟨_,H1,I2'.turned (t':=s''.toks) (fun b o hb e=>(sb'.2 b hb).trans e) a0 a1 a3 a4 a5,nx⟩⟩
end
end L3
namespace L3
section
variable{X:Cx}{a b:Expr}{ta tb:TE}{pos:Pos}
noncomputable def Uv:R2:=fun x y H Q=>(∃ i j,x=.int i/\y=.int j/\Q (.int (i+j)) H)\/(∃ i j,x=.str i/\y=.str j/\i.length+j.length<=oq/\Q (.str (i ++ j)) H)\/zbC x y H Q
theorem ZZ:OpR X (binaryOp .Add) Uv:=op_add.or (op_add_str.or Vp)
noncomputable def Q4:R2:=fun x y H Q=>(∃ i j,x=.int i/\y=.int j/\CMul i j/\Q (.int (i * j)) H)\/∃ z n,x=.str z/\y=.int n/\0<=n/\n<=1000/\z.length<=1000/\Q (.str (tx (aO n.toNat (cs z)).flatten)) H
theorem Q8:OpR X (binaryOp .Mult) Q4:=op_mul.or XM
noncomputable def zcj:R2:=fun x y H Q=>(∃ i j,x=.int i/\y=.int j/\Q (.bl (decide (i<j))) H)\/∃ i j,x=.str i/\y=.str j/\Q (.bl (decide (cs i<cs j))) H
noncomputable def zbR:R2:=fun x y H Q=>(∃ i j,x=.int i/\y=.int j/\Q (.bl (decide (i<=j))) H)\/∃ i j,x=.str i/\y=.str j/\Q (.bl (!(decide (cs j<cs i)))) H
theorem uo:OpR X (compareOp .LtE) zbR:=op_le.or Wn
theorem VA:OpR X (compareOp .Gt) (fun x y H Q=>∃ i j,x=.str i/\y=.str j/\Q (.bl (decide (cs j<cs i))) H):=by
 intro pins s σ H x y v u Q I rx ry h
 obtain⟨i,j,rfl,rfl,q⟩:=h
 obtain⟨t,rfl⟩:=rx
 obtain⟨t',rfl⟩:=ry
 exact PySem.P.gt_str ⟨.bl _,H,I,rfl,q⟩
noncomputable def KU:R2:=fun x y H Q=>(∃ i j,x=.int i/\y=.int j/\Q (.bl (decide (j<i))) H)\/∃ i j,x=.str i/\y=.str j/\Q (.bl (decide (cs j<cs i))) H
theorem Zn:OpR X (compareOp .Gt) KU:=op_gt.or VA
noncomputable def zb2(K:ot):V->Option Int->Option Int->Hp->VK->Prop:=fun x lo hi H Q=>zaX K x lo hi H Q\/zbN x lo hi H Q
theorem K8:SlR X (zb2 X.K):=sl_list.or wB
noncomputable def cV:V->Option Value
 | .ty n=>some (.type n)
 | .ref a=>some (.ref a)
 | _=>none
theorem U6:vf X (.builtin "isinstance") (fun xs H Q=>∃ x c u t b,xs=[x,c]/\cV c=some u/\Yr X.K H x t/\aP X.K t u=some b/\Q (.bl b) H):=by
 intro pins s σ H xs us Q I r h
 obtain⟨x,c,u,t,b,rfl,hc,ty,e,q⟩:=h
 obtain⟨v,w',rfl,rx,rc⟩:=Wv r
 have:w'=u:=by
  cases c with
  | ty n=>cases hc;exact rc
  | ref a=>cases hc;exact rc
  | _=>cases hc
 subst this
 exact Va I rx ty e fun tk=>⟨.bl b,H,I.tok tk,rfl,q⟩
end
end L3
namespace L3
noncomputable def Iel(K:ot)(a:Addr):It:=⟨fun i H=>∃ xs x,SqL K H a xs/\xs[i]? = some x,fun i H v H'=>∃ p x,H p=none/\(∀ xs,SqL K H a xs->xs[i]? = some x)/\v=.ref p/\H'=upd H p (.tup [.int (i:Nat),x]),fun i H=>∃ xs,SqL K H a xs/\i=xs.length⟩
theorem Y8{P:Program}{w:World}{K:ot}{elts:List Expr}{x1:Nat}{tpos:Pos}(e it a:Addr)(hei:e≠it) :
  Us P w K (.Tuple elts x1 tpos) (Iel K a) [e,it] e (fun i h=>(∃ old,IsEnum h e it i old)/\h.IsListIter it a i) where
 mem:=by simp
 obj:=fun i h st b hb=>by
  obtain⟨⟨old,he⟩,o,e2,c,d⟩:=st
  rcases List.mem_cons.mp hb with q | q
  ·subst q
   exact⟨_,he,fun v z=>by have z':Data.fields _=Data.cell v:=z;cases z'⟩
  ·have q':b=it:=by simpa using q
   subst q'
   exact⟨o,e2,fun v z=>by rw[d] at z;cases z⟩
 keep:=fun i h h' st k=>by
  obtain⟨⟨old,he⟩,st⟩:=st
  exact⟨⟨old,k e (by simp) _ he⟩,st.at fun o q=>k it (by simp) o q⟩
 item:=by
  intro X hP hw hK hc i pins s σ H E I hf st hg
  subst hP hw hK
  obtain⟨⟨old,he⟩,st⟩:=st
  obtain⟨xs,x,hq,hx⟩:=hg
  obtain⟨its,rv,p,hz⟩:=I.list hq
  obtain⟨u,hu,ru⟩:=rv.get hx
  have hA:X.A.in1.handled=none:=I.ok.hd hc
  have pl:=p.isList
  have hai:a≠it:=fun z=>by
   subst z
   obtain⟨o1,q1,c1,_⟩:=st
   obtain⟨o2,q2,c2,_⟩:=pl
   rw[q1] at q2;cases q2
   rw[c1] at c2
   exact absurd (Value.type.inj c2) (by decide)
  have hea:e≠a:=fun z=>by
   subst z
   obtain⟨o2,q2,c2,_⟩:=pl
   rw[he] at q2;cases q2
   exact absurd (Value.type.inj c2) (by decide)
  refine wpAny_pyNext_enum_itemD (Draws.list (A:=X.A.in1) hA it a hai its.toArray) he ⟨st,pl⟩ (by rw[al];exact (List.getElem?_eq_some_iff.mp hu).1) hei (by simp [hei,hea]) fun v h' tk hv ho st' hT hsz kk=>?_
  have ev:v=u:=by
   have hv':its.toArray[i]? = some v:=hv
   rw[List.getElem?_toArray,hu] at hv'
   exact (Option.some.inj hv').symm
  subst ev
  refine⟨_,rfl,wpAny_letOwnedTupleGo_enum ho fun h2 he2 sb=>?_⟩
  have elt:e<s.heap.objs.size:=av he
  have ilt:it<s.heap.objs.size:=by obtain⟨o,q,_⟩:=st;exact av q
  have I1:Inv X pins σ H { s with heap:=h2,toks:=tk+1 }:=Inv.turns (fp:=[e,it]) I (fun b o hb q=>by
   have hb':b≠e/\b≠it:=by simpa using hb
   exact (sb.2 b hb'.1).trans (kk b o hb'.1 hb'.2 q)) hf
  have hp:H s.heap.objs.size=none:=I.hok.fresh (aq _)
  have hT2:h2.get? s.heap.objs.size=some { cls:=.type "tuple",data:=.seq #[.int (i:Nat) tk,v] }:=(sb.2 _ (bR elt)).trans hT
  have I2:Inv X pins σ (upd H s.heap.objs.size (.tup [.int (i:Nat),x])) { s with heap:=h2,toks:=tk+1 } :=
   Inv.track I1 (I.fpOk (aq _) hp) ⟨by show 2<=oq;decide,[.int (i:Nat) tk,v],.cons ⟨_,rfl⟩ (.cons ru .nil),⟨_,hT2,rfl,_,rfl⟩⟩
  refine⟨.ref s.heap.objs.size,_,I2,rfl,⟨s.heap.objs.size,x,hp,fun ys hy=>by rw[I.list_inj hy hq];exact hx,rfl,rfl⟩,⟨⟨_,by simpa using he2⟩,?_⟩,fun b hb=>?_⟩
  ·exact st'.1.at fun o q=>(sb.2 it (Ne.symm hei)).trans q
  ·rw[zq]
   ·exact (hf b hb).1
   ·rcases List.mem_cons.mp hb with q | q
    ·rw[q];exact aA elt
    ·have q':b=it:=by simpa using q
     rw[q'];exact aA ilt
 done:=by
  intro X hP hw hK hc i pins s σ H E I hf st hg
  subst hP hw hK
  obtain⟨⟨old,he⟩,st⟩:=st
  obtain⟨xs,hq,hi⟩:=hg
  obtain⟨its,rv,p,hz⟩:=I.list hq
  have pl:=p.isList
  have hai:a≠it:=fun z=>by
   subst z
   obtain⟨o1,q1,c1,_⟩:=st
   obtain⟨o2,q2,c2,_⟩:=pl
   rw[q1] at q2;cases q2
   rw[c1] at c2
   exact absurd (Value.type.inj c2) (by decide)
  have hA:X.A.in1.handled=none:=I.ok.hd hc
  have hi':i=its.toArray.size:=by rw[al,<- rv.length];exact hi
  subst hi'
  refine wpAny_pyNext_enum_endD (Draws.list (A:=X.A.in1) hA it a hai its.toArray) he ⟨st,pl⟩ fun h' hx=>⟨rfl,?_⟩
  exact Inv.turns (fp:=[e,it]) (t':=s.toks) I (fun b o hb q=>hx b o (fun z=>hb (by simp [z])) q) hf
 self:=fun A i s Q E st h=>by
  obtain⟨⟨old,he⟩,_⟩:=st
  exact wpAny_pyIter_enum he h
section
variable{X:Cx}
noncomputable def Wu(K:ot)(ta:TA):TI:=fun σ H R=>ta σ H fun vs H1=>∃ a,vs=[.ref a]/\(∃ xs,SqL K H1 a xs)/\R (Iel K a) H1
theorem wl{a:Expr}{ta:TA}{p pos tpos:Pos}{elts:List Expr}{x1:Nat}(hg:Gl X "enumerate")(hm:X.mg "enumerate" = none)(ha:PA X [a] ta)(hs:oo [a] X.env=[(false,eval a X.env)]:=by rfl) :
  PI X (.Tuple elts x1 tpos) (.Call (.Name "enumerate" p) [a] [] pos) (Wu X.K ta):=by
 intro pins s σ H R I h
 refine Call_ (w4 I hg hm PyProof.Rows.boot_enumerate (bn (thn (ha pos pins s σ H _ I h) fun us s1 ⟨vs,H1,I1,r1,q1⟩=>?_) hs rfl))
 obtain⟨l,e,⟨xs,hq⟩,q⟩:=q1
 subst e
 obtain⟨u,rfl,ru⟩:=wf r1
 cases ru
 obtain⟨its,rv,pl,hz⟩:=I1.list hq
 refine call_enumerate_list pl.isList fun h' he hit hsz kk=>?_
 have I2:Inv X pins σ H1 { s1 with heap:=h' }:=I1.kept (t':=s1.toks) kk
 refine wpAny_pyIter_enum (s:={ s1 with heap:=h' }) (i:=0) he ?_
 refine⟨s1.heap.objs.size+1,[s1.heap.objs.size+1,s1.heap.objs.size],_,_,H1,rfl,I2,Y8 _ _ l (Nat.succ_ne_self _),⟨⟨_,he⟩,hit⟩,fun b hb=>?_,q⟩
 have hb':s1.heap.objs.size<=b:=by
  rcases List.mem_cons.mp hb with e | e
  ·rw[e];exact cA _
  ·have:b=s1.heap.objs.size:=by simpa using e
   rw[this];exact aq _
 exact I1.fpOk hb' (I1.hok.fresh hb')
end
noncomputable def ForEL(K:ot)(a:Addr)(g:TG)(tb:TS)(D:vh)(σ:St)(H:Hp):Prop:=∃ W:Nat->Nat->St->Hp->Prop,(∃ m,W 0 m σ H)/\∀ i m σ H,W i m σ H ->
 ((Iel K a).stop i H/\D.nx σ H)\/((Iel K a).go i H/\∃ N:St->Hp->Prop,(∀ σ' H',N σ' H'->∃ m',m'<m/\W (i+1) m' σ' H')/\∀ x H',(Iel K a).yld i H x H'->g x σ H' fun σ2 H2=>tb { D with nx:=N,ct:=N,bk:=D.nx } σ2 H2)
theorem zbr{K:ot}{ta:TA}{g:TG}{tb:TS}{D:vh}{σ:St}{H:Hp}:VT (Wu K ta) g tb D σ H=ta σ H fun vs H1=>∃ a,vs=[.ref a]/\(∃ xs,SqL K H1 a xs)/\ForEL K a g tb D σ H1:=rfl
theorem ForEL.by{K:ot}{a:Addr}{xs:List V}{g:TG}{tb:TS}{D:vh}{σ:St}{H:Hp}(Pv:Nat->St->Hp->Prop)(h0:Pv 0 σ H)(hl:∀ i σ H,i<=xs.length->Pv i σ H->SqL K H a xs)
  (hs:∀ i x σ H p,xs[i]? = some x->Pv i σ H->H p=none->g (.ref p) σ (upd H p (.tup [.int (i:Nat),x])) fun σ2 H2=>tb { D with nx:=Pv (i+1),ct:=Pv (i+1),bk:=D.nx } σ2 H2) (hd:∀ σ H,Pv xs.length σ H->D.nx σ H):ForEL K a g tb D σ H:=by
 refine⟨fun i m σ H=>m=xs.length - i/\i<=xs.length/\Pv i σ H,⟨xs.length,by simp,aG _,h0⟩,?_⟩
 rintro i m σ H ⟨rfl,hi,p⟩
 have q:=hl i σ H hi p
 by_cases hlt:i<xs.length
 ·refine .inr ⟨⟨xs,xs[i],q,by simp [hlt]⟩,Pv (i+1),fun σ' H' p'=>⟨xs.length - (i+1),by lia,rfl,hlt,p'⟩,fun v H' y=>?_⟩
  obtain⟨p',x,hp,hx,ev,eH⟩:=y
  subst ev eH
  exact hs i x σ H p' (hx xs q) p hp
 ·have e:i=xs.length:=by lia
  subst e
  exact .inl ⟨⟨xs,q,rfl⟩,hd σ H p⟩
noncomputable def zcm(K:ot)(a:Addr)(g:TG)(tb:TS)(D:vh)(σ:St)(H:Hp):Prop:=∃ W:Nat->Nat->St->Hp->Prop,(∃ m,W 0 m σ H)/\∀ i m σ H,W i m σ H ->
 ((Itt K a).stop i H/\D.nx σ H)\/((Itt K a).go i H/\∃ N:St->Hp->Prop,(∀ σ' H',N σ' H'->∃ m',m'<m/\W (i+1) m' σ' H')/\∀ x H',(Itt K a).yld i H x H'->g x σ H' fun σ2 H2=>tb { D with nx:=N,ct:=N,bk:=D.nx } σ2 H2)
theorem zcs{K:ot}{tl:TE}{g:TG}{tb:TS}{D:vh}{σ:St}{H:Hp}:VT (zcu K tl) g tb D σ H=tl σ H fun x H1=>∃ a,x=.ref a/\(∃ xs,SqT K H1 a xs)/\zcm K a g tb D σ H1:=rfl
noncomputable def tTr(K:ot)(ta:TE):TT:=fun σ H Q=>ta σ H fun x H'=>∃ k,Kb K x H' k/\Q k H'
theorem zbL{K:ot}{ta:TE}{σ:L2.St}{H:Hp}{Q:Bool->Hp->Prop}:tTr K ta σ H Q=ta σ H fun x H'=>∃ k,Kb K x H' k/\Q k H':=rfl
noncomputable def tBl(ta:TE):TT:=fun σ H Q=>ta σ H fun x H'=>∃ k,x=.bl k/\Q k H'
theorem za3{ta:TE}{σ:L2.St}{H:Hp}{Q:Bool->Hp->Prop}:tBl ta σ H Q=ta σ H fun x H'=>∃ k,x=.bl k/\Q k H':=rfl
section
variable{X:Cx}{a:Expr}{ta:TE}
theorem xv(ha:PE X a ta)(he:∀ whole,isTrue a X.env whole=(do let v <- whole;standAt a.pos;holding [v] (truthy v))):PT X a (tBl ta):=by
 intro pins s σ H Q I h
 refine isTrue_plain (thn (ha pins s σ H _ I h) fun v s1 ⟨x,H1,I1,r1,k,e,q1⟩=>?_) (he _)
 subst e
 exact QC pins s1 σ H1 (.bl k) v Q I1 r1 ⟨k,rfl,q1⟩
end
end L3
namespace L3
noncomputable def Irv(K:ot)(a:Addr)(n:Nat):It:=⟨fun i H=>∃ xs,SqL K H a xs/\xs.length=n/\i<n,fun i H v H'=>H'=H/\∀ xs,SqL K H a xs->xs.length=n->xs[n - 1 - i]? = some v,fun i H=>i=n⟩
theorem V6{P:Program}{w:World}{K:ot}{tg:Expr}(a it:Addr)(n:Nat):Us P w K tg (Irv K a n) [it] it (fun i h=>i<=n/\h.IsRevIter it a ((n:Int) - 1 - (i:Int))) where
 mem:=by simp
 obj:=fun i h st b hb=>by
  have e:b=it:=by simpa using hb
  subst e
  obtain⟨_,o,e,c,d⟩:=st
  exact⟨o,e,fun v z=>by rw[d] at z;cases z⟩
 keep:=fun i h h' st k=>⟨st.1,st.2.at fun o e=>k it (by simp) o e⟩
 item:=by
  intro X hP hw hK hc i pins s σ H E I hf st hg
  subst hP hw hK
  obtain⟨xs,hq,hn,hi⟩:=hg
  obtain⟨its,rv,p,hz⟩:=I.list hq
  obtain⟨f0,f1,f2,f3,f4,f5⟩:=hf it (by simp)
  have hx:xs[n - 1 - i]? = some (xs[n - 1 - i]'(by lia)):=ak (by lia)
  generalize xs[n - 1 - i]'(by lia)=x at hx
  obtain⟨u,hu,ru⟩:=rv.get hx
  have st2:=st.2
  have e:(n:Int) - 1 - (i:Int)=((n - 1 - i:Nat):Int):=by lia
  rw[e] at st2
  refine wpAny_pyNext_rev_item st2 p.isList (x:=u) (by simpa using hu) fun h' st' sb=>?_
  have I1:Inv X pins σ H { s with heap:=h' }:=I.turned (t':=s.toks) (fun b o hb e=>(sb.2 b hb).trans e) f0 f1 f3 f4 f5
  have e2:((n - 1 - i:Nat):Int) - 1=(n:Int) - 1 - ((i+1:Nat):Int):=by lia
  rw[e2] at st'
  obtain⟨o,e,c,d⟩:=id st'
  exact⟨u,rfl,V1 (s:={ s with heap:=h' }) e c d (by decide) ⟨x,H,I1,ru,⟨rfl,fun ys hy _=>by rw[I.list_inj hy hq];exact hx⟩,⟨hi,st'⟩,fun b hb=>(hf b hb).1⟩⟩
 done:=by
  intro X hP hw hK hc i pins s σ H E I hf st hg
  subst hP hw hK
  obtain⟨f0,f1,f2,f3,f4,f5⟩:=hf it (by simp)
  have hi:i=n:=hg
  have st2:=st.2
  rw[hi,show (n:Int) - 1 - (n:Int)=-1 by lia] at st2
  exact wpAny_pyNext_rev_end (I.ok.hd hc) st2 fun h' eb=>⟨rfl,I.turned (t':=s.toks) (fun b o hb e=>eb b o hb e) f0 f1 f3 f4 f5⟩
 self:=fun _ _ _ _ _ st h=>wpAny_pyIter_revIter st.2 h
theorem Uf:bootBuiltins "reversed" = some (.type "reversed"):=PyProof.Rows.boot_reversed
section
variable{X:Cx}{tg:Expr}
noncomputable def zbV(K:ot)(ta:TA):TI:=fun σ H R=>ta σ H fun vs H1=>∃ a xs,vs=[.ref a]/\SqL K H1 a xs/\R (Irv K a xs.length) H1
theorem zaj{a:Expr}{ta:TA}{p pos:Pos}(hg:Gl X "reversed")(hm:X.mg "reversed" = none)(ha:PA X [a] ta)(hs:oo [a] X.env=[(false,eval a X.env)]:=by rfl) :
  PI X tg (.Call (.Name "reversed" p) [a] [] pos) (zbV X.K ta):=by
 intro pins s σ H R I h
 refine Call_ (w4 I hg hm Uf (bn (thn (ha pos pins s σ H _ I h) fun us s1 ⟨vs,H1,I1,r1,q1⟩=>?_) hs rfl))
 obtain⟨l,xs,e,hq,q⟩:=q1
 subst e
 obtain⟨u,rfl,ru⟩:=wf r1
 cases ru
 obtain⟨its,rv,pl,hz⟩:=I1.list hq
 have hn:its.toArray.size=xs.length:=by rw[al,<- rv.length]
 refine call_reversed_list pl.isList ?_
 have hit:(s1.heap.push (revObj l ((its.toArray.size:Int) - 1))).IsRevIter s1.heap.objs.size l ((xs.length:Int) - 1 - ((0:Nat):Int)):=by
  refine⟨_,aF _ rfl,rfl,?_⟩
  rw[hn,show (xs.length:Int) - 1 - ((0:Nat):Int)=(xs.length:Int) - 1 by lia]
  rfl
 refine wpAny_pyIter_revIter (s:={ s1 with heap:=s1.heap.push (revObj l ((its.toArray.size:Int) - 1)) }) hit ?_
 refine⟨s1.heap.objs.size,[s1.heap.objs.size],_,_,H1,rfl,I1.kept (t':=s1.toks) fun b o e=>aa _ e,V6 l _ xs.length,⟨aG _,hit⟩,fun b hb=>?_,q⟩
 have e:b=s1.heap.objs.size:=by simpa using hb
 subst e
 exact I1.fpOk (aq _) (I1.hok.fresh (aq _))
end
section
variable{prog:Program}{w:World}{A:Around}{E:Value->Shared->Prop}{s:Shared}
end
section
variable{X:Cx}
noncomputable def zaN(K:ot)(ta:TA):TE:=fun σ H Q=>ta σ H fun vs H1=>∃ a xs,vs=[.ref a]/\SqL K H1 a xs/\∀ l,H1 l=none->Q (.ref l) (upd H1 l (.lst xs.reverse))
theorem Je{K:ot}{ta:TA}{σ:L2.St}{H:Hp}{Q:VK}:zaN K ta σ H Q=ta σ H fun vs H1=>∃ a xs,vs=[.ref a]/\SqL K H1 a xs/\∀ l,H1 l=none->Q (.ref l) (upd H1 l (.lst xs.reverse)):=rfl
end
noncomputable def Izp(K:ot)(a b:Addr):It:=⟨fun i H=>∃ xs ys x y,SqL K H a xs/\SqL K H b ys/\xs[i]? = some x/\ys[i]? = some y,fun i H v H'=>∃ p x y,H p=none/\(∀ xs,SqL K H a xs->xs[i]? = some x)/\(∀ ys,SqL K H b ys->ys[i]? = some y)/\v=.ref p/\H'=upd H p (.tup [x,y]),fun i H=>∃ xs ys,SqL K H a xs/\SqL K H b ys/\(xs.length=i\/ys.length=i)/\i<=xs.length/\i<=ys.length⟩
theorem wE{h:Heap}{a b:Addr}{o1 o2:Obj}{t u:String}(h1:h.get? a=some o1)(c1:o1.cls=.type t)(h2:h.get? b=some o2)(c2:o2.cls=.type u)(hne:t≠u):a≠b:=fun z=>by
 rw[z,h2] at h1
 cases h1
 rw[c2] at c1
 exact hne (Value.type.inj c1).symm
structure Ql(z TI TO i1 i2:Addr):Prop where
 TIz:TI≠z
 TOz:TO≠z
 i1z:i1≠z
 i2z:i2≠z
 TITO:TI≠TO
 TIi1:TI≠i1
 TIi2:TI≠i2
 TOi1:TO≠i1
 TOi2:TO≠i2
 i12:i1≠i2
noncomputable def ZipAt(z TI TO i1 i2 l1 l2:Addr)(i:Nat)(h:Heap):Prop:=IsZip h z TI TO .none/\IsPair h TI (.ref i1) (.ref i2)/\(∃ a b,IsPair h TO a b)/\h.IsListIter i1 l1 i/\h.IsListIter i2 l2 i
theorem ZipAt.apart{z TI TO i1 i2 l1 l2:Addr}{i:Nat}{h:Heap}{xs ys:Array Value}(D:Ql z TI TO i1 i2)(st:ZipAt z TI TO i1 i2 l1 l2 i h)(h1:h.IsList l1 xs)(h2:h.IsList l2 ys):ZipApart z TI TO i1 i2 l1 l2:=by
 obtain⟨hz,hTI,⟨a,b,hTO⟩,⟨o1,e1,c1,_⟩,⟨o2,e2,c2,_⟩⟩:=st
 obtain⟨p1,q1,k1,_⟩:=h1
 obtain⟨p2,q2,k2,_⟩:=h2
 exact⟨D.TIz,D.TOz,D.i1z,D.i2z,D.TITO,D.TIi1,D.TIi2,D.TOi1,D.TOi2,D.i12,wE q1 k1 hz rfl (by decide),wE q1 k1 hTO rfl (by decide),wE q1 k1 e1 c1 (by decide),wE q1 k1 e2 c2 (by decide),wE q2 k2 hz rfl (by decide),wE q2 k2 hTO rfl (by decide),wE q2 k2 e1 c1 (by decide),wE q2 k2 e2 c2 (by decide)⟩
section
variable{X:Cx}
noncomputable def zcq(K:ot)(ta:TA):TI:=fun σ H R=>ta σ H fun vs H1=>∃ a b,vs=[.ref a,.ref b]/\(∃ xs,SqL K H1 a xs)/\(∃ ys,SqL K H1 b ys)/\R (Izp K a b) H1
end
noncomputable def zcw(K:ot)(a b:Addr)(g:TG)(tb:TS)(D:vh)(σ:L2.St)(H:Hp):Prop:=∃ W:Nat->Nat->L2.St->Hp->Prop,(∃ m,W 0 m σ H)/\∀ i m σ H,W i m σ H ->
 ((Izp K a b).stop i H/\D.nx σ H)\/((Izp K a b).go i H/\∃ N:L2.St->Hp->Prop,(∀ σ' H',N σ' H'->∃ m',m'<m/\W (i+1) m' σ' H')/\∀ x H',(Izp K a b).yld i H x H'->g x σ H' fun σ2 H2=>tb { D with nx:=N,ct:=N,bk:=D.nx } σ2 H2)
theorem zck{K:ot}{ta:TA}{g:TG}{tb:TS}{D:vh}{σ:L2.St}{H:Hp}:VT (zcq K ta) g tb D σ H=ta σ H fun vs H1=>∃ a b,vs=[.ref a,.ref b]/\(∃ xs,SqL K H1 a xs)/\(∃ ys,SqL K H1 b ys)/\zcw K a b g tb D σ H1:=rfl
end L3
namespace L3
noncomputable abbrev xob(C:Addr)(dx:Option Addr)(t:Addr)(tb:Value):Obj:={ cls:=.ref C,dict:=dx,data:=.fields #[.ref t,tb,.none,.none,.bool false,.none] }
noncomputable abbrev xog(C:Addr)(dx:Option Addr)(t:Addr)(tb c:Value)(k:Bool):Obj:={ cls:=.ref C,dict:=dx,data:=.fields #[.ref t,tb,c,.none,.bool k,.none] }
noncomputable def Q7(h:Heap)(x:Addr)(tb:Value):Prop:=tb=.none\/∃ T oT ts,tb=.ref T/\T≠x/\h.get? T=some oT/\oT.data=.fields ts/\3<ts.size
section
variable{M:Model}{A:Around}{E:Value->Shared->Prop}{s:Shared}{base:Heap}{env env0:Env}{outer:List Env}{L x t C:Addr}{dx:Option Addr}{cx:Value}{kx:Bool}
theorem kX(h:env.frame=env0.frame):dJ env=dJ env0:=by unfold dJ;rw[h]
theorem jM{tb head:Value}{hadNext:Bool}{Q:Unit->Shared->Prop}(hfr:A.frames=some (env0::outer))(hl:s.heap.FunFrames base (env0::outer))(hf:env0.frame=some L)(he:env.frame=some L)
  (hx:s.heap.get? x=some (xog C dx t tb cx kx))
  (h:∀ h' oT ts,h'.get? x=some (xog C dx t (.ref s.heap.objs.size) cx kx)->s.heap.objs.size≠x->h'.get? s.heap.objs.size=some oT->oT.data=.fields ts->3<ts.size ->
   (∀ b o,b≠x->b ∉ frs (env0::outer)->s.heap.get? b=some o->h'.get? b=some o)->(∀ b o,b≠x->s.heap.get? b=some o->∃ sl,h'.get? b=some { o with slots:=sl })->Q () { s with heap:=h' }) :
  wpAny M A (do let a <- dJ env;let pl <- entryPlaceOf L hadNext;let b <- EntryCells.newEntry head a .none (rawInt L) .none pl;setField (.ref x) 1 b) Q E s:=by
 have hxf:x ∉ frs (env0::outer):=fun hm=>by
  obtain⟨_,o,ho,hnf⟩:=hl.mem hm
  rw[hx] at ho
  cases ho
  exact hnf _ rfl
 rw[kX (he.trans hf.symm)]
 refine oh (wpAny_frameOf_fun hfr hl hf fun h1 hs1=>oh (wpAny_entryPlaceOf fun pl hpl=>?_))
 unfold EntryCells.newEntry newFields
 refine oh (wpAny_newObj_type ?_ (hpl.sizeOk5 _ _ _ _ _))
 have hz:h1.objs.size=s.heap.objs.size:=hs1.1
 have hx1:h1.get? x=some (xog C dx t tb cx kx):=(hs1.2.1 x hxf).trans hx
 generalize ho:({ cls:=.type "traceback",dict:=none,data:=.fields ([head,.ref L,.none,rawInt L,.none] ++ (if pl.isEmpty then aO 6 Value.none else pl)).toArray }:Obj)=ob
 have hx2:(h1.push ob).get? x=some (xog C dx t tb cx kx):=aa _ hx1
 refine wpAny_setField hx2 rfl (by show 1<6;decide) ?_
 have hne:h1.objs.size≠x:=bR (av hx1)
 have hx3:((h1.push ob).update x (Obj.mapFields (·.setIfInBounds 1 (Value.ref h1.objs.size)))).get? x=some (xog C dx t (.ref h1.objs.size) cx kx) :=
  bO (Obj.mapFields (·.setIfInBounds 1 (Value.ref h1.objs.size))) hx2 rfl
 have hT:((h1.push ob).update x (Obj.mapFields (·.setIfInBounds 1 (Value.ref h1.objs.size)))).get? h1.objs.size=some ob :=
  (aH _ _ (Ne.symm hne)).trans (aF h1 (by rw[<- ho];rfl))
 rw[hz] at hx3 hT hne
 have kp:∀ b o,b≠x->h1.get? b=some o->((h1.push ob).update x (Obj.mapFields (·.setIfInBounds 1 (Value.ref h1.objs.size)))).get? b=some o:=fun b o hb e =>
  (aH _ _ (Ne.symm hb)).trans (aa _ e)
 rw[hz] at kp ⊢
 refine h _ ob _ hx3 hne hT (by rw[<- ho]) (by simp only[al,au,aL,cM] <;> lia) (fun b o hb hbf e=>kp b o hb ((hs1.2.1 b hbf).trans e)) fun b o hb e=>?_
 obtain⟨sl,q⟩:=hs1.2.2 b o e
 exact⟨sl,kp b _ hb q⟩
theorem kq{tb:Value}{Q:Unit->Shared->Prop}(hfr:A.frames=some (env0::outer))(hl:s.heap.FunFrames base (env0::outer))(hf:env0.frame=some L)(he:env.frame=some L)
  (hx:s.heap.get? x=some (xog C dx t tb cx kx)) (htb:Q7 s.heap x tb)
  (h:∀ h' T oT ts,h'.get? x=some (xog C dx t (.ref T) cx kx)->T≠x->(tb=.ref T\/s.heap.objs.size<=T)->h'.get? T=some oT->oT.data=.fields ts->3<ts.size ->
   (∀ b o,b≠x->tb≠.ref b->b ∉ frs (env0::outer)->s.heap.get? b=some o->h'.get? b=some o)->(∀ b o,b≠x->tb≠.ref b->s.heap.get? b=some o->∃ sl,h'.get? b=some { o with slots:=sl })->Q () { s with heap:=h' }) :
  wpAny M A (noteFrame (.ref x) env) (fun _ s1=>wpAny M A (setFlight (.ref x) none) Q E s1) E s:=by
 have land:∀(h1:Heap) (T:Addr) (oT:Obj) (ts:Array Value),h1.get? x=some (xog C dx t (.ref T) cx kx)->T≠x->(tb=.ref T\/s.heap.objs.size<=T)->h1.get? T=some oT->oT.data=.fields ts->3<ts.size ->
   (∀ b o,b≠x->tb≠.ref b->b ∉ frs (env0::outer)->s.heap.get? b=some o->h1.get? b=some o)->(∀ b o,b≠x->tb≠.ref b->s.heap.get? b=some o->∃ sl,h1.get? b=some { o with slots:=sl }) ->
   wpAny M A (setFlight (.ref x) none) Q E { s with heap:=h1 }:=fun h1 T oT ts e1 nT oldT e2 d2 z2 k1 k2=>by
  unfold setFlight
  refine oh (wpAny_field (s:={ s with heap:=h1 }) e1 rfl (x:=.ref T) rfl ?_)
  rw[if_pos (show (Value.ref T != Value.none)=true from by simp)]
  refine wpAny_setField (s:={ s with heap:=h1 }) e2 d2 z2 ?_
  have d3:=Obj.data_mapFields d2 (·.setIfInBounds 3 ((none:Option Addr).elim Value.none fun f=>rawInt f))
  have nb:∀ b,b≠x->tb≠.ref b->(∃ o,s.heap.get? b=some o)->b≠T:=fun b hb hbt ⟨o,eo⟩ z=>by
   subst z
   rcases oldT with q | q
   ·exact hbt q
   ·exact absurd (av eo) (Nat.not_lt.mpr q)
  refine h _ T _ _ ((aH _ _ nT).trans e1) nT oldT (bO _ e2 (Obj.isFreed_of_fields d3)) d3 (by simpa using z2) (fun b o hb hbt hbf e=>?_) fun b o hb hbt e=>?_
  ·exact (aH _ _ (Ne.symm (nb b hb hbt ⟨o,e⟩))).trans (k1 b o hb hbt hbf e)
  ·obtain⟨sl,q⟩:=k2 b o hb hbt e
   exact⟨sl,(aH _ _ (Ne.symm (nb b hb hbt ⟨o,e⟩))).trans q⟩
 unfold noteFrame
 simp only[he]
 refine oh (wpAny_field hx rfl (x:=tb) rfl ?_)
 rcases htb with rfl | ⟨T,oT,ts,rfl,nT,e2,d2,z2⟩
 ·rw[if_neg (by decide)]
  refine jM hfr hl hf he hx fun h' oT ts e1 ne e2 d2 z2 k1 k2=>land h' _ oT ts e1 ne (.inr (aq _)) e2 d2 z2 (fun b o hb _ hbf e=>k1 b o hb hbf e) fun b o hb _ e=>k2 b o hb e
 ·rw[if_pos (show (Value.ref T != Value.none)=true from by simp)]
  obtain⟨y,hy⟩:∃ y,ts[3]? = some y:=⟨ts[3],by simp [z2]⟩
  refine oh (wpAny_field e2 d2 (x:=y) hy ?_)
  by_cases c:(y == rawInt L)=true
  ·rw[if_pos c]
   exact oj (land s.heap T oT ts hx nT (.inl rfl) e2 d2 z2 (fun b o _ _ _ e=>e) fun b o _ _ e=>⟨o.slots,e⟩)
  ·rw[if_neg c]
   refine oh (wpAny_setField e2 d2 z2 ?_)
   have oth:∀ b,b≠T->(s.heap.update T (Obj.mapFields (·.setIfInBounds 3 Value.none))).get? b=s.heap.get? b:=fun b hb=>aH _ _ (Ne.symm hb)
   have hl1:(s.heap.update T (Obj.mapFields (·.setIfInBounds 3 Value.none))).FunFrames base (env0::outer):=hl.of_keeps fun b o hb hnf=>⟨o,(oth b fun q=>by rw[q,e2] at hb;cases hb;exact hnf ts d2).trans hb,rfl⟩
   have hsz:(s.heap.update T (Obj.mapFields (·.setIfInBounds 3 Value.none))).objs.size=s.heap.objs.size:=dg ..
   refine jM (s:={ s with heap:=s.heap.update T (Obj.mapFields (·.setIfInBounds 3 Value.none)) }) hfr hl1 hf he ((oth x (Ne.symm nT)).trans hx) fun h' oT' ts' e1 ne e2' d2' z2' k1 k2=>?_
   refine land h' _ oT' ts' e1 ne (.inr (by rw[hsz];exact aq _)) e2' d2' z2' (fun b o hb hbt hbf e=>k1 b o hb hbf ((oth b fun q=>hbt (by rw[q])).trans e)) fun b o hb hbt e=>k2 b o hb ((oth b fun q=>hbt (by rw[q])).trans e)
theorem Jj{tb:Value}{Q:Unit->Shared->Prop}(hfr:A.frames=some (env0::outer))(hl:s.heap.FunFrames base (env0::outer))(hf:env0.frame=some L)(he:env.frame=some L)
  (hx:s.heap.get? x=some (xog C dx t tb cx kx)) (htb:Q7 s.heap x tb)
  (h:∀ h' T oT ts,h'.get? x=some (xog C dx t (.ref T) cx kx)->T≠x->(tb=.ref T\/s.heap.objs.size<=T)->h'.get? T=some oT->oT.data=.fields ts->3<ts.size ->
   (∀ b o,b≠x->tb≠.ref b->b ∉ frs (env0::outer)->s.heap.get? b=some o->h'.get? b=some o)->(∀ b o,b≠x->tb≠.ref b->s.heap.get? b=some o->∃ sl,h'.get? b=some { o with slots:=sl })->Q () { s with heap:=h' }) :
  wpAny M A (leaving env (.ref x)) Q E s:=oh (kq hfr hl hf he hx htb h)
end
noncomputable def CXx(P:Program)(w:World):CXT:=fun outer H s E e s'=>∃(x C t:Addr) (dx:Option Addr) (tb:Value) (H':Hp),e=.ref x/\s'.os=s.os/\AllBare s'.gens/\Un (frs outer) [] H H' s.heap s'.heap/\HOk P w H' s'.heap /\
 s'.heap.get? x=some (xob C dx t tb)/\Q7 s'.heap x tb/\H' x=none/\s.heap.objs.size<=x/\(∀ T,tb=.ref T->H' T=none/\s.heap.objs.size<=T)/\E (.ref C) dx H'
noncomputable def KH(X:Cx)(E:XK)(e:Value)(s:Shared):Prop:=∃(pins:List (Addr × Obj)) (σ:St) (H:Hp) (x C t:Addr) (dx:Option Addr) (tb:Value),e=.ref x/\Inv X pins σ H s /\
 s.heap.get? x=some (xob C dx t tb)/\Q7 s.heap x tb/\xH X pins H x/\(∀ T,tb=.ref T->xH X pins H T)/\E (.ref C) dx H
noncomputable def XE(X:Cx)(E:XK):Prop:=∀ e s,KH X E e s->X.xe e s
theorem YJ{X:Cx}{E:XK}(hx:XE X E):uk (CXx X.prog X.w) X E:=by
 intro pins σ H s e s' I h
 obtain⟨x,C,t,dx,tb,H',rfl,os,bare,un,hok,ob,tr,hn,hsz,hT,q⟩:=h
 have I':Inv X pins σ H' s':=I.call' os un hok bare fun b z=>absurd z (by simp)
 exact hx _ _ ⟨pins,σ,H',x,C,t,dx,tb,rfl,I',ob,tr,I.fpOk hsz hn,fun T e=>I.fpOk (hT T e).2 (hT T e).1,q⟩
theorem zav{P:Program}{w:World}{K:ot}{mg:Str->Option Value}{base:Heap}{N:List Str}{qual:Str}{scope:Scope}{f:Addr}{cd:Value}{A:Around}{outer:List Env}{s:Shared}{H:Hp}{E:XK} :
  XE (uA (CXx P w) P w K mg base N qual scope f cd A outer s H E) E:=by
 intro e s1 h
 obtain⟨pins,σ,H1,x,C,t,dx,tb,rfl,I,ob,tr,fx,fT,q⟩:=h
 show wpAny _ _ (leaving _ (.ref x)) _ _ s1
 have ff:=I.stack
 refine Jj (A:=(uA (CXx P w) P w K mg base N qual scope f cd A outer s H E).A) (env0:=envOfC qual scope s.heap.objs.size f cd) (outer:=outer) I.ok.frames ff rfl rfl ob tr fun h' T oT ts e1 nT oldT e2 d2 z2 k1 k2=>?_
 have szs:s.heap.objs.size<=s1.heap.objs.size:=I.sz
 have hxs:s.heap.objs.size<=x:=by
  rcases fx.2.2.2.1 with z | z
  ·exact absurd z (by simp [uA])
  ·exact z
 have hTs:s.heap.objs.size<=T/\H1 T=none:=by
  rcases oldT with z | z
  ·obtain⟨a0,_,_,a3,_⟩:=fT T z
   rcases a3 with y | y
   ·exact absurd y (by simp [uA])
   ·exact⟨y,a0⟩
  ·exact⟨aQ szs z,I.hok.fresh z⟩
 have tbs:∀ b,tb=.ref b->s.heap.objs.size<=b/\H1 b=none:=fun b hb=>by
  obtain⟨a0,_,_,a3,_⟩:=fT b hb
  rcases a3 with y | y
  ·exact absurd y (by simp [uA])
  ·exact⟨y,a0⟩
 have old:∀ b o,s.heap.get? b=some o->b≠x/\tb≠.ref b:=fun b o e=>by
  have hb:=av e
  refine⟨aA (az hb hxs),fun z=>?_⟩
  exact absurd (az hb (tbs b z).1) (cr _)
 have un:Un (frs outer) [] H H1 s.heap h':=by
  have B:=I.base
  refine⟨fun b o e n hb _=>?_,fun b o e n hb _=>?_,fun b o e n _=>B.free b o e n (by simp [uA]),fun b o e _=>?_,B.tups,B.frzs,B.tbls⟩
  ·have e1:=B.keep b o e n hb (by simp [uA])
   refine k1 b o (old b o e).1 (old b o e).2 (fun z=>?_) e1
   have z':=I.stkSub b z
   rcases List.mem_cons.mp z' with q | q
   ·exact absurd q (aA (az (av e) I.ok.above))
   ·exact hb q
  ·obtain⟨sl,e1⟩:=B.slot b o e n hb (by simp [uA])
   obtain⟨sl',e2⟩:=k2 b _ (old b o e).1 (old b o e).2 e1
   exact⟨sl',e2⟩
  ·obtain⟨o',e1⟩:=B.there b o e (by simp [uA])
   obtain⟨sl',e2⟩:=k2 b _ (old b o e).1 (old b o e).2 e1
   exact⟨_,e2⟩
 have hok:HOk P w H1 h':=fun b u e=>by
  refine (I.hok b u e).stay (fun c v hc q=>k1 c v ?_ ?_ ?_ q) (fun _ q=>q) fun _ _ q=>q
  ·rintro rfl
   rcases hc with rfl | hc
   ·rw[fx.1] at e;cases e
   ·rw[fx.1] at hc;cases hc
  ·intro z
   have:=(tbs c z).2
   rcases hc with rfl | hc
   ·rw[this] at e;cases e
   ·rw[this] at hc;cases hc
  ·intro z
   have:=I.stkFree c z
   rcases hc with rfl | hc
   ·rw[this] at e;cases e
   ·rw[this] at hc;cases hc
 exact⟨x,C,t,dx,.ref T,H1,rfl,I.os,I.bare,un,hok,e1,.inr ⟨T,oT,ts,rfl,nT,e2,d2,z2⟩,fx.1,hxs,fun T' z=>by cases z;exact⟨hTs.2,hTs.1⟩,q⟩
theorem Fun.okX{P:Program}{w:World}{K:ot}{mg:Str->Option Value}{base:Heap}{x qual:Str}{st:Stmt}{f:Addr}{fd:FuncData}{N ps:List Str}{k:Nat}{sp:Sp}(F:Fun K x qual st f fd)(S:zr N ps (zb st))(len:∀ vs H Q E,sp vs H Q E->vs.length=ps.length)
  (hbody:∀(cdv:Value) (A:Around) (outer:List Env) (s:Shared) (H:Hp) (vs:List V) (Q:VK) (E:XK),Room k (A.deeper (envOfC qual (zb st) s.heap.objs.size f cdv))->XE (uA (CXx P w) P w K mg base N qual (zb st) f cdv A outer s H E) E->sp vs H Q E ->
   ∃ t,PSs (uA (CXx P w) P w K mg base N qual (zb st) f cdv A outer s H E) (zl st) t/\t { nx:=fun _ H'=>Q .non H',rt:=Q } (start N vs) H):ye P w K mg base (CXx P w) (k+1) f fd ps sp:=by
 obtain⟨oc,od,kV,doc,pm,an,cdv,ct,osl,rfl,lk,hcd⟩:=F.ex
 exact U5 lk hcd S len fun A outer s H vs Q E hr hsp=>hbody cdv A outer s H vs Q E hr zav hsp
noncomputable def KM(X:Cx)(E:XK)(e:Value)(s:Shared):Prop:=∃(cx:Value) (kx:Bool) (pins:List (Addr × Obj)) (σ:St) (H:Hp) (x C t:Addr) (dx:Option Addr) (tb:Value),e=.ref x/\Inv X pins σ H s /\
 s.heap.get? x=some (xog C dx t tb cx kx)/\Q7 s.heap x tb/\xH X pins H x/\(∀ T,tb=.ref T->xH X pins H T)/\E (.ref C) dx H
noncomputable def XEg(X:Cx)(E:XK):Prop:=∀ e s,KM X E e s->X.xe e s
end L3
namespace L3
structure RoomH(k:Nat)(A:Around):Prop where
 dp:A.depth+3 * k+5<recursionLimit
 un:A.units+16 * k+200<cLine
theorem RoomH.mark{k:Nat}{A:Around}(r:RoomH k A)(e:Option Value):RoomH k (A.mark e):=⟨r.dp,r.un⟩
noncomputable def cxH(P:Program)(w:World)(K:ot)(mg:Str->Option Value)(base:Heap)(N:List Str)(qual:Str)(scope:Scope)(f:Addr)(cd:Value)(A:Around)(outer:List Env)(s:Shared)(H:Hp):Cx :=
 { uA CX0 P w K mg base N qual scope f cd A outer s H E0 with calm:=false,xe:=fun _ _=>False }
section
variable{X:Cx}{k:Nat}{f:Addr}{fd:FuncData}{ps:List Str}{sp:Sp}{x:Str}{p pos:Pos}{e:Expr}{es:List Expr}{t:TA}
end
end L3
namespace L3
noncomputable abbrev bmV:List Value:=[.type "ValueError",.type "Exception",.type "BaseException",.type "object"]
noncomputable def ZG(K:ot)(C:Addr):Bool:=match K.lookup C with
 | some ⟨.type "type",_,.cls cd,sl⟩=>(match cd.mro,sl.toList with
  | .ref C'::bm,[_,_,_,_,some (.builtin n),_]=>C' == C && (n == "ValueError.__new__" && (!cd.hasDel && (cd.hasDict && PySem.W.tailIn K bmV bm)))
  | _,_=>false)
 | _=>false
theorem vG{K:ot}{C:Addr}(q:ZG K C=true):∃ bm N nm qn bs sn sub ab col dd k0 k1 k2 k3 k5,K.lookup C=some (excClassObj nm qn C N bs bm true sn sub ab col dd k0 k1 k2 k3 k5 "ValueError.__new__")/\∀ h:Heap,K.In h->OwnTail h bmV bm:=by
 unfold ZG at q
 split at q
 ·rename_i dd cd sl ho
  split at q
  ·rename_i C' bm k0 k1 k2 k3 n k5 hm hs
   simp only[cj,beq_iff_eq,dO] at q
   obtain⟨rfl,rfl,hdel,hdct,ht⟩:=q
   obtain⟨nm,bs,mro,ns,qn,hd,sn,sub,ab,col,del⟩:=cd
   dsimp only at hm hdel hdct
   subst hm hdel hdct
   have hsl:sl=#[k0,k1,k2,k3,some (.builtin "ValueError.__new__"),k5]:=by
    obtain⟨l⟩:=sl
    simp only at hs
    rw[hs]
   subst hsl
   exact⟨bm,ns,nm,qn,bs,sn,sub,ab,col,dd,k0,k1,k2,k3,k5,ho,fun h X=>PySem.W.tail_of_in X ht⟩
  ·cases q
 ·cases q
structure XC(K:ot)(C:Addr):Prop where
 ok:ZG K C=true
 sa:af K (.ref C) "__setattr__" = some (some (.builtin "object.__setattr__"))
 ga:af K (.ref C) "__getattribute__" = some (some (.builtin "BaseException.__getattribute__"))
 gt:af K (.ref C) "__getattr__" = some none
 kp:ah K (.ref C)=true
section
variable{prog:Program}{w:World}{A:Around}{R:Result->Shared->Prop}{h:Heap}{g:Array GenState}{d:Drawn}{t:Nat}{os:OsState}{K:ot}{C:Addr}
theorem Yy{init:Value}{rest:List Value}(X:K.In h)(q:ZG K C=true)(hi:af K (.ref C) "__init__" = some (some init))
  (hb:∀ self,PySem.W.Looks (model prog w) h (bindSpecial init self) (init,[self])) (hrest:rest.length<=oq)
  (hq:codeAny (model prog w) (A.under (.builtin "type.__call__" ⟨.ref C::rest,[]⟩)) (.call init ⟨.ref (h.objs.size+1)::rest,[]⟩) (PySem.W.InitBack (h.objs.size+1) R) ⟨(h.push { cls:=.type "tuple",data:=.seq rest.toArray }).push (xob C none h.objs.size .none),g,d,t,os⟩) :
  codeAny (model prog w) A (.call (.ref C) ⟨rest,[]⟩) R ⟨h,g,d,t,os⟩:=by
 obtain⟨bm,N,nm,qn,bs,sn,sub,ab,col,dd,k0,k1,k2,k3,k5,lk,tl⟩:=vG q
 have hC:=X _ _ lk
 have T:=tl h X
 have F:=dL
 have f1:=tc_lookup
 have f2:=tc_bind (.ref C)
 have hT:(⟨h,g,d,t,os⟩:Shared).TypeIs (.ref C) "type":=⟨_,hC,rfl⟩
 refine codeAny_of_tree ?_
 show wpAny _ _ (callAny (.ref C) _) _ _ _
 repeat (any_goals (first | assumption | with_reducible refine wpAny_loadPart_at hC ?_ | wp_step))
 refine⟨rfl,?_⟩
 refine codeAny_call_builtin_at (Code.quiet_builtin _ (by decide +kernel)) entry_typeCall (wpAny_check_type_call_sub hC ?_)
 repeat (first | with_reducible refine wpAny_loadPart_at hC ?_ | with_reducible refine wpAny_madeBy_exc hC ?_ | wp_step)
 refine codeAny_call_builtin_code (Code.quiet_builtin _ F.quiet) (wpAny_check_new_subT F T hC ?_)
 refine codeAny_exc_new_subT F T hC ?_ hrest
 show wpAny _ _ _ _ _ _
 have k:∀ b o,h.get? b=some o->((h.push { cls:=.type "tuple",data:=.seq rest.toArray }).push (xob C none h.objs.size .none)).get? b=some o:=fun b o e=>aa _ (aa _ e)
 have hC1:=k _ _ hC
 have hget:((h.push { cls:=.type "tuple",data:=.seq rest.toArray }).push (xob C none h.objs.size .none)).get? (h.objs.size+1)=some (xob C none h.objs.size .none):=by heap_get
 have hcC:(Value.ref C::bm).contains (.ref C)=true:=by simp
 unfold isInstance
 repeat (first | with_reducible refine wpAny_loadPart_at hget ?_ | wp_step)
 refine wpAny_isSubtype_exc (C:=C) hC1 ?_
 rw[hcC]
 repeat wp_step
 show wpAny _ _ (typeLookup (.ref C) _) _ _ _
 refine ((ci X hi).keeps k).at ?_
 refine wpAny_holding (oh (((hb _).keeps k).at ?_))
 refine oh (wpAny_call (codeAny_mono hq fun r s' z=>?_))
 rcases r with e | (v | _ | _ | _) <;> first | exact z | exact z.elim | skip
 obtain⟨rfl,z⟩:=z
 exact oj (oj z)
end
end L3
namespace L3
noncomputable def XN(x C:Addr)(dx:Option Addr):HO:=.ext fun h=>∃ t,h.get? x=some (xob C dx t .none)
noncomputable def XT(x C:Addr)(dx:Option Addr):HO:=.ext fun h=>∃ t tb c k,h.get? x=some (xog C dx t tb c k)
noncomputable def XP(x C:Addr)(dx:Option Addr):HO:=.ext fun h=>∃ t tb,h.get? x=some (xob C dx t tb)
theorem Kw{P:Program}{w:World}{H:Hp}{h:Heap}{x C t:Addr}{dx:Option Addr}(e:h.get? x=some (xob C dx t .none)):ObjOk P w H h x (XN x C dx) :=
 ⟨⟨t,e⟩,⟨_,e⟩,fun h1 h2 ⟨t,q⟩ k=>⟨t,k _ q⟩⟩
theorem KB{P:Program}{w:World}{H:Hp}{h:Heap}{x C t:Addr}{dx:Option Addr}{tb c:Value}{k:Bool}(e:h.get? x=some (xog C dx t tb c k)):ObjOk P w H h x (XT x C dx) :=
 ⟨⟨t,tb,c,k,e⟩,⟨_,e⟩,fun h1 h2 ⟨t,tb,c,k',q⟩ k=>⟨t,tb,c,k',k _ q⟩⟩
theorem Kl{P:Program}{w:World}{H:Hp}{h:Heap}{x C:Addr}{dx:Option Addr}(o:ObjOk P w H h x (XN x C dx)):∃ t,h.get? x=some (xob C dx t .none):=o.1
theorem za6{P:Program}{w:World}{H:Hp}{h:Heap}{x C:Addr}{dx:Option Addr}(o:ObjOk P w H h x (XT x C dx)):∃ t tb c k,h.get? x=some (xog C dx t tb c k):=o.1
section
variable{nm q:Str}{C N:Addr}{bs bm:List Value}{hdct:Bool}{sn:List Str}{sub:List Value}{ab:Bool}{col:Option Bool}{dd:Option Addr}{k0 k1 k2 k3 k5:Option Value}{newId:String}{h:Heap}{M:Model}
theorem Zm(hC:h.get? C=some (excClassObj nm q C N bs bm hdct sn sub ab col dd k0 k1 k2 k3 k5 newId))(base:Value):PySem.W.Looks M h (isSubtype (.ref C) base) ((Value.ref C::bm).contains base):=fun A Q E s k z=>by
 obtain⟨hp,g,d,t,os⟩:=s
 exact wpAny_isSubtype_exc (k _ _ hC) z
theorem Wm(hC:h.get? C=some (excClassObj nm q C N bs bm hdct sn sub ab col dd k0 k1 k2 k3 k5 newId)):PySem.W.Looks M h (mroOf (.ref C)) (.ref C::bm):=fun A Q E s k z=>by
 obtain⟨hp,g,d,t,os⟩:=s
 exact wpAny_mroOf_exc (k _ _ hC) z
theorem Wj(hC:h.get? C=some (excClassObj nm q C N bs bm hdct sn sub ab col dd k0 k1 k2 k3 k5 newId)):PySem.W.Looks M h (classData C) { name:=nm,bases:=bs,mro:=.ref C::bm,ns:=N,qualname:=q,hasDict:=hdct,slotNames:=sn,subclasses:=sub,abstract:=ab,collection:=col,hasDel:=false }:=fun A Q E s k z=>by
 unfold classData
 exact oh (wpAny_load (k _ _ hC) (oj z))
theorem Z3{bmB bm:List Value}(T:OwnTail h bmB bm)(self:Value)(hp:refuseLoop self "__setattr__" bmB=pure ()):refuseLoop self "__setattr__" bm=pure ():=by
 induction T with
 | base=>exact hp
 | own _ _ _ _ ih=>rw[refuseLoop_ref];exact ih
end
section
variable{X:Cx}{pins:List (Addr × Obj)}{σ:St}{H:Hp}{s:Shared}{A:Around}{E:Value->Shared->Prop}{x C:Addr}{f:Str}{y:V}{u:Value}
theorem Jw{Q:Unit->Shared->Prop}(I:Inv X pins σ H s)(e:H x=some (XN x C none))(xc:XC X.K C)(n:NoAttr X.K C f)(ry:RelV y u)
  (h:∀ s' dx,H dx=none->Inv X pins σ (upd (upd H dx (.xd [(f,y)])) x (XN x C (some dx))) s'->Q () s'):wpAny (model X.prog X.w) A (setAttr (.ref x) f u) Q E s:=by
 obtain⟨t,ob⟩:=Kl (I.hok x _ e)
 obtain⟨bm,N,nm,qn,bs,sn,sub,ab,col,dd,k0,k1,k2,k3,k5,lk,tl⟩:=vG xc.ok
 have hC:=I.kIn _ _ lk
 have T:=tl _ I.kIn
 have SF:=PySem.F.store_ValueError
 have J:PySem.W.InstAt s.heap x (xob C none t .none) C none:=⟨ob,rfl,rfl,trivial⟩
 have hob:(Value.ref C::bm).contains (.type "object")=true:=by rw[cU,T.hasType (show bmV.contains (.type "object")=true by decide +kernel),dn]
 have isO:PySem.W.Looks (model X.prog X.w) s.heap (isInstance (.ref x) (.type "object")) true:=J.type.andThen (by have:=Zm (M:=model X.prog X.w) hC (.type "object");rw[hob] at this;exact this)
 refine eW I.kIn J xc.sa ?_
 refine codeAny_call_builtin SF.slot.plain SF.entry (@PySem.W.check_slot (model X.prog X.w) _ _ { s with toks:=s.toks+1 } "object.__setattr__" "object" "__setattr__" (.ref x) [.str f s.toks,u] [] _ SF.kind SF.split isO (SF.args _ _ _) ?_)
 rw[PySem.W.osa_eq,refuse_eq]
 refine oh (oh (J.type.here (s:={ s with toks:=s.toks+1 }) (oh ((Wm hC).here (s:={ s with toks:=s.toks+1 }) ?_))))
 rw[refuseLoop_ref,Z3 T _ (SF.passes _)]
 refine oj (oh (J.type.here (s:={ s with toks:=s.toks+1 }) (oh ((ci I.kIn n).here (s:={ s with toks:=s.toks+1 }) (oh (oj ?_))))))
 show wpAny _ _ (Builtin.ObjectAttr.storeInOwnDict (.ref x) (.ref C) (.str f s.toks) f u false) _ _ _
 have hx1:(s.heap.push { cls:=.type "dict",data:=.dict #[] }).get? x=some (xob C none t .none):=aa _ ob
 have hxs:x≠s.heap.objs.size:=aA (av ob)
 refine oh (oj (oh (oh (wpAny_loadPart ob (oh ((Wj hC).here (s:={ s with toks:=s.toks+1 }) ?_))))))
 rw[if_neg (by simp)]
 show wpAny _ _ (if (!true || !typeHasDict (.ref C))=true then _ else _) _ _ _
 rw[if_neg (by simp [typeHasDict])]
 have hgd:((s.heap.push { cls:=.type "dict",data:=.dict #[] }).update x fun o=>{ cls:=o.cls,dict:=some s.heap.objs.size,data:=o.data,slots:=o.slots }).get? s.heap.objs.size=some { cls:=.type "dict",data:=.dict #[] } :=
  (aH _ _ hxs).trans (Heap.get?_push_at rfl rfl)
 have hgx:((s.heap.push { cls:=.type "dict",data:=.dict #[] }).update x fun o=>{ cls:=o.cls,dict:=some s.heap.objs.size,data:=o.data,slots:=o.slots }).get? x=some (xob C (some s.heap.objs.size) t .none) :=
  bO _ hx1 rfl
 have hnd:((s.heap.push { cls:=.type "dict",data:=.dict #[] }).update x fun o=>{ cls:=o.cls,dict:=some s.heap.objs.size,data:=o.data,slots:=o.slots }).Ns s.heap.objs.size (fun _=>none) :=
  ⟨_,#[],_,hgd,rfl,fun e he=>absurd he (by simp),fun _=>rfl⟩
 refine oh (wpAny_alloc' (oh (wpAny_update' hx1 (oj ?_))))
 show wpAny _ _ (Builtin.ObjectAttr.storeInDict s.heap.objs.size (.str f s.toks) f u) _ _ _
 unfold Builtin.ObjectAttr.storeInDict Builtin.ObjectAttr.newKeyGuard
 refine oh (oj (oh (wpAny_nsSet1 (Heap.Ns1.of_empty hnd) fun h' hn' hs=>?_)))
 obtain⟨oD,esD,epD,hoD,hdD,hcD⟩:=hn'.count (Within.cons f u Within.nil)
 refine oh (wpAny_lookBehind hoD (by rw[hdD];exact pastItsLine_dict (aQ hcD (by rw[aL,cM,sizeLine_eq];lia))) ?_)
 refine oj ?_
 have hx2:h'.get? x=some (xob C (some s.heap.objs.size) t .none):=(hs.2 x hxs).trans hgx
 have hfr:H s.heap.objs.size=none:=I.hok.fresh (aq _)
 have hxe:x≠s.heap.objs.size:=hxs
 refine h _ s.heap.objs.size hfr ?_
 have k0:∀ b o,b≠x->s.heap.get? b=some o->h'.get? b=some o:=fun b o hb q =>
  (hs.2 b (aA (av q))).trans ((aH _ _ (Ne.symm hb)).trans (aa _ q))
 have I1:Inv X pins σ (upd H x (XN x C (some s.heap.objs.size))) { s with heap:=h',toks:=s.toks+1+1 } :=
  I.write (x:=x) (e:=x) (by rw[e];exact True.intro) (.inl rfl) k0 ⟨_,hx2⟩ (Kw hx2)
 have hd2:ObjOk X.prog X.w (upd (upd H x (XN x C (some s.heap.objs.size))) s.heap.objs.size (.xd [(f,y)])) h' s.heap.objs.size (.xd [(f,y)]):=by
  refine⟨_,hn',fun g=>?_⟩
  show RelO (bc g [(f,y)]) (if g=f then some u else none)
  by_cases q:g=f
  ·subst q
   rw[if_pos rfl]
   simp [bc,RelO,ry]
  ·rw[if_neg q]
   have q':(g == f)=false:=by simpa using q
   simp [bc,q',RelO]
 have fd:xH X pins (upd H x (XN x C (some s.heap.objs.size))) s.heap.objs.size:=I.fpOk (aq _) (by rw[zq (Ne.symm hxe)];exact hfr)
 have I2:=Inv.track I1 fd hd2
 have eH:upd (upd H x (XN x C (some s.heap.objs.size))) s.heap.objs.size (.xd [(f,y)])=upd (upd H s.heap.objs.size (.xd [(f,y)])) x (XN x C (some s.heap.objs.size)):=by
  funext b
  unfold upd
  by_cases b1:b=s.heap.objs.size
  ·subst b1
   rw[if_pos rfl,if_neg (Ne.symm hxe),if_pos rfl]
  ·by_cases b2:b=x
   ·subst b2
    rw[if_neg b1,if_pos rfl,if_pos rfl]
   ·rw[if_neg b1,if_neg b2,if_neg b2,if_neg b1]
 rw[eH] at I2
 exact I2
end
end L3
namespace L3
noncomputable def QO(K:ot)(ta tv:TE)(f:Str):TS:=fun D σ H=>tv σ H fun y H1=>ta σ H1 fun o H2=>∃ x C,o=.ref x/\H2 x=some (XN x C none)/\XC K C/\NoAttr K C f/\∀ dx,H2 dx=none->D.nx σ (upd (upd H2 dx (.xd [(f,y)])) x (XN x C (some dx)))
section
variable{X:Cx}{o value:Expr}{f:Str}{pos pos':Pos}{ta tv:TE}
theorem WP(ha:PE X o ta)(hv:PE X value tv)(hs:swapsWith value (some (.Attribute o f pos')) pos.line X.env=pure false):PS X (.Assign [.Attribute o f pos'] value pos) (QO X.K ta tv f):=by
 intro pins s σ H D I h
 refine plainObj_wpAny_Assign_Attribute (thn (hv pins s σ H _ I h) fun u s1 ⟨y,H1,I1,ry,q⟩=>thn (ha pins s1 σ H1 _ I1 q) fun ov s2 ⟨x',H2,I2,rx,x,C,ex,e,xc,n,q2⟩=>?_) hs
 subst ex
 obtain rfl:ov=Value.ref x:=rx
 exact Jw I2 e xc n ry fun s3 dx hdx I3=>⟨σ,_,I3,q2 dx hdx⟩
end
section
variable{M:Model}{A:Around}{E:Value->Shared->Prop}{s:Shared}{env:Env}
theorem Vq{K:ot}{x:Sem Value}{Q:Flow->Shared->Prop}(hh:A.handled=none)
  (h:wpAny M A x (fun v s1=>∃ e C t dx,v=.ref e/\K.In s1.heap/\ZG K C=true/\s1.heap.get? e=some (xob C dx t .none)/\E (.ref e) s1) E s):wpAny M A (raiseStmt env (some x) none) Q E s:=by
 unfold raiseStmt
 refine oh (thn h fun v s1 h1=>?_)
 obtain⟨e,C,t,dx,rfl,X,hC,he,hE⟩:=h1
 obtain⟨bm,N,nm,qn,bs,sn,sub,ab,col,dd,k0,k1,k2,k3,k5,lk,tl⟩:=vG hC
 have hCo:=X _ _ lk
 have T:=tl _ X
 have hcB:(Value.ref C::bm).contains (.type "BaseException")=true:=by rw[cU,T.hasType (show bmV.contains (.type "BaseException")=true by decide +kernel),dn]
 obtain⟨hp,g,d,tk,os⟩:=s1
 repeat (first | with_reducible refine wpAny_loadPart_at he ?_ | with_reducible refine wpAny_loadPart_at hCo ?_ | (with_reducible refine wpAny_isSubtype_exc hCo ?_;rw[hcB]) | wp_step)
 exact wpAny_raiseNew_none hh hE
theorem WT{K:ot}{e:Expr}{pos:Pos}{Q:Flow->Shared->Prop}(hh:A.handled=none)
  (h:wpAny M A (eval e env) (fun v s1=>∃ a C t dx,v=.ref a/\K.In s1.heap/\ZG K C=true/\s1.heap.get? a=some (xob C dx t .none)/\E (.ref a) s1) E s):wpAny M A (exec (.Raise (some e) none pos) env) Q E s:=by
 rw[arm_exec_Raise]
 first
  | exact oh (wpAny_standAt (Vq hh (oh (thn h fun v s1 h1=>oh (wpAny_standAt (oj h1))))))
  | (simp only[evalOpt,Option.map];exact oh (wpAny_standAt (Vq hh (oh (thn h fun v s1 h1=>oh (wpAny_standAt (oj h1)))))))
end
noncomputable def del(H:Hp)(x:Addr):Hp:=fun b=>if b=x then none else H b
theorem Vd{H:Hp}{x b:Addr}(h:b≠x):del H x b=H b:=if_neg h
theorem Yh{H:Hp}{x:Addr}:del H x x=none:=if_pos rfl
section
variable{X:Cx}{pins:List (Addr × Obj)}{σ:St}{H:Hp}{s:Shared}
theorem Inv.untrack{x:Addr}{φ:Heap->Prop}(I:Inv X pins σ H s)(e:H x=some (.ext φ))(hs:X.s₀.heap.objs.size<=x):Inv X pins σ (del H x) s:=by
 have nx:∀ b u,H b=some u->(∀ ψ,u≠.ext ψ)->b≠x:=fun b u q nu z=>by subst z;rw[e] at q;cases q;exact nu _ rfl
 have hn:∀ b,b≠x->del H x b=H b:=fun b hb=>Vd hb
 have es:s={ s with heap:=s.heap,gens:=s.gens,drawn:=s.drawn,toks:=s.toks }:=rfl
 rw[es]
 refine I.step (g':=s.gens) (d':=s.drawn) (ch:=[x]) (fun b hb=>?_) (fun b o _ _ _ q _=>q) (fun b o _ _ _ q _=>⟨o.slots,q⟩) (fun b o hc _ n=>?_)
  (fun b o _ q=>⟨o,q⟩) (fun b xs q=>?_) (fun b u xs q=>?_) (fun b ps q=>?_) (fun m hm=>hm) (fun b u q=>?_) I.bare
 ·have eb:b=x:=by simpa using hb
  subst eb
  refine⟨.inr hs,fun z=>?_,fun y c q z=>?_,fun p hp z=>?_⟩
  ·rw[z,I.free] at e;cases e
  ·have:=I.freeC y c q;rw[z,e] at this;cases this
  ·have:=(I.pin p hp).2.1;rw[z,e] at this;cases this
 ·rw[hn b (by simpa using hc)];exact n
 ·rw[hn b (nx b _ q fun _ z=>by cases z)];exact q
 ·rw[hn b (nx b _ q fun _ z=>by cases z)];exact q
 ·exact⟨#[],by rw[hn b (nx b _ q fun _ z=>by cases z),q];simp⟩
 ·by_cases hb:b=x
  ·subst hb
   rw[Yh] at q
   cases q
  ·rw[hn b hb] at q
   exact (I.hok b u q).stay (fun c v _ z=>z) (fun c z=>by rw[hn c (nx c _ z fun _ y=>by cases y)];exact z) fun c xs z=>by rw[hn c (nx c _ z fun _ y=>by cases y)];exact z
theorem Xz{C:Addr}{us:List Value}{E:Value->Shared->Prop}{Q:Value->Shared->Prop}(I:Inv X pins σ H s)(xc:ZG X.K C=true)(hi:af X.K (.ref C) "__init__" = some (some (.builtin "ValueError.__init__")))(hl:us.length<=oq)
  (h:∀ s' x t,s.heap.objs.size<=x->Inv X pins σ H s'->s'.heap.get? x=some (xob C none t .none)->Q (.ref x) s'):wpAny (model X.prog X.w) X.A (call (.ref C) us) Q E s:=by
 have F:=dL
 obtain⟨bm,N,nm,qn,bs,sn,sub,ab,col,dd,k0,k1,k2,k3,k5,lk,tl⟩:=vG xc
 have hC:=I.kIn _ _ lk
 have T:=tl _ I.kIn
 obtain⟨hp,g,d,t,os⟩:=s
 have k:∀ b o,hp.get? b=some o->((hp.push { cls:=.type "tuple",data:=.seq us.toArray }).push (xob C none hp.objs.size .none)).get? b=some o:=fun b o e=>aa _ (aa _ e)
 refine wpAny_call (Yy I.kIn xc hi (fun self=>PySem.W.Looks.of_pure (F.init.bind self)) hl ?_)
 have hget:((hp.push { cls:=.type "tuple",data:=.seq us.toArray }).push (xob C none hp.objs.size .none)).get? (hp.objs.size+1)=some (xob C none hp.objs.size .none):=by heap_get
 refine codeAny_call_builtin F.init.plain F.initEntry (wpAny_check_init_subT F (T.keeps k) (k _ _ hC) hget rfl ?_)
 wp_walk
 refine⟨rfl,h _ (hp.objs.size+1) ((hp.push { cls:=.type "tuple",data:=.seq us.toArray }).push (xob C none hp.objs.size .none)).objs.size (cA _) (I.kept (t':=t) fun b o e=>?_) ?_⟩
 ·exact (aH _ _ (bR (bU (av e)))).trans (aa _ (k b o e))
 ·exact bO (Obj.mapFields fun x=>x.setIfInBounds 0 (Value.ref ((hp.push { cls:=.type "tuple",data:=.seq us.toArray }).push (xob C none hp.objs.size .none)).objs.size)) (aa _ hget) rfl
noncomputable def Vl(E:XK)(C:Addr)(t:TA):TS:=fun _ σ H=>t σ H fun vs H1=>vs.length<=oq/\E (.ref C) none H1
theorem yS{E:XK}{C:Addr}{cn:Str}{np cpos pos:Pos}{e:Expr}{es:List Expr}{t:TA}(hx:XE X E)(hc:X.calm=true)(xc:XC X.K C)(hi:af X.K (.ref C) "__init__" = some (some (.builtin "ValueError.__init__")))(hg:Gl X cn)(hm:X.mg cn=some (.ref C))(ha:PA X (e::es) t)
  (hdb:(cn == ("__debug__" : Str))=false:=by decide) (he:oo (e::es) X.env=(false,eval e X.env)::oo es X.env:=by rfl) (hpl:(backTo cpos (oo es X.env)).any (·.1)=false:=by rfl) :
  PS X (.Raise (some (.Call (.Name cn np) (e::es) [] cpos)) none pos) (Vl E C t):=by
 intro pins s σ H D I h
 refine WT (K:=X.K) (I.ok.hd hc) (wpAny_Call_Name_kw (ve I hg hm ?_ hdb))
 refine bC (h₀:=X.base) I.ok.mod.kin xc.kp (thn (ha cpos pins s σ H _ I h) fun us s1 ⟨vs,H1,I1,r,z,q⟩=>⟨I1.kIn,?_⟩) he hpl
 refine Xz (us:=[] ++ us) I1 xc.ok hi (by show us.length<=oq;rw[<- r.length];exact z) fun s2 x t hz I2 ob=>⟨x,C,t,none,rfl,I2.kIn,xc.ok,ob,?_⟩
 exact hx _ _ ⟨pins,σ,H1,x,C,t,none,.none,rfl,I2,ob,.inl rfl,I1.fpOk hz (I1.hok.fresh hz),fun T z=>(by cases z),q⟩
theorem XS{A:Around}{C:Addr}{us:List Value}{k:Nat}(r:Room (k+1) A):Room k (A.under (.builtin "type.__call__" ⟨.ref C::us,[]⟩)):=r.make C us []
noncomputable def X2(E:XK)(C:Addr)(sp:Sp)(t:TA):TS:=fun _ σ H=>t σ H fun vs H1=>vs.length<=oq/\∀ x,H1 x=none->sp (.ref x::vs) (upd H1 x (XN x C none)) (fun v H2=>v=.non/\∃ dx,H2 x=some (XN x C dx)/\E (.ref C) dx (del H2 x)) E0
theorem Zg{E:XK}{C f:Addr}{fd:FuncData}{k:Nat}{ps:List Str}{sp:Sp}{cn:Str}{np cpos pos:Pos}{e:Expr}{es:List Expr}{t:TA}(hx:XE X E)(hc:X.calm=true)(xc:XC X.K C)(hi:af X.K (.ref C) "__init__" = some (some (.ref f)))(hfn:aY X.K (.ref f)=true)
  (F:ye X.prog X.w X.K X.mg X.base CX0 k f fd ps sp) (hr:Room (k+1) X.A) (hb:Binds X.K fd ps []) (hg:Gl X cn) (hm:X.mg cn=some (.ref C)) (ha:PA X (e::es) t)
  (hdb:(cn == ("__debug__" : Str))=false:=by decide) (he:oo (e::es) X.env=(false,eval e X.env)::oo es X.env:=by rfl) (hpl:(backTo cpos (oo es X.env)).any (·.1)=false:=by rfl) :
  PS X (.Raise (some (.Call (.Name cn np) (e::es) [] cpos)) none pos) (X2 E C sp t):=by
 intro pins s σ H D I h
 refine WT (K:=X.K) (I.ok.hd hc) (wpAny_Call_Name_kw (ve I hg hm ?_ hdb))
 refine bC (h₀:=X.base) I.ok.mod.kin xc.kp (thn (ha cpos pins s σ H _ I h) fun us s1 ⟨vs,H1,I1,r,z,q⟩=>⟨I1.kIn,?_⟩) he hpl
 have hl:us.length<=oq:=by rw[<- r.length];exact z
 have ob:((s1.heap.push { cls:=.type "tuple",data:=.seq us.toArray }).push (xob C none s1.heap.objs.size .none)).get? (s1.heap.objs.size+1)=some (xob C none s1.heap.objs.size .none):=by heap_get
 have hfr:H1 (s1.heap.objs.size+1)=none:=I1.hok.fresh (cA _)
 have I2:Inv X pins σ (upd H1 (s1.heap.objs.size+1) (XN (s1.heap.objs.size+1) C none)) { s1 with heap:=(s1.heap.push { cls:=.type "tuple",data:=.seq us.toArray }).push (xob C none s1.heap.objs.size .none) } :=
  I1.laid (t':=s1.toks) (fun b o e=>aa _ (aa _ e)) (cA _) (Kw ob)
 have q1:=q _ hfr
 have r2:Vals (V.ref (s1.heap.objs.size+1)::vs) (Value.ref (s1.heap.objs.size+1)::us):=.cons rfl r
 have hlen:(Value.ref (s1.heap.objs.size+1)::us ++ ([]:List Value)).length=ps.length:=by
  rw[aU,<- r2.length]
  exact F.len _ _ _ _ q1
 have hb2:=hb { s1 with heap:=(s1.heap.push { cls:=.type "tuple",data:=.seq us.toArray }).push (xob C none s1.heap.objs.size .none) } (Value.ref (s1.heap.objs.size+1)::us) I2.kIn hlen
 rw[aU] at hb2
 have run:=F.run _ X.stack _ _ ⟨Value.ref (s1.heap.objs.size+1)::us,[]⟩ (Value.ref (s1.heap.objs.size+1)::us) _ _ E0 (XS (C:=C) (us:=us) hr) (I2.env0.make C us []) hb2 r2 q1
 have sz0:X.s₀.heap.objs.size<=s1.heap.objs.size+1:=aQ I1.sz (cA _)
 show wpAny (model X.prog X.w) X.A (call (.ref C) us) _ X.xe s1
 refine wpAny_call ?_
 refine Yy (h:=s1.heap) (g:=s1.gens) (d:=s1.drawn) (t:=s1.toks) (os:=s1.os) (rest:=us) I1.kIn xc.ok hi (fun self=>e8 I1.kIn self (beq_iff_eq.mp hfn)) hl (codeAny_mono run fun r s' hq=>?_)
 cases r with
 | error e=>exact False.elim hq
 | ok fl =>
  cases fl with
  | ret u =>
   obtain⟨v,H',I3,rv,ev,dx,hx3,q3⟩:=I2.after hq
   subst ev
   refine⟨rv,?_⟩
   obtain⟨t,ob3⟩:=Kl (I3.hok _ _ hx3)
   have I4:=Inv.untrack I3 hx3 sz0
   refine⟨_,C,t,dx,rfl,I3.kIn,xc.ok,ob3,hx _ _ ⟨pins,σ,_,_,C,t,dx,.none,rfl,I4,ob3,.inl rfl,?_,fun T z=>(by cases z),q3⟩⟩
   exact I1.fpOk (cA _) Yh
  | next=>exact False.elim hq
  | brk=>exact False.elim hq
  | cont=>exact False.elim hq
end
end L3
namespace L3
noncomputable def Jc(X:Cx)(pins:List (Addr × Obj))(σ:St)(E:XK)(e:Value)(s:Shared):Prop:=∃(cx:Value) (kx:Bool) (H:Hp) (x C t:Addr) (dx:Option Addr) (tb:Value),e=.ref x/\Inv X pins σ H s /\
 s.heap.get? x=some (xog C dx t tb cx kx)/\Q7 s.heap x tb/\xH X pins H x/\(∀ T,tb=.ref T->xH X pins H T)/\E (.ref C) dx H
noncomputable abbrev TX:=St->Hp->VK->XK->Prop
noncomputable def PEX(X:Cx)(e:Expr)(t:TX):Prop :=
 ∀(pins:List (Addr × Obj)) (s:Shared) (σ:St) (H:Hp) (Q:VK) (E:XK),Inv X pins σ H s->t σ H Q E->wpAny (model X.prog X.w) X.A (eval e X.env) (EP X pins σ Q) (Jc X pins σ E) s
section
variable{X:Cx}
variable{k:Nat}{f:Addr}{fd:FuncData}{ps:List Str}{sp:Sp}{dvs:List V}{ds:List Value}{x:Str}{p pos:Pos}{e:Expr}{es:List Expr}{t:TA}
theorem Ua(F:ye X.prog X.w X.K X.mg X.base (CXx X.prog X.w) k f fd ps sp)(hr:Room k X.A)(hg:Gl X x)(hm:X.mg x=some (.ref f))(hk:ah X.K (.ref f)=true)(hb:Binds X.K fd ps ds)(hd:Vals dvs ds)
  (ha:PA X.nox (e::es) t) (hdb:(x == ("__debug__" : Str))=false:=by decide) (he:oo (e::es) X.env=(false,eval e X.env)::oo es X.env:=by rfl) (hpl:(backTo pos (oo es X.env)).any (·.1)=false:=by rfl) :
  PEX X (.Call (.Name x p) (e::es) [] pos) (fun σ H Q E=>t σ H fun vs H1=>sp (vs ++ dvs) H1 Q E):=by
 intro pins s σ H Q E I h
 refine wpAny_Call_Name_kw (ve I hg hm ?_ hdb)
 refine bC (h₀:=X.base) I.ok.mod.kin hk (wpAny_noRaise (thn (ha pos pins s σ H _ (I.wish _) h) fun us s1 ⟨vs,H1,I1,r,q⟩=>⟨I1.kIn,?_⟩)) he hpl
 have I1':Inv X pins σ H1 s1:=I1.unwish
 have r2:Vals (vs ++ dvs) (us ++ ds):=r.append hd
 have hl:(us ++ ds).length=ps.length:=by rw[<- r2.length];exact F.len _ _ _ _ q
 refine wpAny_call (codeAny_mono (F.run X.A X.stack s1 H1 ⟨us,[]⟩ (us ++ ds) (vs ++ dvs) Q E hr I1'.env0 (hb s1 us I1'.kIn hl) r2 q) fun r s' hq=>?_)
 cases r with
 | error e =>
  obtain⟨x,C,t,dx,tb,H',rfl,os,bare,un,hok,ob,tr,hn,hsz,hT,q⟩:=hq
  exact⟨.none,false,H',x,C,t,dx,tb,rfl,I1'.call' os un hok bare (fun b z=>absurd z (by simp)),ob,tr,I1'.fpOk hsz hn,fun T e=>I1'.fpOk (hT T e).2 (hT T e).1,q⟩
 | ok fl =>
  cases fl with
  | ret u=>exact I1'.after hq
  | next=>exact False.elim hq
  | brk=>exact False.elim hq
  | cont=>exact False.elim hq
end
noncomputable abbrev Cx.suite(X:Cx)(e:Value):Cx:={ X with A:=X.A.mark (some e),calm:=false,xe:=fun _ _=>False }
theorem Inv.suite{X:Cx}{pins:List (Addr × Obj)}{σ:St}{H:Hp}{s:Shared}(I:Inv X pins σ H s)(e:Value):Inv (Cx.suite X e) pins σ H s :=
 ⟨⟨I.ok.mod,I.ok.kind,I.ok.glob,I.ok.blt,I.ok.above,I.ok.inj,I.ok.has,I.ok.cab,fun z=>absurd z (by simp [Cx.suite]),I.ok.frames,I.ok.stk,I.ok.exf,I.ok.bs,I.ok.bsz,I.ok.noex,I.ok.exfs,I.ok.funs,I.ok.frf⟩,
  I.os,I.bare,I.base,I.loc,I.cell,I.free,I.freeC,I.pin,I.hok,I.len⟩
theorem Inv.unsuite{X:Cx}{pins:List (Addr × Obj)}{σ σ':St}{H H':Hp}{s s':Shared}{e:Value}(J:Inv X pins σ' H' s')(I:Inv (Cx.suite X e) pins σ H s):Inv X pins σ H s :=
 ⟨J.ok,I.os,I.bare,I.base,I.loc,I.cell,I.free,I.freeC,I.pin,I.hok,I.len⟩
structure Hd where
 D:Addr
 i:Nat
 ts:TS
noncomputable def tHs(K:ot)(C:Addr)(dx:Option Addr)(x:Addr)(Dd:vh)(σ:St)(H:Hp):List Hd->Prop
 | []=>False
 | h::r=>∃ b,cu K (.ref C) (.ref h.D)=some b/\if b=true then h.ts { Dd with nx:=fun σ' H'=>Dd.nx (σ'.set h.i none) H',bk:=fun σ' H'=>Dd.bk (σ'.set h.i none) H',ct:=fun σ' H'=>Dd.ct (σ'.set h.i none) H' } (σ.set h.i (some (.ref x))) H else tHs K C dx x Dd σ H r
section
variable{X:Cx}{pins:List (Addr × Obj)}{σ:St}{H:Hp}{s:Shared}
end
theorem zau{M:Model}{A:Around}{E:Value->Shared->Prop}{K:ot}{s:Shared}{x C D t:Addr}{dx:Option Addr}{tb cx:Value}{kx:Bool}{b:Bool}{Q:Bool->Shared->Prop}(X:K.In s.heap)(hD:ZG K D=true)(he:s.heap.get? x=some (xog C dx t tb cx kx))
  (hs:cu K (.ref C) (.ref D)=some b) (h:Q b s):wpAny M A (excMatches (.ref x) (.ref D)) Q E s:=by
 obtain⟨bm,N,nm,qn,bs,sn,sub,ab,col,dd,k0,k1,k2,k3,k5,lk,tl⟩:=vG hD
 have hDo:=X _ _ lk
 have T:=tl _ X
 have hcB:(Value.ref D::bm).contains (.type "BaseException")=true:=by rw[cU,T.hasType (show bmV.contains (.type "BaseException")=true by decide +kernel),dn]
 have L:=PySem.W.looks_subIn (M:=M) X hs
 have f:=tc_notTuple
 obtain⟨hp,g,d,tk,os⟩:=s
 unfold excMatches
 repeat (first | with_reducible refine wpAny_loadPart_at he ?_ | with_reducible refine wpAny_loadPart_at hDo ?_ | (with_reducible refine wpAny_isSubtype_exc hDo ?_;rw[hcB]) | (with_reducible refine PySem.W.Looks.at L ?_) | wp_step)
 cases b with
 | false=>exact oj (oj (oj h))
 | true=>exact oj (oj (oj h))
section
variable{X:Cx}
noncomputable def tbL:Value->List Addr
 | .ref b=>[b]
 | _=>[]
noncomputable def zcI(K:ot)(i:Nat)(te:TX)(hds:List Hd):TS:=fun D σ H=>te σ H (fun v H1=>D.nx (σ.set i (some v)) H1) fun cls dx H1=>∃ C,cls=.ref C/\∀ x,H1 x=none->tHs K C dx x D σ (upd H1 x (XT x C dx)) hds
end
end L3
namespace L3
section
variable{prog:Program}{w:World}{A:Around}{E:Value->Shared->Prop}{s:Shared}{K:ot}{x C:Addr}{ox:Obj}{od:Option Obj}{name:Str}{tk:Tok}
theorem zay{fill expr:Bool}{Q:Value->Shared->Prop}(X:K.In s.heap)(xc:XC K C)(J:PySem.W.InstAt s.heap x ox C od)
  (h:wpAny (model prog w) A.in1 (Builtin.«object.__getattribute__» ⟨[.ref x,.str name tk],[]⟩) (fun fin s'=>match fin with | .done (.ret v)=>wpAny (model prog w) A (handedOut v) Q E s' | _=>False) (fun _ _=>False) s) :
  wpAny (model prog w) A (getAttrBy (.ref x) (.str name tk) fill expr) Q E s:=by
 obtain⟨bm,N,nm,qn,bs,sn,sub,ab,col,dd,k0,k1,k2,k3,k5,lk,tl⟩:=vG xc.ok
 have hC:=X _ _ lk
 have T:=tl _ X
 have FB:=PySem.F.attrBase_ValueError
 have L0:=J.type (M:=model prog w)
 have L1:=ci (M:=model prog w) X xc.ga
 have L2:=ci (M:=model prog w) X xc.gt
 have hcB:(Value.ref C::bm).contains (.type "BaseException")=true:=by rw[cU,T.hasType (show bmV.contains (.type "BaseException")=true by decide +kernel),dn]
 have isB:PySem.W.Looks (model prog w) s.heap (isInstance (.ref x) (.type "BaseException")) true:=L0.andThen (by have:=Zm (M:=model prog w) hC (.type "BaseException");rw[hcB] at this;exact this)
 have f3:=FB.ga.bind (.ref x)
 have hx0:(expr && onTheHeap (Value.builtin "BaseException.__getattribute__"))=false:=by cases expr <;> rfl
 have hx2:(Value.builtin "BaseException.__getattribute__" == Value.builtin "object.__getattribute__")=false:=by decide +kernel
 have hx1:(onTheHeap (Value.ref C) && Value.builtin "BaseException.__getattribute__" == Value.builtin "object.__getattribute__")=false:=by rw[hx2];rfl
 unfold getAttrBy
 refine wpAny_holding (oh (L0.here (oh (L1.here ?_))))
 show wpAny _ _ (if (onTheHeap (Value.ref C) && Value.builtin "BaseException.__getattribute__" == Value.builtin "object.__getattribute__")=true then _ else _) _ _ _
 rw[hx1,if_neg aC]
 unfold getAttrByItsOwn hookBefore
 rw[if_pos (by rfl)]
 refine oh (L2.here (oh (wpAny_attempt (wpAny_holding ?_))))
 unfold callGetattribute
 rw[hx0,if_neg aC]
 unfold boundAndCalled
 rw[f3]
 refine oh (oj ?_)
 show wpAny (model prog w) A (call (.builtin "BaseException.__getattribute__") [.ref x,.str name tk]) _ _ s
 refine wpAny_call (codeAny_call_builtin FB.ga.plain PySem.F.entry_bexc_ga (@PySem.W.check_slot (model prog w) _ _ s "BaseException.__getattribute__" "BaseException" "__getattribute__" (.ref x) [.str name tk] [] _ (by decide +kernel) (by decide +kernel) isB (PySem.F.args_bexc_ga _ _) ?_))
 refine wpAny_mono h (fun fin s' z=>?_) fun _ _ z=>z.elim
 rcases fin with (_ | _ | _ | v) | _ <;> first | exact z | exact z.elim
theorem Qp{Q:Option Value->Shared->Prop}(X:K.In s.heap)(xc:XC K C)(J:PySem.W.InstAt s.heap x ox C od)(ha:af K (.ref C) "__class__" = some (some (.builtin "object.__class__")))
  (hn:cf K (.builtin "object.__class__") "__get__" = some (some (.builtin "getset_descriptor.__get__"))) (htk:dm K (.builtin "object.__class__")=some true) (hm:bF K C (.type "object")=some true)
  (h:Q (some (.ref C)) { s with toks:=s.toks+1 }):wpAny (model prog w) A (getAttr? (.ref x) "__class__") Q E s:=by
 have hf:e9 K C od "__class__" = some (.bind (.builtin "getset_descriptor.__get__") (.builtin "object.__class__")):=by
  obtain⟨bm,N,nm,qn,bs,sn,sub,ab,col,dd,k0,k1,k2,k3,k5,lk,tl⟩:=vG xc.ok
  have hcl:(PySem.W.clsIn K C).isSome=true:=by unfold PySem.W.clsIn;rw[lk];rfl
  obtain⟨cd,hc⟩:=Option.isSome_iff_exists.mp hcl
  unfold e9
  rw[hc,bM,ha,bM]
  simp [hn,htk]
 unfold getAttr? getAttrBy?
 refine oh (wpAny_mkText (oh (wpAny_attempt (zay (s:={ s with toks:=s.toks+1 }) X xc J ?_))))
 have L0:=J.type (M:=model prog w)
 have L1:=PySem.W.looks_find (M:=model prog w) X J hf
 unfold Builtin.«object.__getattribute__»
 refine oh (oj (oh (oj (oh (L0.here (s:={ s with toks:=s.toks+1 }) (oh (L1.here (s:={ s with toks:=s.toks+1 }) ?_)))))))
 show wpAny _ _ (holding [.builtin "object.__class__"] (call (.builtin "getset_descriptor.__get__") [.builtin "object.__class__",.ref x,.ref C]) >>= ret) _ _ _
 refine oh (wpAny_holding (wpAny_call (PySem.W.class_get (s:={ s with toks:=s.toks+1 }) X J hm ?_)))
 refine oj ?_
 show wpAny _ _ (handedOut (.ref C)) _ _ _
 rw[PySem.W.handedOut_of rfl]
 exact oj (oj h)
end
structure XI(K:ot)(C:Addr):Prop extends XC K C where
 ca:af K (.ref C) "__class__" = some (some (.builtin "object.__class__"))
 cg:cf K (.builtin "object.__class__") "__get__" = some (some (.builtin "getset_descriptor.__get__"))
 ct:dm K (.builtin "object.__class__")=some true
 mo:bF K C (.type "object")=some true
theorem K7{h:Heap}{x C t:Addr}{tb c:Value}{k:Bool}(ob:h.get? x=some (xog C none t tb c k)):PySem.W.InstAt h x (xog C none t tb c k) C none:=⟨ob,rfl,rfl,trivial⟩
theorem za9{K:ot}{x C:Addr}{dx:Option Addr}(xi:XI K C):PySem.W.KitX K (.ref x) (.ref C) (fun h=>(∃ t tb c k,h.get? x=some (xog C dx t tb c k))/\∀ d,dx=some d->∃ o,h.get? d=some o) where
 ty:=fun M h X ⟨⟨t,tb,c,k',ob⟩,_⟩=>(PySem.W.Looks.ld ob).andThen .now
 it:=fun M h X _=>by
  obtain⟨bm,N,nm,qn,bs,sn,sub,ab,col,dd,k0,k1,k2,k3,k5,lk,tl⟩:=vG xi.ok
  intro A' Q' E' s' k q
  unfold isType loadHead
  exact oh (wpAny_loadPart (k _ _ (X _ _ lk)) (oj q))
 ne:=fun h tp dd its n sl X htp=>by
  obtain⟨bm,N,nm,qn,bs,sn,sub,ab,col,dd,k0,k1,k2,k3,k5,lk,tl⟩:=vG xi.ok
  refine Bool.eq_false_iff.mpr fun q=>?_
  have e:C=tp:=Value.ref.inj (beq_iff_eq.mp q)
  subst e
  have z:=congrArg (fun o:Option Obj=>o.map fun o=>match o.data with | .cls _=>true | _=>false) ((X _ _ lk).symm.trans htp)
  exact absurd (show true=false from Option.some.inj z) (by decide)
 ca:=fun {prog w A E Q s} X ⟨⟨t,tb,c,k',ob⟩,hd⟩ k=>by
  cases dx with
  | none=>exact Qp X xi.toXC (K7 ob) xi.ca xi.cg xi.ct xi.mo k
  | some d =>
   obtain⟨o,e⟩:=hd d rfl
   exact Qp (od:=some o) X xi.toXC ⟨ob,rfl,rfl,e⟩ xi.ca xi.cg xi.ct xi.mo k
section
variable{X:Cx}
noncomputable def XAt(H:Hp)(x C:Addr)(dx:Option Addr)(fs:List (Str × V)):Prop:=H x=some (XT x C dx)/\((dx=none/\fs=[])\/∃ d,dx=some d/\H d=some (.xd fs))
theorem Vz:vf X (.builtin "isinstance") (fun xs H Q=>∃ x C dx fs c u b,xs=[.ref x,c]/\cV c=some u/\XAt H x C dx fs/\XI X.K C/\aP X.K (.ref C) u=some b/\Q (.bl b) H):=by
 intro pins s σ H xs us Q I r h
 obtain⟨x,C,dx,fs,c,u,b,rfl,hc,⟨hx,hd⟩,xi,e,q⟩:=h
 obtain⟨v,w',rfl,rx,rc⟩:=Wv r
 cases rx
 have:w'=u:=by
  cases c with
  | ty n=>cases hc;exact rc
  | ref a=>cases hc;exact rc
  | _=>cases hc
 subst this
 refine ba (za9 (dx:=dx) xi) I.kIn ⟨za6 (I.hok _ _ hx),fun d z=>?_⟩ e (fun z=>nomatch z) fun tk=>⟨.bl b,H,I.tok tk,rfl,q⟩
 rcases hd with ⟨z',_⟩ | ⟨d',z',hd'⟩
 ·rw[z'] at z;cases z
 ·rw[z'] at z;cases z
  obtain⟨mA,⟨o,es,ep,ho,_⟩,_⟩:=I.hok _ _ hd'
  exact⟨o,ho⟩
noncomputable def zbK(K:ot)(ta:TE)(f:Str):TE:=fun σ H Q=>ta σ H fun y H1=>∃ x C dx fs v,y=.ref x/\XAt H1 x C dx fs/\XC K C/\bH K C=true/\NoAttr K C f/\fs.lookup f=some v/\Q v H1
end
end L3
namespace L3
structure Df(P:Program)(w:World)(K:ot)(mg:Str->Option Value)(base:Heap)(CX:CXT)(k:Nat)(nm:Str)(ps:List Str)(ds:List Value)(sp:Sp):Prop where
 ex:∃ f fd,ye P w K mg base CX k f fd ps sp/\mg nm=some (.ref f)/\ah K (.ref f)=true/\Binds K fd ps ds
structure Bt(mg:Str->Option Value):Prop where
 len:mg "len" = none
 range:mg "range" = none
 isi:mg "isinstance" = none
 str:mg "str" = none
 int:mg "int" = none
 tuple:mg "tuple" = none
 list:mg "list" = none
 bool:mg "bool" = none
 enum:mg "enumerate" = none
 all:mg "all" = none
 verr:mg "ValueError" = none
 max:mg "max" = none
 rev:mg "reversed" = none
 zip:mg "zip" = none
 sum:mg "sum" = none
 sorted:mg "sorted" = none
section
variable{X:Cx}{CX:CXT}{k:Nat}{ps:List Str}{sp:Sp}{ds:List Value}{dvs:List V}{E:XK}{x:Str}{p pos:Pos}{e:Expr}{es:List Expr}{t:TA}
theorem cl0{j:Nat}(D:Df X.prog X.w X.K X.mg X.base CX0 k x ps ds sp)(hr:Room j X.A)(hd:Vals dvs ds)(hg:Gl X x)(ha:PA X (e::es) t)(hdb:(x == ("__debug__" : Str))=false:=by decide)(he:oo (e::es) X.env=(false,eval e X.env)::oo es X.env:=by rfl)
  (hpl:(backTo pos (oo es X.env)).any (·.1)=false:=by rfl) (hj:k<=j:=by decide):PE X (.Call (.Name x p) (e::es) [] pos) (qv sp dvs E0 t):=by
 obtain⟨f,fd,F,hm,hk,hb⟩:=D.ex
 exact WC F (hr.mono hj) hg hm hk hb hd Z1 ha hdb he hpl
theorem clX{j:Nat}(D:Df X.prog X.w X.K X.mg X.base (CXx X.prog X.w) k x ps ds sp)(hr:Room j X.A)(hd:Vals dvs ds)(hg:Gl X x)(ha:PA X.nox (e::es) t)(hdb:(x == ("__debug__" : Str))=false:=by decide)(he:oo (e::es) X.env=(false,eval e X.env)::oo es X.env:=by rfl)
  (hpl:(backTo pos (oo es X.env)).any (·.1)=false:=by rfl) (hj:k<=j:=by decide):PEX X (.Call (.Name x p) (e::es) [] pos) (fun σ H Q E=>t σ H fun vs H1=>sp (vs ++ dvs) H1 Q E):=by
 obtain⟨f,fd,F,hm,hk,hb⟩:=D.ex
 exact Ua F (hr.mono hj) hg hm hk hb hd ha hdb he hpl
theorem clP{j:Nat}(hx:XE X E)(D:Df X.prog X.w X.K X.mg X.base (CXx X.prog X.w) k x ps ds sp)(hr:Room j X.A)(hd:Vals dvs ds)(hg:Gl X x)(ha:PA X (e::es) t)(hdb:(x == ("__debug__" : Str))=false:=by decide)(he:oo (e::es) X.env=(false,eval e X.env)::oo es X.env:=by rfl)
  (hpl:(backTo pos (oo es X.env)).any (·.1)=false:=by rfl) (hj:k<=j:=by decide):PE X (.Call (.Name x p) (e::es) [] pos) (qv sp dvs E t):=by
 obtain⟨f,fd,F,hm,hk,hb⟩:=D.ex
 exact WC F (hr.mono hj) hg hm hk hb hd (YJ hx) ha hdb he hpl
end
noncomputable def TyX(K:ot)(H:Hp)(x:V)(t:Value):Prop:=Yr K H x t\/(∃ a C dx fs,x=.ref a/\t=.ref C/\XAt H a C dx fs/\XI K C)\/(∃ a xs,x=.ref a/\t=.type "list"/\SqL K H a xs)\/∃ a xs,x=.ref a/\t=.type "tuple"/\SqT K H a xs
noncomputable def zbs(K:ot):List V->Hp->VK->Prop:=fun xs H Q=>∃ x c u t b,xs=[x,c]/\cV c=some u/\TyX K H x t/\aP K t u=some b/\Q (.bl b) H
theorem zbc{X:Cx}:vf X (.builtin "isinstance") (zbs X.K):=by
 intro pins s σ H xs us Q I r h
 obtain⟨x,c,u,t,b,rfl,hc,ty,e,q⟩:=h
 rcases ty with ty | ⟨a,C,dx,fs,rfl,rfl,ha,xi⟩ | ⟨a,ys,rfl,rfl,hq⟩ | ⟨a,ys,rfl,rfl,hq⟩
 ·exact U6 pins s σ H _ us Q I r ⟨x,c,u,t,b,rfl,hc,ty,e,q⟩
 ·exact Vz pins s σ H _ us Q I r ⟨a,C,dx,fs,c,u,b,rfl,hc,ha,xi,e,q⟩
 all_goals
  obtain⟨v,w',rfl,rx,rc⟩:=Wv r
  have:w'=u:=by
   cases c with
   | ty n=>cases hc;exact rc
   | ref a=>cases hc;exact rc
   | _=>cases hc
  subst this
  cases rx
 ·obtain⟨its,_,p,_⟩:=I.list hq
  obtain⟨o,h1,h2,_⟩:=p.isList
  exact ba dN I.kIn ⟨o,h1,h2⟩ e (fun z=>nomatch z) fun tk=>⟨.bl b,H,I.tok tk,rfl,q⟩
 ·obtain⟨its,_,p,_⟩:=I.tuple hq
  obtain⟨o,h1,h2,_⟩:=p
  exact ba eR I.kIn ⟨o,h1,h2⟩ e (fun z=>nomatch z) fun tk=>⟨.bl b,H,I.tok tk,rfl,q⟩
theorem xz{X:Cx}{e:Expr}{te:TE}{c:Str}{n:String}{p q pos:Pos}(h1:Gl X "isinstance")(h2:X.mg "isinstance" = none)(he:PE X e te)(hg:Gl X c)(hm:X.mg c=none)(hv:bootBuiltins c=some (.type n))(hn:c≠"__name__":=by decide)(hd:(c == ("__debug__" : Str))=false:=by decide)
  (hs1:oo [e,.Name c q] X.env=(false,eval e X.env)::oo [.Name c q] X.env:=by rfl) (hs3:oo [.Name c q] X.env=(false,eval (.Name c q) X.env)::oo [] X.env:=by rfl) (hs2:(backTo pos (oo [.Name c q] X.env)).any (·.1)=false:=by rfl):PE X (.Call (.Name "isinstance" p) [e,.Name c q] [] pos) (tCB (zbs X.K) (zN te (zN (tC (.ty n)) wq))) :=
 zm zbc h1 h2 boot_isinstance (za he (za (JC hg hm hv rfl hn hd) zc hs3) hs1) (he:=hs1) (hpl:=hs2)
theorem Ko{a:Addr}:cV (.ref a)=some (.ref a):=rfl
theorem zaP{n:String}:cV (.ty n)=some (.type n):=rfl
theorem zcB{P w K mg base N q sc f cd A o s H}:(cxH P w K mg base N q sc f cd A o s H).K=K:=rfl
noncomputable def Vg:V->List V->Hp->VK->Prop:=fun x xs H Q=>∃ z y,x=.str z/\xs=[.str y]/\Q (.int (Txt.count z y)) H
theorem WQ{X:Cx}:MtR X "str.count" Vg:=Ub
noncomputable def UT:V->List V->Hp->VK->Prop:=fun x xs H Q=>∃ z y,x=.str z/\xs=[.str y]/\Q (.int (Txt.find z y)) H
theorem U9{X:Cx}:MtR X "str.find" UT:=QP
theorem VD(l:List Nat)(c:Nat):Txt.count (tx l) (tx [c])=(l.count c:Int):=by
 have h:∀ l:List Nat,cnt c l=(l.count c:Int):=fun l=>by
  induction l with
  | nil=>rfl
  | cons n r ih =>
   rw[cnt_cons,ih,List.count_cons]
   by_cases e:n=c
   ·subst e;simp;lia
   ·have:(n == c)=false:=by simpa using e
    simp [e,this]
 exact (PyProof.Rows.count_is (tx l) c).trans (h l)
theorem lt1{a b:Nat}:([a]:List Nat) < [b] ↔ a<b:=by rw[List.cons_lt_cons_iff];exact⟨fun h=>h.elim id fun⟨_,q⟩=>absurd q (List.not_lt_nil _),.inl⟩
theorem Wh{l:List Nat}{k v:Nat}(h:l[k]? = some v):(v::(l.take k ++ l.drop (k+1))).Perm l:=by
 obtain⟨hk,e⟩:=List.getElem?_eq_some_iff.mp h
 have e2:l.take k ++ (v::l.drop (k+1))=l:=by
  rw[<- e,<- aR hk,bZ]
 exact (List.perm_middle.symm.trans (by rw[e2]))
noncomputable def Uw(K:ot):List V->Hp->VK->Prop:=fun xs H Q=>∃ x n,xs=[x]/\zbj K x H n/\Q (.int n) H
theorem yb{X:Cx}:vf X (.builtin "len") (Uw X.K):=Um
noncomputable def ForR(lo:Int)(n:Nat)(g:TG)(tb:TS)(D:vh)(σ:St)(H:Hp):Prop:=∃ W:Nat->Nat->St->Hp->Prop,(∃ m,W 0 m σ H)/\∀ i m σ H,W i m σ H ->
 ((Itr lo n).stop i H/\D.nx σ H)\/((Itr lo n).go i H/\∃ N:St->Hp->Prop,(∀ σ' H',N σ' H'->∃ m',m'<m/\W (i+1) m' σ' H')/\∀ x H',(Itr lo n).yld i H x H'->g x σ H' fun σ2 H2=>tb { D with nx:=N,ct:=N,bk:=D.nx } σ2 H2)
theorem zaS{ta:TA}{g:TG}{tb:TS}{D:vh}{σ:St}{H:Hp}:VT (JT ta) g tb D σ H=ta σ H fun vs H1=>∃ j:Int,vs=[.int j]/\-(2 ^ 62)<=j/\j<2 ^ 62/\ForR 0 j.toNat g tb D σ H1:=rfl
theorem za8{ta:TA}{g:TG}{tb:TS}{D:vh}{σ:St}{H:Hp}:VT (zah ta) g tb D σ H=ta σ H fun vs H1=>∃ i j:Int,vs=[.int i,.int j]/\(-(2 ^ 62)<=i/\i<2 ^ 62/\-(2 ^ 62)<=j/\j<2 ^ 62)/\ForR i (j - i).toNat g tb D σ H1:=rfl
theorem ForR.by{lo:Int}{n:Nat}{g:TG}{tb:TS}{D:vh}{σ:St}{H:Hp}(Pv:Nat->St->Hp->Prop)(h0:Pv 0 σ H)
  (hs:∀ i σ H,i<n->Pv i σ H->g (.int (lo+i)) σ H fun σ2 H2=>tb { D with nx:=Pv (i+1),ct:=Pv (i+1),bk:=D.nx } σ2 H2) (hd:∀ σ H,Pv n σ H->D.nx σ H):ForR lo n g tb D σ H:=WG Pv h0 hs hd
noncomputable def ForL(K:ot)(a:Addr)(g:TG)(tb:TS)(D:vh)(σ:St)(H:Hp):Prop:=∃ W:Nat->Nat->St->Hp->Prop,(∃ m,W 0 m σ H)/\∀ i m σ H,W i m σ H ->
 ((Itl K a).stop i H/\D.nx σ H)\/((Itl K a).go i H/\∃ N:St->Hp->Prop,(∀ σ' H',N σ' H'->∃ m',m'<m/\W (i+1) m' σ' H')/\∀ x H',(Itl K a).yld i H x H'->g x σ H' fun σ2 H2=>tb { D with nx:=N,ct:=N,bk:=D.nx } σ2 H2)
theorem zcA{K:ot}{tl:TE}{g:TG}{tb:TS}{D:vh}{σ:St}{H:Hp}:VT (Q9 K tl) g tb D σ H=tl σ H fun x H1=>∃ a,x=.ref a/\(∃ xs,SqL K H1 a xs)/\ForL K a g tb D σ H1:=rfl
noncomputable def ForS(x:Str)(g:TG)(tb:TS)(D:vh)(σ:St)(H:Hp):Prop:=∃ W:Nat->Nat->St->Hp->Prop,(∃ m,W 0 m σ H)/\∀ i m σ H,W i m σ H ->
 ((Its x).stop i H/\D.nx σ H)\/((Its x).go i H/\∃ N:St->Hp->Prop,(∀ σ' H',N σ' H'->∃ m',m'<m/\W (i+1) m' σ' H')/\∀ v H',(Its x).yld i H v H'->g v σ H' fun σ2 H2=>tb { D with nx:=N,ct:=N,bk:=D.nx } σ2 H2)
theorem zcx{tl:TE}{g:TG}{tb:TS}{D:vh}{σ:St}{H:Hp}:VT (zbb tl) g tb D σ H=tl σ H fun v H1=>∃ x,v=.str x/\ForS x g tb D σ H1:=rfl
theorem ForS.by{l:List Nat}{g:TG}{tb:TS}{D:vh}{σ:St}{H:Hp}(Pv:Nat->St->Hp->Prop)(h0:Pv 0 σ H)
  (hs:∀ i c σ H,l[i]? = some c->Pv i σ H->g (.str (tx [c])) σ H fun σ2 H2=>tb { D with nx:=Pv (i+1),ct:=Pv (i+1),bk:=D.nx } σ2 H2) (hd:∀ σ H,Pv l.length σ H->D.nx σ H):ForS (tx l) g tb D σ H:=QL Pv h0 hs hd
noncomputable def zcz(x:Str)(g:TG)(tb:TS)(D:vh)(σ:St)(H:Hp):Prop:=∃ W:Nat->Nat->St->Hp->Prop,(∃ m,W 0 m σ H)/\∀ i m σ H,W i m σ H ->
 ((Ite x).stop i H/\D.nx σ H)\/((Ite x).go i H/\∃ N:St->Hp->Prop,(∀ σ' H',N σ' H'->∃ m',m'<m/\W (i+1) m' σ' H')/\∀ v H',(Ite x).yld i H v H'->g v σ H' fun σ2 H2=>tb { D with nx:=N,ct:=N,bk:=D.nx } σ2 H2)
theorem zcr{ta:TA}{g:TG}{tb:TS}{D:vh}{σ:St}{H:Hp}:VT (zaW ta) g tb D σ H=ta σ H fun vs H1=>∃ x,vs=[.str x]/\zcz x g tb D σ H1:=rfl
theorem kJ{α:Type}(l:List α){k:Int}(h:0<=k):cut l none (some k)=l.take k.toNat:=by
 obtain⟨n,rfl⟩:=bq h
 unfold cut
 rw[HT.sIx_none,HT.sIx_nat,dH,Nat.sub_zero]
 by_cases q:n<=l.length
 ·rw[cN q];rfl
 ·rw[dh (by lia),aM,bh (by simp;lia)]
theorem uK{α:Type}(l:List α){k:Int}(h:0<=k):cut l (some k) none=l.drop k.toNat:=by
 obtain⟨n,rfl⟩:=bq h
 unfold cut
 rw[HT.sIx_none,HT.sIx_nat]
 by_cases q:n<=l.length
 ·rw[cN q]
  rw[bh (by rw[be] <;> lia)]
  rfl
 ·rw[dh (by lia),dX,aX (by simp;lia)]
  simp
theorem jp{α:Type}{xs:List α}{i:Int}(h0:0<=i)(h1:i<xs.length):∃ v,atI xs i=some v/\xs[i.toNat]? = some v:=by
 obtain⟨n,rfl⟩:=bq h0
 have hn:n<xs.length:=by lia
 exact⟨xs[n],jZ (ak hn),ak hn⟩
noncomputable def alpha:List Nat:=[97,98,99,100,101,102,103,104,105,106,107,108,109,110,111,112,113,114,115,116,117,118,119,120,121,122]
theorem WD:(("abcdefghijklmnopqrstuvwxyz" : Str))=tx alpha:=by decide +kernel
theorem yf:(oq:Nat)=16777216:=sizeLine_eq
theorem cxK{CX P w K mg base N q sc f cd A o s H E}:(uA CX P w K mg base N q sc f cd A o s H E).K=K:=rfl
theorem cxP{CX P w K mg base N q sc f cd A o s H E}:(uA CX P w K mg base N q sc f cd A o s H E).prog=P:=rfl
theorem cxW{CX P w K mg base N q sc f cd A o s H E}:(uA CX P w K mg base N q sc f cd A o s H E).w=w:=rfl
theorem zbi{a b:Int}:J7 (.int a) (.int b)=true:=rfl
theorem zaT{a b:Str}:J7 (.str a) (.str b)=true:=rfl
theorem zbH{a b:Bool}:J7 (.bl a) (.bl b)=true:=rfl
theorem zbA{b:Str}:J7 .non (.str b)=true:=rfl
theorem zbt{b:Str}:J7 (.str b) .non=true:=rfl
theorem zf{H:Hp}{p:Addr}{o:HO}(h:H p=none):Same H (upd H p o):=fun b u e=>by
 rw[zq (zF e h)]
 exact e
theorem zV{α:Type}{l:List α}{i:Nat}{c:α}(h:l[i]? = some c):l.take (i+1)=l.take i ++ [c]:=by
 rw[List.take_add_one,h];rfl
end L3
namespace L3
structure FunD(K:ot)(x qual:Str)(st:Stmt)(dV:Value)(f:Addr)(fd:FuncData):Prop where
 ex:∃(oc:Value) (od:Option Addr) (kV doc pm:Value) (an:Option Addr) (cdv ct:Value) (osl:Array (Option Value)),
  fd=ar x qual (zo st) (zl st) (zb st) dV kV doc pm an cdv ct/\K.lookup f=some ⟨oc,od,.func fd,osl⟩/\ao K cdv qual=true
theorem FunD.okX{P:Program}{w:World}{K:ot}{mg:Str->Option Value}{base:Heap}{x qual:Str}{st:Stmt}{dV:Value}{f:Addr}{fd:FuncData}{N ps:List Str}{k:Nat}{sp:Sp}(F:FunD K x qual st dV f fd)(S:zr N ps (zb st))(len:∀ vs H Q E,sp vs H Q E->vs.length=ps.length)
  (hbody:∀(cdv:Value) (A:Around) (outer:List Env) (s:Shared) (H:Hp) (vs:List V) (Q:VK) (E:XK),Room k (A.deeper (envOfC qual (zb st) s.heap.objs.size f cdv))->XE (uA (CXx P w) P w K mg base N qual (zb st) f cdv A outer s H E) E->sp vs H Q E ->
   ∃ t,PSs (uA (CXx P w) P w K mg base N qual (zb st) f cdv A outer s H E) (zl st) t/\t { nx:=fun _ H'=>Q .non H',rt:=Q } (start N vs) H):ye P w K mg base (CXx P w) (k+1) f fd ps sp:=by
 obtain⟨oc,od,kV,doc,pm,an,cdv,ct,osl,rfl,lk,hcd⟩:=F.ex
 exact U5 lk hcd S len fun A outer s H vs Q E hr hsp=>hbody cdv A outer s H vs Q E hr zav hsp
noncomputable def vk(C:Addr)(f:Str):Sp:=fun vs H Q _=>∃ x v,vs=[.ref x,v]/\H x=some (XN x C none)/\∀ dx,H dx=none->Q .non (upd (upd H dx (.xd [(f,v)])) x (XN x C (some dx)))
noncomputable def zbB(H:Hp)(d:Addr)(f:Str)(v:V)(H':Hp):Prop:=H d=none/\Same H H'/\H' d=some (.xd [(f,v)])
theorem VL{E:XK}{C:Addr}{f:Str}{v:V}{H:Hp}(h:∀ d H',zbB H d f v H'->E (.ref C) (some d) H'):∀ x,H x=none->vk C f [.ref x,v] (upd H x (XN x C none)) (fun u H2=>u=.non/\∃ dx,H2 x=some (XN x C dx)/\E (.ref C) dx (del H2 x)) E0:=by
 intro x hx
 refine⟨x,v,rfl,ze,fun dx hd=>⟨rfl,some dx,ze,h dx _ ⟨?_,?_,?_⟩⟩⟩
 ·by_cases e:dx=x
  ·rw[e];exact hx
  ·rw[zq e] at hd;exact hd
 ·have hne:dx≠x:=fun e=>by rw[e,ze] at hd;cases hd
  rw[zq hne] at hd
  intro b o q
  have b1:b≠x:=zF q hx
  have b2:b≠dx:=zF q hd
  rw[Vd b1,zq b1,zq b2,zq b1]
  exact q
 ·have hne:dx≠x:=fun e=>by rw[e,ze] at hd;cases hd
  rw[Vd hne,zq hne,ze]
section
variable{X:Cx}
noncomputable def zaU:R2:=fun x y H Q=>∃ c l,x=.str (tx [c])/\y=.str (tx l)/\Q (.bl (!decide (c ∈ l))) H
theorem zaq:OpR X (compareOp .NotIn) zaU:=by
 intro pins s σ H x y v u Q I rx ry h
 obtain⟨c,l,rfl,rfl,q⟩:=h
 refine kY pins s σ H _ _ v u Q I rx ry ⟨_,_,rfl,rfl,?_⟩
 rw[Ku]
 exact q
noncomputable def zco:R2:=fun x y H Q=>∃ c l,x=.str (tx [c])/\y=.str (tx l)/\Q (.bl (decide (c ∈ l))) H
noncomputable def zb8:R2:=fun x y H Q=>y=.non/\Q (.bl (decide (x=.non))) H
theorem op_isN':OpR X (compareOp .Is) zb8:=zao
noncomputable def Kx:R2:=fun x y H Q=>y=.non/\Q (.bl (!decide (x=.non))) H
theorem op_notN':OpR X (compareOp .IsNot) Kx:=Jq
noncomputable def Jg:List V->Hp->VK->Prop:=fun xs H Q=>∃ i j,xs=[.int i,.int j]/\Q (.int (if j > i then j else i)) H
theorem WW(hc:X.calm=true):vf X (.builtin "max") Jg:=WX hc
noncomputable def rGe:R2:=fun x y H Q=>∃ i j,x=.int i/\y=.int j/\Q (.bl (decide (j<=i))) H
theorem op_ge':OpR X (compareOp .GtE) rGe:=zbf
noncomputable def zcC(K:ot)(ta:TE):TT:=fun σ H Q=>ta σ H fun x H'=>∃ k,Kb K x H' k/\Q k H'
end
theorem uQ:bootBuiltins "max" = some (.builtin "max"):=by decide +kernel
noncomputable def JU(ls l:List Nat)(m:Int)(k:Nat):Prop:=∃ c,l[k]? = some c/\(m<=k\/c ∉ ls)
noncomputable def FB(ls l:List Nat)(m:Int)(k:Nat):Prop:=JU ls l m k/\∀ j<k,¬ JU ls l m j
noncomputable def NB(ls l:List Nat)(m:Int):Prop:=∀ j,¬ JU ls l m j
theorem FB.nb{ls l:List Nat}{m:Int}{k:Nat}(h:FB ls l m k)(n:NB ls l m):False:=n k h.1
end L3
namespace L3
inductive D where
 | non | bl (b:Bool) | int (i:Int) | str (x:Str) | lst (l:List D) | tup (l:List D)
mutual
noncomputable def Is(K:ot)(H:Hp):D->V->Prop
 | .non,v=>v=.non
 | .bl b,v=>v=.bl b
 | .int i,v=>v=.int i
 | .str x,v=>v=.str x
 | .lst l,v=>∃ a xs,v=.ref a/\SqL K H a xs/\Iss K H l xs
 | .tup l,v=>∃ a xs,v=.ref a/\SqT K H a xs/\Iss K H l xs
noncomputable def Iss(K:ot)(H:Hp):List D->List V->Prop
 | [],vs=>vs=[]
 | d::l,vs=>∃ v r,vs=v::r/\Is K H d v/\Iss K H l r
end
mutual
noncomputable def eqD:D->D->Bool
 | .non,.non=>true
 | .bl a,.bl b=>a == b
 | .bl a,.int b=>(if a then 1 else 0) == b
 | .int a,.bl b=>a == (if b then 1 else 0)
 | .int a,.int b=>a == b
 | .str a,.str b=>a == b
 | .lst l,.lst m=>uU l m
 | .tup l,.tup m=>uU l m
 | _,_=>false
noncomputable def uU:List D->List D->Bool
 | [],[]=>true
 | d::l,e::m=>eqD d e && uU l m
 | _,_=>false
end
mutual
noncomputable def dpD:D->Nat
 | .lst l=>v0 l+1
 | .tup l=>v0 l+1
 | _=>0
noncomputable def v0:List D->Nat
 | []=>0
 | d::l=>max (dpD d) (v0 l)
end
theorem JE:∀{l:List D} {j:Nat} {d:D},l[j]? = some d->dpD d<=v0 l
 | d::l,0,_,h=>by
  cases h
  simp only[v0]
  lia
 | d::l,j+1,e,h=>by
  have:=JE (l:=l) (j:=j) (d:=e) h
  simp only[v0]
  lia
mutual
theorem j1:∀ d:D,eqD d d=true
 | .non=>rfl
 | .bl b=>by simp [eqD]
 | .int i=>by simp [eqD]
 | .str x=>by simp [eqD]
 | .lst l=>by simp only[eqD];exact vx l
 | .tup l=>by simp only[eqD];exact vx l
theorem vx:∀ l:List D,uU l l=true
 | []=>rfl
 | d::l=>by simp only[uU,j1 d,vx l,Bool.and_self]
end
theorem Iss.len{K:ot}{H:Hp}:∀{l:List D} {vs:List V},Iss K H l vs->vs.length=l.length
 | [],vs,h=>by simp only[Iss] at h;rw[h];rfl
 | d::l,vs,h=>by
  simp only[Iss] at h
  obtain⟨v,r,rfl,_,h2⟩:=h
  simp only[aL,Iss.len h2]
theorem Iss.at{K:ot}{H:Hp}:∀{l:List D} {vs:List V} {j:Nat} {d:D},Iss K H l vs->l[j]? = some d->∃ v,vs[j]? = some v/\Is K H d v
 | d::l,vs,0,_,h,q=>by
  cases q
  simp only[Iss] at h
  obtain⟨v,r,rfl,h1,_⟩:=h
  exact⟨v,rfl,h1⟩
 | d::l,vs,j+1,e,h,q=>by
  simp only[Iss] at h
  obtain⟨v,r,rfl,_,h2⟩:=h
  exact Iss.at (j:=j) h2 q
theorem Iss.append{K:ot}{H:Hp}:∀{l m:List D} {vs us:List V},Iss K H l vs->Iss K H m us->Iss K H (l ++ m) (vs ++ us)
 | [],m,vs,us,h,g=>by simp only[Iss] at h;rw[h];exact g
 | d::l,m,vs,us,h,g=>by
  simp only[Iss] at h
  obtain⟨v,r,rfl,h1,h2⟩:=h
  simp only[bt,Iss]
  exact⟨v,r ++ us,rfl,h1,Iss.append h2 g⟩
theorem Iss.ints{K:ot}{H:Hp}:∀(l:List Int),Iss K H (l.map D.int) (l.map V.int)
 | []=>by simp only[aN,Iss]
 | i::l=>by
  simp only[ax,Iss,Is]
  exact⟨_,_,rfl,rfl,Iss.ints l⟩
theorem zk{K:ot}{H H':Hp}{a:Addr}{xs:List V}(e:Same H H')(h:SqT K H a xs):SqT K H' a xs:=by
 rcases h with (h | ⟨o,h⟩) | h
 ·exact .inl (.inl (e _ _ h))
 ·exact .inl (.inr ⟨o,e _ _ h⟩)
 ·exact .inr h
mutual
theorem Is.same{K:ot}{H H':Hp}(e:Same H H'):∀(d:D) (v:V),Is K H d v->Is K H' d v
 | .non,v,h=>by simp only[Is] at h ⊢;exact h
 | .bl b,v,h=>by simp only[Is] at h ⊢;exact h
 | .int b,v,h=>by simp only[Is] at h ⊢;exact h
 | .str b,v,h=>by simp only[Is] at h ⊢;exact h
 | .lst l,v,h=>by
  simp only[Is] at h ⊢
  obtain⟨a,xs,e1,e2,e3⟩:=h
  exact⟨a,xs,e1,e.seq e2,Iss.same e l xs e3⟩
 | .tup l,v,h=>by
  simp only[Is] at h ⊢
  obtain⟨a,xs,e1,e2,e3⟩:=h
  exact⟨a,xs,e1,zk e e2,Iss.same e l xs e3⟩
theorem Iss.same{K:ot}{H H':Hp}(e:Same H H'):∀(l:List D) (vs:List V),Iss K H l vs->Iss K H' l vs
 | [],vs,h=>by simp only[Iss] at h ⊢;exact h
 | d::l,vs,h=>by
  simp only[Iss] at h ⊢
  obtain⟨v,r,e1,e2,e3⟩:=h
  exact⟨v,r,e1,Is.same e d v e2,Iss.same e l r e3⟩
end
theorem xM:∀(l m:List D),uU l m=((aS (min l.length m.length)).all (fun j=>eqD (l.getD j .non) (m.getD j .non)) && l.length == m.length)
 | [],[]=>rfl
 | [],e::m=>by simp [uU]
 | d::l,[]=>by simp [uU]
 | d::l,e::m=>by
  simp only[uU,xM l m,aL]
  have h1:min (l.length+1) (m.length+1)=min l.length m.length+1:=by lia
  rw[h1,dc,eN,List.all_map]
  have h2:(l.length+1 == m.length+1)=(l.length == m.length):=by
   rw[cI,beq_iff_eq,beq_iff_eq];lia
  rw[h2]
  simp only[List.getD_cons_zero,Bool.and_assoc]
  rfl
section
variable{X:Cx}{pins:List (Addr × Obj)}{σ:St}{H:Hp}{s:Shared}
theorem Zz{a:Addr}{xs ys:List V}(I:Inv X pins σ H s)(h:SqL X.K H a xs)(g:SqT X.K H a ys):False:=by
 obtain⟨its,r,⟨o,n,e,c,_,d⟩,_⟩:=I.list h
 obtain⟨its',r',⟨o',e',c',n',d'⟩,_⟩:=I.tuple g
 rw[e] at e'
 cases e'
 rw[c] at c'
 exact absurd (Value.type.inj c') (by decide)
mutual
theorem VI(I:Inv X pins σ H s):∀(d e:D) (v:V),Is X.K H d v->Is X.K H e v->d=e
 | .lst l,.lst m,v,h,g=>by
  simp only[Is] at h g
  obtain⟨a,xs,rfl,h1,h2⟩:=h
  obtain⟨b,ys,e,g1,g2⟩:=g
  cases e
  have:=I.list_inj h1 g1
  subst this
  rw[Z8 I l m xs h2 g2]
 | .tup l,.tup m,v,h,g=>by
  simp only[Is] at h g
  obtain⟨a,xs,rfl,h1,h2⟩:=h
  obtain⟨b,ys,e,g1,g2⟩:=g
  cases e
  have:=I.tuple_inj h1 g1
  subst this
  rw[Z8 I l m xs h2 g2]
 | .lst l,.tup m,v,h,g=>by
  simp only[Is] at h g
  obtain⟨a,xs,rfl,h1,h2⟩:=h
  obtain⟨b,ys,e,g1,g2⟩:=g
  cases e
  exact (Zz I h1 g1).elim
 | .tup l,.lst m,v,h,g=>by
  simp only[Is] at h g
  obtain⟨a,xs,rfl,h1,h2⟩:=h
  obtain⟨b,ys,e,g1,g2⟩:=g
  cases e
  exact (Zz I g1 h1).elim
 | .lst l,.non,v,h,g=>by simp only[Is] at h g;obtain⟨a,xs,rfl,_⟩:=h;cases g
 | .lst l,.bl _,v,h,g=>by simp only[Is] at h g;obtain⟨a,xs,rfl,_⟩:=h;cases g
 | .lst l,.int _,v,h,g=>by simp only[Is] at h g;obtain⟨a,xs,rfl,_⟩:=h;cases g
 | .lst l,.str _,v,h,g=>by simp only[Is] at h g;obtain⟨a,xs,rfl,_⟩:=h;cases g
 | .tup l,.non,v,h,g=>by simp only[Is] at h g;obtain⟨a,xs,rfl,_⟩:=h;cases g
 | .tup l,.bl _,v,h,g=>by simp only[Is] at h g;obtain⟨a,xs,rfl,_⟩:=h;cases g
 | .tup l,.int _,v,h,g=>by simp only[Is] at h g;obtain⟨a,xs,rfl,_⟩:=h;cases g
 | .tup l,.str _,v,h,g=>by simp only[Is] at h g;obtain⟨a,xs,rfl,_⟩:=h;cases g
 | .non,e,v,h,g=>by
  simp only[Is] at h
  subst h
  cases e <;> simp only[Is] at g
  all_goals first | rfl | (obtain⟨a,xs,q,_⟩:=g;cases q) | cases g
 | .bl _,e,v,h,g=>by
  simp only[Is] at h
  subst h
  cases e <;> simp only[Is] at g
  all_goals first | (cases g;rfl) | (obtain⟨a,xs,q,_⟩:=g;cases q) | cases g
 | .int _,e,v,h,g=>by
  simp only[Is] at h
  subst h
  cases e <;> simp only[Is] at g
  all_goals first | (cases g;rfl) | (obtain⟨a,xs,q,_⟩:=g;cases q) | cases g
 | .str _,e,v,h,g=>by
  simp only[Is] at h
  subst h
  cases e <;> simp only[Is] at g
  all_goals first | (cases g;rfl) | (obtain⟨a,xs,q,_⟩:=g;cases q) | cases g
theorem Z8(I:Inv X pins σ H s):∀(l m:List D) (vs:List V),Iss X.K H l vs->Iss X.K H m vs->l=m
 | [],[],_,_,_=>rfl
 | [],e::m,vs,h,g=>by
  simp only[Iss] at h g
  subst h
  obtain⟨_,_,q,_⟩:=g
  cases q
 | d::l,[],vs,h,g=>by
  simp only[Iss] at h g
  subst g
  obtain⟨_,_,q,_⟩:=h
  cases q
 | d::l,e::m,vs,h,g=>by
  simp only[Iss] at h g
  obtain⟨v,r,rfl,h1,h2⟩:=h
  obtain⟨v',r',q,g1,g2⟩:=g
  cases q
  rw[VI I d e v h1 g1,Z8 I l m r h2 g2]
end
theorem xJ:∀{xs:List V} {us:List Value} {j:Nat} {x:V},Vals xs us->xs[j]? = some x->∃ u,us[j]? = some u/\RelV x u
 | _,_,0,_,.cons r t,h=>by cases h;exact⟨_,rfl,r⟩
 | _,_,j+1,_,.cons r t,h=>xJ (j:=j) t h
theorem xC{l m:List D}{xs ys:List V}{its its':List Value}{A:Around}{n:Nat}(hl:Iss X.K H l xs)(hm:Iss X.K H m ys)(r:Vals xs its)(r':Vals ys its')(hn:v0 l<n)
  (ih:∀(d e:D) (x y:V) (u v:Value),dpD d<n->Is X.K H d x->Is X.K H e y->RelV x u->RelV y v->SeqAt.EqAt A s u v (eqD d e)) :
  ∀ j (h1:j<its.toArray.size) (h2:j<its'.toArray.size),SeqAt.EqAt A s its.toArray[j] its'.toArray[j] (eqD (l.getD j .non) (m.getD j .non)):=by
 intro j h1 h2
 rw[al] at h1 h2
 have e1:=hl.len
 have e2:=hm.len
 have e3:=r.length
 have e4:=r'.length
 have g1:l[j]? = some l[j]:=ak (by lia)
 have g2:m[j]? = some m[j]:=ak (by lia)
 generalize l[j]=d at g1
 generalize m[j]=e at g2
 obtain⟨x,hx,ix⟩:=hl.at g1
 obtain⟨y,hy,iy⟩:=hm.at g2
 obtain⟨u,hu,ru⟩:=xJ r hx
 obtain⟨v,hv,rv⟩:=xJ r' hy
 have q1:its.toArray[j]=u:=by
  have:=(List.getElem?_eq_some_iff.mp hu).2
  simpa using this
 have q2:its'.toArray[j]=v:=by
  have:=(List.getElem?_eq_some_iff.mp hv).2
  simpa using this
 rw[q1,q2,ae,ae,g1,g2]
 exact ih d e x y u v (bY (JE g1) hn) ix iy ru rv
theorem qM(I:Inv X pins σ H s):∀(n:Nat) (A:Around) (d e:D) (x y:V) (u v:Value),A.units+n<cLine->dpD d<n->Is X.K H d x->Is X.K H e y->RelV x u->RelV y v->SeqAt.EqAt A s u v (eqD d e):=by
 intro n
 induction n with
 | zero=>intro A d e x y u v _ h;exact absurd h (cP _)
 | succ n ih =>
  intro A d e x y u v hu hd hx hy rx ry
  have hu1:A.units<cLine:=by lia
  have huA:A.in1.units+n<cLine:=by show A.units+1+n<cLine;lia
  cases d with
  | lst l =>
   simp only[Is] at hx
   obtain⟨a,xs,rfl,h1,h2⟩:=hx
   cases rx
   obtain⟨its,r,p,_⟩:=I.list h1
   cases e with
   | non=>simp only[Is] at hy;subst hy;cases ry;exact SeqAt.EqAt.list_none p.isList hu1
   | bl b=>simp only[Is] at hy;subst hy;cases ry;exact SeqAt.EqAt.list_bool b p.isList hu1
   | int b=>simp only[Is] at hy;subst hy;obtain⟨t,rfl⟩:=ry;exact SeqAt.EqAt.list_int b t p.isList hu1
   | str b=>simp only[Is] at hy;subst hy;obtain⟨t,rfl⟩:=ry;exact SeqAt.EqAt.list_str b t p.isList hu1
   | tup m =>
    simp only[Is] at hy
    obtain⟨b,ys,rfl,g1,g2⟩:=hy
    cases ry
    obtain⟨its',r',p',_⟩:=I.tuple g1
    exact SeqAt.EqAt.list_tuple p.isList p' hu1
   | lst m =>
    have hy':=hy
    simp only[Is] at hy
    obtain⟨b,ys,rfl,g1,g2⟩:=hy
    cases ry
    obtain⟨its',r',p',_⟩:=I.list g1
    simp only[dpD] at hd
    by_cases hab:a=b
    ·subst hab
     have:=VI I (.lst l) (.lst m) (.ref a) (by simp only[Is];exact⟨a,xs,rfl,h1,h2⟩) hy'
     rw[this,j1]
     exact SeqAt.EqAt.same _
    ·refine .of_refs hab ?_
     simp only[eqD]
     have L1:=h2.len
     have L2:=g2.len
     have L3:=r.length
     have L4:=r'.length
     by_cases hl:l.length=m.length
     ·have:=SeqAt.RcAt.lists (A:=A) p.isList p'.isList (by simp only[al];lia) hu1 (xC h2 g2 r r' (n:=n) (by lia) fun d e x y u v q1 q2 q3 q4 q5=>ih A.in1 d e x y u v huA q1 q2 q3 q4 q5)
      rw[xM,hl,dY,beq_self_eq_true,eO]
      have e1:its.toArray.size=m.length:=by simp only[al];lia
      rw[e1] at this
      exact this
     ·rw[xM,beq_eq_false_iff_ne.mpr hl,dF]
      exact SeqAt.RcAt.lists_lengths p.isList p'.isList (by rw[bne_iff_ne];simp only[al];lia) hu1
  | tup l =>
   simp only[Is] at hx
   obtain⟨a,xs,rfl,h1,h2⟩:=hx
   cases rx
   obtain⟨its,r,p,_⟩:=I.tuple h1
   cases e with
   | non=>simp only[Is] at hy;subst hy;cases ry;exact SeqAt.EqAt.tuple_none p hu1
   | bl b=>simp only[Is] at hy;subst hy;cases ry;exact SeqAt.EqAt.tuple_bool b p hu1
   | int b=>simp only[Is] at hy;subst hy;obtain⟨t,rfl⟩:=ry;exact SeqAt.EqAt.tuple_int b t p hu1
   | str b=>simp only[Is] at hy;subst hy;obtain⟨t,rfl⟩:=ry;exact SeqAt.EqAt.tuple_str b t p hu1
   | lst m =>
    simp only[Is] at hy
    obtain⟨b,ys,rfl,g1,g2⟩:=hy
    cases ry
    obtain⟨its',r',p',_⟩:=I.list g1
    exact SeqAt.EqAt.tuple_list p p'.isList hu1
   | tup m =>
    have hy':=hy
    simp only[Is] at hy
    obtain⟨b,ys,rfl,g1,g2⟩:=hy
    cases ry
    obtain⟨its',r',p',_⟩:=I.tuple g1
    simp only[dpD] at hd
    by_cases hab:a=b
    ·subst hab
     have:=VI I (.tup l) (.tup m) (.ref a) (by simp only[Is];exact⟨a,xs,rfl,h1,h2⟩) hy'
     rw[this,j1]
     exact SeqAt.EqAt.same _
    ·refine .of_refs hab ?_
     simp only[eqD]
     have L1:=h2.len
     have L2:=g2.len
     have L3:=r.length
     have L4:=r'.length
     have:=SeqAt.RcAt.tuples (A:=A) p p' hu1 (xC h2 g2 r r' (n:=n) (by lia) fun d e x y u v q1 q2 q3 q4 q5=>ih A.in1 d e x y u v huA q1 q2 q3 q4 q5)
     rw[xM]
     simp only[al] at this
     rw[<- L1,<- L2,L3,L4]
     exact this
  | non =>
   simp only[Is] at hx
   subst hx
   cases e with
   | lst m =>
    simp only[Is] at hy
    obtain⟨b,ys,rfl,g1,g2⟩:=hy
    cases rx;cases ry
    obtain⟨its',r',p',_⟩:=I.list g1
    exact SeqAt.EqAt.none_list p'.isList hu1
   | tup m =>
    simp only[Is] at hy
    obtain⟨b,ys,rfl,g1,g2⟩:=hy
    cases rx;cases ry
    obtain⟨its',r',p',_⟩:=I.tuple g1
    exact SeqAt.EqAt.none_tuple p' hu1
   | _=>simp only[Is] at hy;subst hy;exact Yv rx ry rfl rfl
  | bl c =>
   simp only[Is] at hx
   subst hx
   cases e with
   | lst m =>
    simp only[Is] at hy
    obtain⟨b,ys,rfl,g1,g2⟩:=hy
    cases rx;cases ry
    obtain⟨its',r',p',_⟩:=I.list g1
    exact SeqAt.EqAt.bool_list _ p'.isList hu1
   | tup m =>
    simp only[Is] at hy
    obtain⟨b,ys,rfl,g1,g2⟩:=hy
    cases rx;cases ry
    obtain⟨its',r',p',_⟩:=I.tuple g1
    exact SeqAt.EqAt.bool_tuple _ p' hu1
   | _=>simp only[Is] at hy;subst hy;exact Yv rx ry rfl rfl
  | int c =>
   simp only[Is] at hx
   subst hx
   cases e with
   | lst m =>
    simp only[Is] at hy
    obtain⟨b,ys,rfl,g1,g2⟩:=hy
    obtain⟨t,rfl⟩:=rx;cases ry
    obtain⟨its',r',p',_⟩:=I.list g1
    exact SeqAt.EqAt.int_list _ _ p'.isList hu1
   | tup m =>
    simp only[Is] at hy
    obtain⟨b,ys,rfl,g1,g2⟩:=hy
    obtain⟨t,rfl⟩:=rx;cases ry
    obtain⟨its',r',p',_⟩:=I.tuple g1
    exact SeqAt.EqAt.int_tuple _ _ p' hu1
   | _=>simp only[Is] at hy;subst hy;exact Yv rx ry rfl rfl
  | str c =>
   simp only[Is] at hx
   subst hx
   cases e with
   | lst m =>
    simp only[Is] at hy
    obtain⟨b,ys,rfl,g1,g2⟩:=hy
    obtain⟨t,rfl⟩:=rx;cases ry
    obtain⟨its',r',p',_⟩:=I.list g1
    exact SeqAt.EqAt.str_list _ _ p'.isList hu1
   | tup m =>
    simp only[Is] at hy
    obtain⟨b,ys,rfl,g1,g2⟩:=hy
    obtain⟨t,rfl⟩:=rx;cases ry
    obtain⟨its',r',p',_⟩:=I.tuple g1
    exact SeqAt.EqAt.str_tuple _ _ p' hu1
   | _=>simp only[Is] at hy;subst hy;exact Yv rx ry rfl rfl
noncomputable def zb7(K:ot):R2:=fun x y H Q=>∃ l m,((Is K H (.lst l) x/\Is K H (.lst m) y)\/(Is K H (.tup l) x/\Is K H (.tup m) y))/\v0 l<50/\Q (.bl (uU l m)) H
noncomputable def zbO(K:ot):R2:=fun x y H Q=>∃ l m,((Is K H (.lst l) x/\Is K H (.lst m) y)\/(Is K H (.tup l) x/\Is K H (.tup m) y))/\v0 l<50/\Q (.bl (!uU l m)) H
theorem Kr(hu:X.A.units+100<cLine):OpR X (compareOp .Eq) (zb7 X.K):=by
 intro pins s σ H x y v u Q I rx ry h
 obtain⟨l,m,hh,hd,q⟩:=h
 have hu1:X.A.units<cLine:=by lia
 have huA:X.A.in1.units+50<cLine:=by show X.A.units+1+50<cLine;lia
 rcases hh with ⟨hx,hy⟩ | ⟨hx,hy⟩
 ·simp only[Is] at hx hy
  obtain⟨a,xs,rfl,h1,h2⟩:=hx
  obtain⟨b,ys,rfl,g1,g2⟩:=hy
  cases rx;cases ry
  obtain⟨its,r,p,_⟩:=I.list h1
  obtain⟨its',r',p',_⟩:=I.list g1
  have L1:=h2.len
  have L2:=g2.len
  have L3:=r.length
  have L4:=r'.length
  by_cases hl:l.length=m.length
  ·have:=SeqAt.RcAt.lists (A:=X.A) p.isList p'.isList (by simp only[al];lia) hu1 (xC h2 g2 r r' (n:=50) hd fun d e x y u v q1 q2 q3 q4 q5=>qM I 50 X.A.in1 d e x y u v huA q1 q2 q3 q4 q5)
   have e1:its.toArray.size=m.length:=by simp only[al];lia
   rw[e1] at this
   rw[xM,hl,dY,beq_self_eq_true,eO] at q
   exact this X.prog X.w X.xe _ ⟨.bl _,H,I,rfl,q⟩
  ·rw[xM,beq_eq_false_iff_ne.mpr hl,dF] at q
   exact SeqAt.RcAt.lists_lengths p.isList p'.isList (by rw[bne_iff_ne];simp only[al];lia) hu1 X.prog X.w X.xe _ ⟨.bl _,H,I,rfl,q⟩
 ·simp only[Is] at hx hy
  obtain⟨a,xs,rfl,h1,h2⟩:=hx
  obtain⟨b,ys,rfl,g1,g2⟩:=hy
  cases rx;cases ry
  obtain⟨its,r,p,_⟩:=I.tuple h1
  obtain⟨its',r',p',_⟩:=I.tuple g1
  have L1:=h2.len
  have L2:=g2.len
  have L3:=r.length
  have L4:=r'.length
  have:=SeqAt.RcAt.tuples (A:=X.A) p p' hu1 (xC h2 g2 r r' (n:=50) hd fun d e x y u v q1 q2 q3 q4 q5=>qM I 50 X.A.in1 d e x y u v huA q1 q2 q3 q4 q5)
  simp only[al] at this
  rw[xM,<- L1,<- L2,L3,L4] at q
  exact this X.prog X.w X.xe _ ⟨.bl _,H,I,rfl,q⟩
theorem zai(hu:X.A.units+100<cLine):OpR X (compareOp .NotEq) (zbO X.K):=by
 intro pins s σ H x y v u Q I rx ry h
 obtain⟨l,m,hh,hd,q⟩:=h
 have hu1:X.A.units<cLine:=by lia
 have huA:X.A.in1.units+50<cLine:=by show X.A.units+1+50<cLine;lia
 rcases hh with ⟨hx,hy⟩ | ⟨hx,hy⟩
 ·simp only[Is] at hx hy
  obtain⟨a,xs,rfl,h1,h2⟩:=hx
  obtain⟨b,ys,rfl,g1,g2⟩:=hy
  cases rx;cases ry
  obtain⟨its,r,p,_⟩:=I.list h1
  obtain⟨its',r',p',_⟩:=I.list g1
  have L1:=h2.len
  have L2:=g2.len
  have L3:=r.length
  have L4:=r'.length
  by_cases hl:l.length=m.length
  ·have:=SeqAt.RcNeAt.lists (A:=X.A) p.isList p'.isList (by simp only[al];lia) hu1 (xC h2 g2 r r' (n:=50) hd fun d e x y u v q1 q2 q3 q4 q5=>qM I 50 X.A.in1 d e x y u v huA q1 q2 q3 q4 q5)
   have e1:its.toArray.size=m.length:=by simp only[al];lia
   rw[e1] at this
   rw[xM,hl,dY,beq_self_eq_true,eO] at q
   exact this X.prog X.w X.xe _ ⟨.bl _,H,I,rfl,q⟩
  ·rw[xM,beq_eq_false_iff_ne.mpr hl,dF] at q
   exact SeqAt.RcNeAt.lists_lengths p.isList p'.isList (by rw[bne_iff_ne];simp only[al];lia) hu1 X.prog X.w X.xe _ ⟨.bl _,H,I,rfl,q⟩
 ·simp only[Is] at hx hy
  obtain⟨a,xs,rfl,h1,h2⟩:=hx
  obtain⟨b,ys,rfl,g1,g2⟩:=hy
  cases rx;cases ry
  obtain⟨its,r,p,_⟩:=I.tuple h1
  obtain⟨its',r',p',_⟩:=I.tuple g1
  have L1:=h2.len
  have L2:=g2.len
  have L3:=r.length
  have L4:=r'.length
  have:=SeqAt.RcNeAt.tuples (A:=X.A) p p' hu1 (xC h2 g2 r r' (n:=50) hd fun d e x y u v q1 q2 q3 q4 q5=>qM I 50 X.A.in1 d e x y u v huA q1 q2 q3 q4 q5)
  simp only[al] at this
  rw[xM,<- L1,<- L2,L3,L4] at q
  exact this X.prog X.w X.xe _ ⟨.bl _,H,I,rfl,q⟩
end
theorem ZD(l m:List Int):uU (l.map D.int) (m.map D.int)=decide (l=m):=by
 induction l generalizing m with
 | nil=>cases m <;> simp [uU]
 | cons a l ih =>
  cases m with
  | nil=>simp [uU]
  | cons b m =>
   simp only[ax,uU,eqD,ih m]
   by_cases h1:a=b
   ·subst h1
    by_cases h2:l=m
    ·simp [h2]
    ·simp [h2]
   ·simp [h1]
theorem jX(l:List Int):v0 (l.map D.int)=0:=by
 induction l with
 | nil=>rfl
 | cons a l ih=>simp only[ax,v0,dpD,ih];rfl
noncomputable abbrev CNx(n i:Nat)(Pv:Nat->List V->Hp->Prop)(acc:List V)(H:Hp):Prop:=∃ m',m'<n - i/\(m'=n - (i+1)/\i+1<=n/\Pv (i+1) acc H)
theorem CNx.mk{n i:Nat}{Pv:Nat->List V->Hp->Prop}{acc:List V}{H:Hp}(hi:i<n)(h:Pv (i+1) acc H):CNx n i Pv acc H:=⟨n - (i+1),by lia,rfl,hi,h⟩
noncomputable def Xj(J:It)(g:TG)(tt:TT)(te:TE)(own:Nat)(ix:List Nat)(σ:St)(H1:Hp)(Q:VK)(D:Addr):Prop:=∃ W:Nat->Nat->List V->Hp->Prop,(∃ m,W 0 m [] (upd H1 D (.lst []))) /\
 ∀ i m acc H',W i m acc H'->(J.stop i H'/\Q (.ref D) H')\/(J.go i H'/\∀ x H2,J.yld i H' x H2->g x (va σ own ix) H2 fun σ3 H3=>xf (va σ own ix) σ3/\tt σ3 H3 fun b H4=>if b=true then
  te σ3 H4 fun v H5=>H5 D=some (.lst acc)/\acc.length<oq/\∃ m',m'<m/\W (i+1) m' (acc ++ [v]) (upd H5 D (.lst (acc ++ [v])))
  else ∃ m',m'<m/\W (i+1) m' acc H4)
noncomputable def CompR(lo:Int)(n:Nat)(g:TG)(tt:TT)(te:TE)(own:Nat)(ix:List Nat)(σ:St)(H1:Hp)(Q:VK)(D:Addr):Prop:=Xj (Itr lo n) g tt te own ix σ H1 Q D
noncomputable def CompL(K:ot)(a:Addr)(g:TG)(tt:TT)(te:TE)(own:Nat)(ix:List Nat)(σ:St)(H1:Hp)(Q:VK)(D:Addr):Prop:=Xj (Itl K a) g tt te own ix σ H1 Q D
noncomputable def CompS(x:Str)(g:TG)(tt:TT)(te:TE)(own:Nat)(ix:List Nat)(σ:St)(H1:Hp)(Q:VK)(D:Addr):Prop:=Xj (Its x) g tt te own ix σ H1 Q D
theorem Kn{ta:TA}{g:TG}{tt:TT}{te:TE}{own:Nat}{ix:List Nat}{σ:St}{H:Hp}{Q:VK}:jU (JT ta) g tt te own ix σ H Q=ta σ H fun vs H1=>∃ j:Int,vs=[.int j]/\-(2 ^ 62)<=j/\j<2 ^ 62/\∀ D,H1 D=none->CompR 0 j.toNat g tt te own ix σ H1 Q D:=rfl
theorem zaR{K:ot}{tl:TE}{g:TG}{tt:TT}{te:TE}{own:Nat}{ix:List Nat}{σ:St}{H:Hp}{Q:VK}:jU (Q9 K tl) g tt te own ix σ H Q=tl σ H fun x H1=>∃ a,x=.ref a/\(∃ xs,SqL K H1 a xs)/\∀ D,H1 D=none->CompL K a g tt te own ix σ H1 Q D:=rfl
theorem za5{tl:TE}{g:TG}{tt:TT}{te:TE}{own:Nat}{ix:List Nat}{σ:St}{H:Hp}{Q:VK}:jU (zbb tl) g tt te own ix σ H Q=tl σ H fun v H1=>∃ x,v=.str x/\∀ D,H1 D=none->CompS x g tt te own ix σ H1 Q D:=rfl
section
variable{g:TG}{tt:TT}{te:TE}{own:Nat}{ix:List Nat}{σ:St}{H1:Hp}{Q:VK}{D:Addr}
theorem CompR.by{lo:Int}{n:Nat}(Pv:Nat->List V->Hp->Prop)(h0:Pv 0 [] (upd H1 D (.lst [])))
  (hs:∀ i acc H',i<n->Pv i acc H'->g (.int (lo+i)) (va σ own ix) H' fun σ3 H3=>xf (va σ own ix) σ3/\tt σ3 H3 fun b H4=>if b=true then
   te σ3 H4 fun v H5=>H5 D=some (.lst acc)/\acc.length<oq/\CNx n i Pv (acc ++ [v]) (upd H5 D (.lst (acc ++ [v]))) else CNx n i Pv acc H4)
  (hd:∀ acc H',Pv n acc H'->Q (.ref D) H'):CompR lo n g tt te own ix σ H1 Q D:=by
 refine⟨fun i m acc H=>m=n - i/\i<=n/\Pv i acc H,⟨n,by simp,aG _,h0⟩,?_⟩
 rintro i m acc H' ⟨rfl,hi,p⟩
 by_cases hlt:i<n
 ·refine .inr ⟨hlt,fun x H2 y=>?_⟩
  obtain⟨e,y⟩:=y
  subst e y
  exact hs i acc _ hlt p
 ·have e:i=n:=by lia
  subst e
  exact .inl ⟨aq _,hd acc H' p⟩
theorem CompL.by{K:ot}{a:Addr}{xs:List V}(Pv:Nat->List V->Hp->Prop)(h0:Pv 0 [] (upd H1 D (.lst [])))(hl:∀ i acc H',i<=xs.length->Pv i acc H'->SqL K H' a xs)
  (hs:∀ i x acc H',xs[i]? = some x->Pv i acc H'->g x (va σ own ix) H' fun σ3 H3=>xf (va σ own ix) σ3/\tt σ3 H3 fun b H4=>if b=true then
   te σ3 H4 fun v H5=>H5 D=some (.lst acc)/\acc.length<oq/\CNx xs.length i Pv (acc ++ [v]) (upd H5 D (.lst (acc ++ [v]))) else CNx xs.length i Pv acc H4)
  (hd:∀ acc H',Pv xs.length acc H'->Q (.ref D) H'):CompL K a g tt te own ix σ H1 Q D:=by
 refine⟨fun i m acc H=>m=xs.length - i/\i<=xs.length/\Pv i acc H,⟨xs.length,by simp,aG _,h0⟩,?_⟩
 rintro i m acc H' ⟨rfl,hi,p⟩
 have q:=hl i acc H' hi p
 by_cases hlt:i<xs.length
 ·refine .inr ⟨⟨xs,xs[i],q,by simp [hlt]⟩,fun x H2 y=>?_⟩
  obtain⟨e,y⟩:=y
  subst e
  exact hs i x acc _ (y xs q) p
 ·have e:i=xs.length:=by lia
  subst e
  exact .inl ⟨⟨xs,q,aq _⟩,hd acc H' p⟩
theorem CompS.by{l:List Nat}(Pv:Nat->List V->Hp->Prop)(h0:Pv 0 [] (upd H1 D (.lst [])))
  (hs:∀ i c acc H',l[i]? = some c->Pv i acc H'->g (.str (tx [c])) (va σ own ix) H' fun σ3 H3=>xf (va σ own ix) σ3/\tt σ3 H3 fun b H4=>if b=true then
   te σ3 H4 fun v H5=>H5 D=some (.lst acc)/\acc.length<oq/\CNx l.length i Pv (acc ++ [v]) (upd H5 D (.lst (acc ++ [v]))) else CNx l.length i Pv acc H4)
  (hd:∀ acc H',Pv l.length acc H'->Q (.ref D) H'):CompS (tx l) g tt te own ix σ H1 Q D:=by
 refine⟨fun i m acc H=>m=l.length - i/\i<=l.length/\Pv i acc H,⟨l.length,by simp,aG _,h0⟩,?_⟩
 rintro i m acc H' ⟨rfl,hi,p⟩
 by_cases hlt:i<l.length
 ·refine .inr ⟨hlt,fun v H2 y=>?_⟩
  obtain⟨e,c,hc,ev⟩:=y
  subst e ev
  exact hs i c acc _ hc p
 ·have e:i=l.length:=by lia
  subst e
  exact .inl ⟨rfl,hd acc H' p⟩
end
theorem xj{x:V}{r:St}:xf (none::r) (some x::r):=⟨rfl,fun i v h=>by
 cases i with
 | zero=>cases h
 | succ i=>exact h⟩
theorem zO{X:Cx}{scope sc:Scope}{own caps:List Str}{ix:List Nat}(h1:scope.kind=.function)(h2:scope.names.all (fun y=>y.2 != .cell)=true)(h3:scope.names.all (fun y=>y.2 != .local || scope.names.lookup y.1 == some .local)=true)
  (h4:scope.names.all (fun y=>y.2 != .free || sc.names.lookup y.1 == some .cell)=true) (hsc:X.env.scope=sc) (h5:own.all (fun y=>scope.names.lookup y == some .local)=true) (h6:caps.all (fun y=>scope.names.lookup y == some .free)=true) (h7:ix.map (fun i=>X.N[i]?)=caps.map some):uY X scope own caps ix:=by
 refine⟨h1,fun y hy=>?_,fun y hy e=>?_,fun y hy=>?_,fun y hy=>?_,fun y hy=>?_,h7⟩
 ·have:=List.all_eq_true.mp h2 y hy
  simpa using this
 ·have:=List.all_eq_true.mp h3 y hy
  rw[e] at this
  simpa using this
 ·have:=List.all_eq_true.mp h4 _ hy
  have:=by simpa using this
  show X.env.scope.names.lookup y=some .cell
  rw[hsc]
  exact this
 ·have:=List.all_eq_true.mp h5 y hy
  simpa using this
 ·have:=List.all_eq_true.mp h6 y hy
  simpa using this
theorem ZO{α:Type}(l:List α){a b:Int}(h0:0<=a)(h1:a<=b)(h2:b<=l.length):cut l (some a) (some b)=(l.drop a.toNat).take (b - a).toNat:=by
 obtain⟨m,rfl⟩:=bq h0
 obtain⟨n,rfl⟩:=bq (by lia:0<=b)
 unfold cut
 rw[HT.sIx_nat,HT.sIx_nat,cN (by lia),cN (by lia)]
 have:((n:Int) - (m:Int)).toNat=n - m:=by lia
 rw[this]
 rfl
theorem qG{k:Nat}{A:Around}(r:Room k A):A.units+100<cLine:=by have:=r.un;lia
end L3
namespace L3
theorem Jt{K:ot}{x y:V}{H:Hp}{Q:VK}{l m:List D}(h:(Is K H (.lst l) x/\Is K H (.lst m) y)\/(Is K H (.tup l) x/\Is K H (.tup m) y))(hd:v0 l<50)(q:Q (.bl (uU l m)) H):zb7 K x y H Q:=⟨l,m,h,hd,q⟩
theorem J5{K:ot}{x y:V}{H:Hp}{Q:VK}{l m:List D}(h:(Is K H (.lst l) x/\Is K H (.lst m) y)\/(Is K H (.tup l) x/\Is K H (.tup m) y))(hd:v0 l<50)(q:Q (.bl (!uU l m)) H):zbO K x y H Q:=⟨l,m,h,hd,q⟩
noncomputable def zb1(t u:TS):TS:=fun D σ H=>∃ R:St->Hp->Prop,t { D with nx:=R } σ H/\∀ σ' H',R σ' H'->u D σ' H'
theorem zi{X:Cx}{st:Stmt}{rest:List Stmt}{t u:TS}(h1:PS X st t)(h2:PSs X rest u):PSs X (st::rest) (zb1 t u):=by
 intro pins s σ H D I h
 obtain⟨R,h,hr⟩:=h
 refine wpAny_execs_cons (thn (h1 pins s σ H { D with nx:=R } I h) fun f s1 q=>?_)
 cases f with
 | next =>
  obtain⟨σ',H',I',q⟩:=q
  exact h2 pins s1 σ' H' D I' (hr _ _ q)
 | ret v=>exact q
 | brk=>exact q
 | cont=>exact q
theorem zj{t u:TS}{D:vh}{σ:St}{H:Hp}(R:St->Hp->Prop)(h:t { D with nx:=R } σ H)(hr:∀ σ' H',R σ' H'->u D σ' H'):zb1 t u D σ H:=⟨R,h,hr⟩
theorem zK{H H':Hp}{a:Addr}{o:HO}(h:Same H H')(e:H a=none):Same H (upd H' a o):=fun b u q=>by
 rw[zq (zF q e)]
 exact h b u q
theorem ForL.by{K:ot}{a:Addr}{xs:List V}{g:TG}{tb:TS}{D:vh}{σ:St}{H:Hp}(Pv:Nat->St->Hp->Prop)(h0:Pv 0 σ H)(hl:∀ i σ H,i<=xs.length->Pv i σ H->SqL K H a xs)
  (hs:∀ i x σ H,xs[i]? = some x->Pv i σ H->g x σ H fun σ2 H2=>tb { D with nx:=Pv (i+1),ct:=Pv (i+1),bk:=D.nx } σ2 H2) (hd:∀ σ H,Pv xs.length σ H->D.nx σ H):ForL K a g tb D σ H:=Ut Pv h0 hl hs hd
theorem VN{A B:Prop}(h:B):if true=false then A else B:=by rw[if_neg (by decide)];exact h
noncomputable def CompV(K:ot)(a:Addr)(n:Nat)(g:TG)(tt:TT)(te:TE)(own:Nat)(ix:List Nat)(σ:L2.St)(H1:Hp)(Q:VK)(D:Addr):Prop:=Xj (Irv K a n) g tt te own ix σ H1 Q D
theorem zbq{K:ot}{ta:TA}{g:TG}{tt:TT}{te:TE}{own:Nat}{ix:List Nat}{σ:L2.St}{H:Hp}{Q:VK}:jU (zbV K ta) g tt te own ix σ H Q=ta σ H fun vs H1=>∃ a xs,vs=[.ref a]/\SqL K H1 a xs/\∀ D,H1 D=none->CompV K a xs.length g tt te own ix σ H1 Q D:=rfl
theorem CompV.by{K:ot}{a:Addr}{xs:List V}{g:TG}{tt:TT}{te:TE}{own:Nat}{ix:List Nat}{σ:L2.St}{H1:Hp}{Q:VK}{D:Addr}(Pv:Nat->List V->Hp->Prop)(h0:Pv 0 [] (upd H1 D (.lst [])))(hl:∀ i acc H',i<=xs.length->Pv i acc H'->SqL K H' a xs)
  (hs:∀ i x acc H',xs.reverse[i]? = some x->Pv i acc H'->g x (va σ own ix) H' fun σ3 H3=>xf (va σ own ix) σ3/\tt σ3 H3 fun b H4=>if b=true then
   te σ3 H4 fun v H5=>H5 D=some (.lst acc)/\acc.length<oq/\CNx xs.length i Pv (acc ++ [v]) (upd H5 D (.lst (acc ++ [v]))) else CNx xs.length i Pv acc H4)
  (hd:∀ acc H',Pv xs.length acc H'->Q (.ref D) H'):CompV K a xs.length g tt te own ix σ H1 Q D:=by
 refine⟨fun i m acc H=>m=xs.length - i/\i<=xs.length/\Pv i acc H,⟨xs.length,by simp,aG _,h0⟩,?_⟩
 rintro i m acc H' ⟨rfl,hi,p⟩
 have q:=hl i acc H' hi p
 by_cases hlt:i<xs.length
 ·refine .inr ⟨⟨xs,q,rfl,hlt⟩,fun x H2 y=>?_⟩
  obtain⟨e,y⟩:=y
  subst e
  refine hs i x acc _ ?_ p
  rw[bj hlt]
  exact y xs q rfl
 ·have e:i=xs.length:=by lia
  subst e
  exact .inl ⟨rfl,hd acc H' p⟩
end L3
namespace L3
section
variable{X:Cx}
theorem W4:∀{ys:List Str} {its:List Value},Vals (ys.map V.str) its->∃ l:List (Str × Tok),its=strValues l/\l.map (·.1)=ys
 | [],_,.nil=>⟨[],rfl,rfl⟩
 | y::ys,_,.cons r t=>by
  obtain⟨tk,rfl⟩:=r
  obtain⟨l,e1,e2⟩:=W4 t
  exact⟨(y,tk)::l,by rw[e1];rfl,by rw[ax,e2]⟩
noncomputable def za7(K:ot):V->List V->Hp->VK->Prop:=fun x xs H Q=>∃ z p ys,x=.str z/\xs=[.ref p]/\SqL K H p (ys.map V.str)/\JoinOk z ys=true/\Q (.str (Txt.join z ys)) H
theorem K5:MtR X "str.join" (za7 X.K):=by
 intro pins s σ H x xs v us Q I rx rv h
 obtain⟨z,p,ys,rfl,rfl,hS,hok,q⟩:=h
 obtain⟨t,rfl⟩:=rx
 obtain⟨u,rfl,ru⟩:=wf rv
 cases ru
 obtain⟨its,r,pl,_⟩:=I.list hS
 obtain⟨l,rfl,e⟩:=W4 r
 exact PySem.SC.join pl.isList e hok fun t' k=>⟨.str _,H,I.tok _,⟨_,rfl⟩,q⟩
theorem jP:∀{bs:List Bool} {its:List Value} {i:Nat} {v:Value},Vals (bs.map V.bl) its->its[i]? = some v->v=.bool (bs.getD i false)
 | [],_,_,_,.nil,h=>by cases h
 | b::bs,_,0,v,.cons r t,h=>by
  cases r
  cases h
  rfl
 | b::bs,_,i+1,v,.cons r t,h=>jP (bs:=bs) (i:=i) t h
theorem Vm(bs:List Bool):(aS bs.length).all (fun i=>bs.getD i false)=bs.all id:=by
 induction bs with
 | nil=>rfl
 | cons b bs ih =>
  rw[aL,dc,eN,List.all_map,eN,<- ih]
  rfl
noncomputable def zcH(K:ot):List V->Hp->VK->Prop:=fun xs H Q=>∃(p:Addr) (bs:List Bool),xs=[.ref p]/\SqL K H p (bs.map V.bl)/\Q (.bl (bs.all id)) H
theorem zbw(hc:X.calm=true):vf X (.builtin "all") (zcH X.K):=by
 intro pins s σ H xs us Q I r h
 obtain⟨p,bs,rfl,hS,q⟩:=h
 obtain⟨u,rfl,ru⟩:=wf r
 cases ru
 obtain⟨its,rv,pl,hz⟩:=I.list hS
 have hlen:its.length=bs.length:=by
  have:=rv.length
  rw[ag] at this
  exact this.symm
 have hh:X.A.in1.handled=none:=I.ok.hd hc
 have hne:p≠s.heap.objs.size:=by
  obtain⟨o,n,e,_⟩:=pl
  exact aA (av e)
 obtain⟨f0,f1,f2,f3,f4,f5⟩:=I.fpOk (H':=H) (aq _) (I.hok.fresh (aq _))
 have I1:=I.kept (t':=s.toks) (h':=s.heap.push { cls:=.type "list_iterator",data:=.fields #[.ref p,.int 0 0] }) fun b o e=>aa _ e
 refine call_all_walk (wpAny_pyIter_list pl.isList ?_)
 refine⟨s.heap.objs.size,_,_,_,_,_,fun i=>bs.getD i false,rfl,Walks.list hh s.heap.objs.size p hne its.toArray,⟨⟨_,aF _ rfl,rfl,rfl⟩,?_⟩,?_,?_⟩
 ·obtain⟨o,n,e,c,d,dt⟩:=pl
  exact⟨o,aa _ e,c,n,dt⟩
 ·intro i v s' Q' E' hv hq
  have:=jP rv (i:=i) (v:=v) (by simpa using hv)
  rw[this]
  exact wpAny_truthy_bool hq
 ·intro h' tk hk
  have e:(aS its.toArray.size).all (fun i=>bs.getD i false)=bs.all id:=by
   rw[al,hlen,Vm]
  rw[e]
  refine⟨.bl _,H,?_,rfl,q⟩
  exact I1.turned (t':=tk) (it:=s.heap.objs.size) (fun b o hb q=>hk b o (by simpa using hb) q) f0 f1 f3 f4 f5
end
end L3
namespace L3
section
variable{M:Model}{A:Around}{E:Value->Shared->Prop}{s:Shared}{base:Heap}{env env0:Env}{outer:List Env}{L x t C:Addr}{dx:Option Addr}
theorem KQ{tb:Value}{Q:Unit->Shared->Prop}(hfr:A.frames=some (env0::outer))(hl:s.heap.FunFrames base (env0::outer))(hf:env0.frame=some L)(he:env.frame=some L)
  (hx:s.heap.get? x=some (xob C dx t tb)) (htb:Q7 s.heap x tb)
  (h:∀ h' T oT ts,h'.get? x=some (xob C dx t (.ref T))->T≠x->(tb=.ref T\/s.heap.objs.size<=T)->h'.get? T=some oT->oT.data=.fields ts->3<ts.size ->
   (∀ b o,b≠x->tb≠.ref b->b ∉ frs (env0::outer)->s.heap.get? b=some o->h'.get? b=some o)->(∀ b o,b≠x->tb≠.ref b->s.heap.get? b=some o->∃ sl,h'.get? b=some { o with slots:=sl })->Q () { s with heap:=h' }) :
  wpAny M A (noteFrame (.ref x) env) Q E s:=by
 have land:∀(h1:Heap) (T:Addr) (oT:Obj) (ts:Array Value),h1.get? x=some (xob C dx t (.ref T))->T≠x->(tb=.ref T\/s.heap.objs.size<=T)->h1.get? T=some oT->oT.data=.fields ts->3<ts.size ->
   (∀ b o,b≠x->tb≠.ref b->b ∉ frs (env0::outer)->s.heap.get? b=some o->h1.get? b=some o)->(∀ b o,b≠x->tb≠.ref b->s.heap.get? b=some o->∃ sl,h1.get? b=some { o with slots:=sl }) ->
   Q () { s with heap:=h1 }:=fun h1 T oT ts e1 nT oldT e2 d2 z2 k1 k2=>h h1 T oT ts e1 nT oldT e2 d2 z2 k1 k2
 unfold noteFrame
 simp only[he]
 refine oh (wpAny_field hx rfl (x:=tb) rfl ?_)
 rcases htb with rfl | ⟨T,oT,ts,rfl,nT,e2,d2,z2⟩
 ·rw[if_neg (by decide)]
  refine jM hfr hl hf he hx fun h' oT ts e1 ne e2 d2 z2 k1 k2=>land h' _ oT ts e1 ne (.inr (aq _)) e2 d2 z2 (fun b o hb _ hbf e=>k1 b o hb hbf e) fun b o hb _ e=>k2 b o hb e
 ·rw[if_pos (show (Value.ref T != Value.none)=true from by simp)]
  obtain⟨y,hy⟩:∃ y,ts[3]? = some y:=⟨ts[3],by simp [z2]⟩
  refine oh (wpAny_field e2 d2 (x:=y) hy ?_)
  by_cases c:(y == rawInt L)=true
  ·rw[if_pos c]
   exact oj (land s.heap T oT ts hx nT (.inl rfl) e2 d2 z2 (fun b o _ _ _ e=>e) fun b o _ _ e=>⟨o.slots,e⟩)
  ·rw[if_neg c]
   refine oh (wpAny_setField e2 d2 z2 ?_)
   have oth:∀ b,b≠T->(s.heap.update T (Obj.mapFields (·.setIfInBounds 3 Value.none))).get? b=s.heap.get? b:=fun b hb=>aH _ _ (Ne.symm hb)
   have hl1:(s.heap.update T (Obj.mapFields (·.setIfInBounds 3 Value.none))).FunFrames base (env0::outer):=hl.of_keeps fun b o hb hnf=>⟨o,(oth b fun q=>by rw[q,e2] at hb;cases hb;exact hnf ts d2).trans hb,rfl⟩
   have hsz:(s.heap.update T (Obj.mapFields (·.setIfInBounds 3 Value.none))).objs.size=s.heap.objs.size:=dg ..
   refine jM (s:={ s with heap:=s.heap.update T (Obj.mapFields (·.setIfInBounds 3 Value.none)) }) hfr hl1 hf he ((oth x (Ne.symm nT)).trans hx) fun h' oT' ts' e1 ne e2' d2' z2' k1 k2=>?_
   refine land h' _ oT' ts' e1 ne (.inr (by rw[hsz];exact aq _)) e2' d2' z2' (fun b o hb hbt hbf e=>k1 b o hb hbf ((oth b fun q=>hbt (by rw[q])).trans e)) fun b o hb hbt e=>k2 b o hb ((oth b fun q=>hbt (by rw[q])).trans e)
end
section
variable{X:Cx}{pins:List (Addr × Obj)}{σ:St}{H1:Hp}{s1:Shared}
theorem Inv.noted{h':Heap}{x T:Addr}{tb:Value}(I1:Inv X pins σ H1 s1)(hst:X.stack=X.env::X.outer)(fx:xH X pins H1 x)(fT:∀ T,tb=.ref T->xH X pins H1 T)(fT':xH X pins H1 T)
  (k1:∀ b o,b≠x->tb≠.ref b->b ∉ frs (X.env::X.outer)->s1.heap.get? b=some o->h'.get? b=some o) (k2:∀ b o,b≠x->tb≠.ref b->s1.heap.get? b=some o->∃ sl,h'.get? b=some { o with slots:=sl }):Inv X pins σ H1 { s1 with heap:=h' }:=by
 have tbs:∀ b,tb=.ref b->H1 b=none:=fun b hb=>(fT b hb).1
 have nch:∀ b o,s1.heap.get? b=some o->b ∉ (x::T::tbL tb)->b≠x/\tb≠.ref b:=fun b o _ hb=>by
  refine⟨fun z=>hb (by simp [z]),fun z=>hb ?_⟩
  rw[z]
  simp [tbL]
 have un:Un (frs X.stack) (x::T::tbL tb) H1 H1 s1.heap h':=by
  rw[hst]
  refine⟨fun b o e n hb hc=>?_,fun b o e n hb hc=>?_,fun b o e n _=>n,fun b o e hc=>?_,fun b xs e=>e,fun b o u e=>e,fun b ps e=>⟨#[],by rw[e];simp⟩⟩
  ·obtain⟨a1,a2⟩:=nch b o e hc
   exact k1 b o a1 a2 hb e
  ·obtain⟨a1,a2⟩:=nch b o e hc
   exact k2 b o a1 a2 e
  ·obtain⟨a1,a2⟩:=nch b o e hc
   obtain⟨sl,q⟩:=k2 b o a1 a2 e
   exact⟨_,q⟩
 have hok:HOk X.prog X.w H1 h':=fun b u e=>by
  refine (I1.hok b u e).stay (fun c v hc q=>k1 c v ?_ ?_ ?_ q) (fun _ q=>q) fun _ _ q=>q
  ·rintro rfl
   rcases hc with rfl | hc
   ·rw[fx.1] at e;cases e
   ·rw[fx.1] at hc;cases hc
  ·intro z
   have:=tbs c z
   rcases hc with rfl | hc
   ·rw[this] at e;cases e
   ·rw[this] at hc;cases hc
  ·intro z
   rw[<- hst] at z
   have:=I1.stkFree c z
   rcases hc with rfl | hc
   ·rw[this] at e;cases e
   ·rw[this] at hc;cases hc
 exact I1.call' (s':={ s1 with heap:=h' }) rfl un hok I1.bare fun b hb=>by
  have fb:xH X pins H1 b:=by
   rcases List.mem_cons.mp hb with z | z
   ·rw[z];exact fx
   ·rcases List.mem_cons.mp z with z | z
    ·rw[z];exact fT'
    ·cases tb with
     | ref b' =>
      have:b=b':=by simpa [tbL] using z
      rw[this];exact fT b' rfl
     | _=>simp [tbL] at z
  obtain⟨_,a1,_,a3,a4,a5⟩:=fb
  exact⟨a3,a1,a4,a5⟩
end
section
variable{X:Cx}{scope:Scope}{own caps:List Str}{ix:List Nat}{cl:List (Str × Addr)}
theorem Ws{N:List Str}{EX:XK}{pins:List (Addr × Obj)}{σ:St}{H3:Hp}{s3:Shared}{fp:List Addr}{xe:Value->Shared->Prop}{e:Value}{s1:Shared}{RE:Value->Shared->Prop}(hst:X.stack=X.env::X.outer/\X.env.frame=some X.env.locals)(hxe:XE X EX)
  (hc1:∀ y c,cl.lookup y=some c->X.env.cells.lookup y=some c) (I3:Inv X pins σ H3 s3) (f3:∀ b ∈ fp,xH X pins H3 b) (fl:KH (yd X scope cl s3.heap.objs.size N pins s3 H3 fp xe) EX e s1)
  (hRE:∀ m s' x,s'.heap.Ns s3.heap.objs.size m->(∀ h',Heap.SameBut s3.heap.objs.size s'.heap h'->∀ cenv:Env,cenv.locals=s3.heap.objs.size->wpAny (model X.prog X.w) X.A (eS "comprehension.variables-let-go" x cenv:Sem Value) (fun _ _=>False) X.xe { s' with heap:=h' })->RE x s') :
  notedBy (model X.prog X.w) X.A (compEnvC scope cl s3.heap.objs.size X.env) RE e s1:=by
 obtain⟨pins',σ',H1,x,C,t,dx,tb,rfl,I1,ob,tr,fx,fT,q⟩:=fl
 have IX:Inv X pins σ H1 s1:=I3.call' (s':=s1) I1.os I1.base I1.hok I1.bare fun b hb=>by
  obtain⟨_,a1,a2,a3,a4,a5⟩:=f3 b hb
  exact⟨a3,a1,a4,a5⟩
 have up:∀ b,xH (yd X scope cl s3.heap.objs.size N pins s3 H3 fp xe) pins' H1 b->xH X pins H1 b:=fun b hb=>by
  obtain⟨a0,a1,a2,a3,a4,a5⟩:=hb
  rcases a3 with a3 | a3
  ·exact⟨a0,(f3 b a3).2⟩
  ·exact I3.fpOk a3 a0
 have fx':=up x fx
 have fT':∀ T,tb=.ref T->xH X pins H1 T:=fun T h=>up T (fT T h)
 have fr:X.A.frames=some (X.env::X.outer):=by rw[<- hst.1];exact IX.ok.frames
 have ff:s1.heap.FunFrames X.base (X.env::X.outer):=by rw[<- hst.1];exact IX.stack
 obtain⟨m,hm,_⟩:=I1.loc
 have fC:xH X pins H1 s3.heap.objs.size:=I3.fpOk (aq _) I1.free
 refine KQ fr ff hst.2 hst.2 ob tr fun h' T oT ts e1 nT oldT e2 d2 z2 k1 k2=>?_
 have fT2:xH X pins H1 T:=by
  rcases oldT with z | z
  ·exact fT' T z
  ·exact IX.fpOk z (IX.hok.fresh z)
 have I2:Inv X pins σ H1 { s1 with heap:=h' }:=Inv.noted IX hst.1 fx' fT' fT2 k1 k2
 have hCx:s3.heap.objs.size≠x:=fun z=>fx.2.1 z.symm
 have hCtb:tb≠.ref s3.heap.objs.size:=fun z=>(fT _ z).2.1 rfl
 obtain⟨oC,es,ep,hoC,rC⟩:=hm
 have hCT:T≠s3.heap.objs.size:=by
  rcases oldT with z | z
  ·exact (fT T z).2.1
  ·exact bR (az (av hoC) z)
 have hCf:s3.heap.objs.size ∉ frs (X.env::X.outer):=fun z=>by
  rw[<- hst.1] at z
  rcases List.mem_cons.mp (IX.stkSub _ z) with y | y
  ·exact fC.2.1 y
  ·exact fC.2.2.1 y
 refine hRE m _ _ ⟨oC,es,ep,k1 _ _ hCx hCtb hCf hoC,rC⟩ fun h2 sb cenv hcenv=>?_
 have I3':Inv X pins σ H1 { s1 with heap:=h2 }:=I2.turned (t':=s1.toks) (fun b o hb e=>(sb.2 b hb).trans e) fC.1 fC.2.1 fC.2.2.2.1 fC.2.2.2.2.1 fC.2.2.2.2.2
 have ob2:h2.get? x=some (xob C dx t (.ref T)):=(sb.2 x (Ne.symm hCx)).trans e1
 have oT2:h2.get? T=some oT:=(sb.2 T hCT).trans e2
 unfold eS
 refine oh (wpAny_field (s:={ s1 with heap:=h2 }) ob2 rfl (x:=.ref T) rfl ?_)
 rw[if_neg (show ¬ (Value.ref T == Value.none)=true from by simp)]
 unfold setFlight
 refine oh (oh (wpAny_field (s:={ s1 with heap:=h2 }) ob2 rfl (x:=.ref T) rfl ?_))
 rw[if_pos (show (Value.ref T != Value.none)=true from by simp)]
 refine wpAny_setField (s:={ s1 with heap:=h2 }) oT2 d2 z2 (wpAny_throw (hxe _ _ ?_))
 have d3:=Obj.data_mapFields d2 (·.setIfInBounds 3 (cenv.frame.elim Value.none fun f=>rawInt f))
 have I4:Inv X pins σ H1 { s1 with heap:=h2.update T (Obj.mapFields (·.setIfInBounds 3 (cenv.frame.elim Value.none fun f=>rawInt f))) } :=
  I3'.turned (t':=s1.toks) (fun b o hb e=>(aH _ _ (Ne.symm hb)).trans e) fT2.1 fT2.2.1 fT2.2.2.2.1 fT2.2.2.2.2.1 fT2.2.2.2.2.2
 exact⟨pins,σ,H1,x,C,t,dx,.ref T,rfl,I4,(aH _ _ nT).trans ob2,.inr ⟨T,_,_,rfl,nT,bO _ oT2 (Obj.isFreed_of_fields d3),d3,by simpa using z2⟩,fx',fun T' z=>by cases z;exact fT2,q⟩
end
section
variable{X:Cx}{scope:Scope}{own caps:List Str}{ix:List Nat}{elt tg iter:Expr}{ifs:List Expr}{pos:Pos}{wi:TI}{g:TG}{tt:TT}{te:TE}
end
end L3
namespace L3
open PySem.AutoSeq1 (wpAny_loadPart')
open MeetsSeq MeetsSeq2 MeetsSeq3 SeqRoads2 SeqAt
noncomputable def LtAt(A:Around)(s:Shared)(y x:Value)(b:Bool):Prop :=
 ∀(prog:Program) (w:World) (E:Value->Shared->Prop) (Q:Value->Shared->Prop),Q (.bool b) s->wpAny (model prog w) A (richCompare .Lt y x) Q E s
noncomputable def Xp(e t r:Nat->Bool)(m n:Nat):Prop:=∀ i,i<=m->i<=n->r i=if i<m/\i<n then (if e i=true then r (i+1) else t i) else decide (m<n)
theorem XW(l b:Addr)(items items2:Array Value)(n n2:Nat)(dd dd2:Option Addr)(sl sl2:Array (Option Value))(e t r:Nat->Bool)(hr:Xp e t r items.size items2.size)(k:Nat) :
  ∀ i:Nat,i<=items.size->i<=items2.size->items.size - i=k->Meets (Builtin.«list.__eq__.loop» ⟨[.ref l,.ref b,rawInt i,rawInt 0],[]⟩)
   (fun A R s=>s.heap.get? l=some { cls:=.type "list",dict:=dd,data:=.seq items n,slots:=sl }/\s.heap.get? b=some { cls:=.type "list",dict:=dd2,data:=.seq items2 n2,slots:=sl2 } /\
    (∀ j (h1:j<items.size) (h2:j<items2.size),EqAt A.in1 s items[j] items2[j] (e j))/\(∀ j (h1:j<items.size) (h2:j<items2.size),e j=false->LtAt A.in1 s items[j] items2[j] (t j)) /\
    R (.ok (.ret (.bool (r i)))) s):=by
 induction k with
 | zero =>
  intro i b1 b2 hk prog w A R s h
  obtain⟨hp,g,d,tk,os⟩:=s;obtain⟨hl,hb,he,ht,h⟩:=h
  have hri:=hr i b1 b2
  rw[if_neg (by lia)] at hri
  rw[hri] at h
  wp_walk using wpAny_loadPart' hl,wpAny_loadPart' hb
  have hi1:items[((i:Nat):Int).toNat]? = none:=by simp;lia
  rw[hi1]
  wp_walk using wpAny_loadPart' hl,wpAny_loadPart' hb
  exact h
 | succ k ih =>
  intro i b1 b2 hk prog w A R s h
  obtain⟨hp,g,d,tk,os⟩:=s;obtain⟨hl,hb,he,ht,h⟩:=h
  have hlt:i<items.size:=by lia
  have hi1:items[((i:Nat):Int).toNat]? = some items[i]:=by simp [hlt]
  have hc:((i:Int)+1)=((i+1:Nat):Int):=by push_cast;rfl
  have hri:=hr i b1 b2
  by_cases hlt2:i<items2.size
  ·rw[if_pos ⟨hlt,hlt2⟩] at hri
   rw[hri] at h
   have hi2:items2[((i:Nat):Int).toNat]? = some items2[i]:=by simp [hlt2]
   wp_walk using wpAny_loadPart' hl,wpAny_loadPart' hb
   rw[hi1,hi2]
   refine oh (he i hlt hlt2 prog w _ _ ?_)
   cases hb':e i with
   | true =>
    rw[hb',if_pos rfl] at h
    wp_walk
    rw[hc]
    exact⟨plainId_quiet plain_eq_loop _,codeAny_builtin entry_eq_loop (by
     rw[Around.under_plainId plain_eq_loop _]
     exact ih (i+1) (by lia) (by lia) (by lia) prog w A R _ ⟨hl,hb,he,ht,h⟩)⟩
   | false =>
    rw[hb',if_neg aC] at h
    wp_walk using wpAny_loadPart' hl,wpAny_loadPart' hb
    rw[hi1,hi2]
    refine oh (ht i hlt hlt2 hb' prog w _ _ ?_)
    wp_walk
    exact h
  ·rw[if_neg (by lia)] at hri
   rw[hri] at h
   have hi2:items2[((i:Nat):Int).toNat]? = none:=by simp;lia
   wp_walk using wpAny_loadPart' hl,wpAny_loadPart' hb
   rw[hi1,hi2]
   wp_walk using wpAny_loadPart' hl,wpAny_loadPart' hb
   exact h
theorem WF(l b:Addr)(items items2:Array Value)(n n2:Nat)(dd dd2:Option Addr)(sl sl2:Array (Option Value))(e t r:Nat->Bool)(hr:Xp e t r items.size items2.size) :
  Meets (Builtin.«list.__lt__» ⟨[.ref l,.ref b],[]⟩)
   (fun A R s=>s.heap.get? l=some { cls:=.type "list",dict:=dd,data:=.seq items n,slots:=sl }/\s.heap.get? b=some { cls:=.type "list",dict:=dd2,data:=.seq items2 n2,slots:=sl2 } /\
    (∀ j (h1:j<items.size) (h2:j<items2.size),EqAt A.in1 s items[j] items2[j] (e j))/\(∀ j (h1:j<items.size) (h2:j<items2.size),e j=false->LtAt A.in1 s items[j] items2[j] (t j)) /\
    R (.ok (.ret (.bool (r 0)))) s):=by
 intro prog w A R s h
 obtain⟨hp,g,d,tk,os⟩:=s;obtain⟨hl,hb,he,ht,h⟩:=h
 have f3:=AutoSeq1.sub_list_list
 wp_walk using wpAny_loadPart' hl,wpAny_loadPart' hb
 exact⟨plainId_quiet plain_eq_loop _,codeAny_builtin entry_eq_loop (by
  rw[Around.under_plainId plain_eq_loop _]
  exact XW l b items items2 n n2 dd dd2 sl sl2 e t r hr _ 0 (aG _) (aG _) rfl prog w A R _ ⟨hl,hb,he,ht,h⟩)⟩
theorem Xg(l b:Addr)(items items2:Array Value)(n n2:Nat)(dd dd2:Option Addr)(sl sl2:Array (Option Value))(e t r:Nat->Bool)(hr:Xp e t r items.size items2.size) :
  Meets (Builtin.«tuple.__lt__» ⟨[.ref l,.ref b],[]⟩)
   (fun A R s=>s.heap.get? l=some { cls:=.type "tuple",dict:=dd,data:=.seq items n,slots:=sl }/\s.heap.get? b=some { cls:=.type "tuple",dict:=dd2,data:=.seq items2 n2,slots:=sl2 } /\
    (∀ j (h1:j<items.size) (h2:j<items2.size),EqAt A.in1 s items[j] items2[j] (e j))/\(∀ j (h1:j<items.size) (h2:j<items2.size),e j=false->LtAt A.in1 s items[j] items2[j] (t j)) /\
    R (.ok (.ret (.bool (r 0)))) s) :=
 .of_wp fun prog w A R s h=>by
  obtain⟨hp,g,d,tk,os⟩:=s;obtain⟨hl,hb,he,ht,h⟩:=h
  have f2:=AutoSeq1.sub_tuple_tuple
  have hZ:(items.toList.zip items2.toList).length=min items.size items2.size:=by simp
  wp_walk using wpAny_loadPart' hl,wpAny_loadPart' hb,wpAny_forIn_list _ (fun rest b s'=>b.1=none/\s'=⟨hp,g,d,tk,os⟩/\∃ i,i<=min items.size items2.size/\rest=(items.toList.zip items2.toList).drop i /\
   R (.ok (.ret (.bool (r i)))) ⟨hp,g,d,tk,os⟩) _
  case turn =>
   rintro⟨y,x⟩ rest b s' ⟨hb',rfl,i,hi,hz,hR⟩
   have hlt:i<(items.toList.zip items2.toList).length:=by
    rcases dZ i (items.toList.zip items2.toList).length with h' | h'
    ·exact h'
    ·rw[aX h'] at hz;cases hz
   have hm:i<min items.size items2.size:=hZ ▸ hlt
   have h1:i<items.size:=az hm (Nat.min_le_left _ _)
   have h2:i<items2.size:=az hm (Nat.min_le_right _ _)
   rw[aR hlt] at hz
   injection hz with hyx hrest
   have hy:y=items[i]:=by have:=congrArg Prod.fst hyx;simpa using this
   have hx:x=items2[i]:=by have:=congrArg Prod.snd hyx;simpa using this
   subst hy hx
   have hri:=hr i (by lia) (by lia)
   rw[if_pos ⟨h1,h2⟩] at hri
   rw[hri] at hR
   refine oh (he i h1 h2 prog w _ _ ?_)
   cases hy:e i with
   | true =>
    rw[hy,if_pos rfl] at hR
    wp_walk
    exact⟨rfl,rfl,i+1,by lia,hrest,hR⟩
   | false =>
    rw[hy,if_neg aC] at hR
    simp only[Bool.not_false,if_true]
    refine oh (wpAny_rule ?_)
    refine oh (ht i h1 h2 hy prog w _ _ ?_)
    wp_walk
    exact⟨_,rfl,hR⟩
  case fin =>
   rintro⟨b1,b2⟩ s' ⟨hb',rfl,i,hi,hz,hR⟩
   simp only at hb'
   subst hb'
   have hge:min items.size items2.size<=i:=by
    rcases dZ i (items.toList.zip items2.toList).length with h' | h'
    ·rw[aR h'] at hz;cases hz
    ·exact hZ ▸ h'
   have hri:=hr i (by lia) (by lia)
   rw[if_neg (by lia)] at hri
   rw[hri] at hR
   wp_walk
   exact⟨_,rfl,hR⟩
  case h =>
   exact⟨rfl,rfl,0,aG _,rfl,h⟩
theorem LtAt.lists{A:Around}{s:Shared}{l b:Addr}{items items2:Array Value}{e t r:Nat->Bool}(hl:s.heap.IsList l items)(hb:s.heap.IsList b items2)(hr:Xp e t r items.size items2.size)(hu:A.units<cLine)
  (he:∀ j (h1:j<items.size) (h2:j<items2.size),EqAt A.in1 s items[j] items2[j] (e j)) (ht:∀ j (h1:j<items.size) (h2:j<items2.size),e j=false->LtAt A.in1 s items[j] items2[j] (t j)):LtAt A s (.ref l) (.ref b) (r 0):=fun prog w E Q h=>by
 obtain⟨⟨cls,dd,data,sl⟩,ho,hc,n,hd⟩:=id hl
 obtain⟨⟨cls2,dd2,data2,sl2⟩,ho2,hc2,n2,hd2⟩:=id hb
 simp only at hc hd hc2 hd2
 subst hc hd hc2 hd2
 exact richCompare_meets_room (op:=.Lt) ⟨_,ho,rfl⟩ ⟨_,ho2,rfl⟩ F.slot_list_lt F.entry_list_lt (F.args_list_lt_2 _ _) (WF l b items items2 n n2 dd dd2 sl sl2 e t r hr)
  ⟨ho,ho2,he,ht,show Value.bool (r 0)≠Value.notImplemented/\Q (.bool (r 0)) s from ⟨(fun x=>nomatch x),h⟩⟩ hu
theorem LtAt.tuples{A:Around}{s:Shared}{l b:Addr}{items items2:Array Value}{e t r:Nat->Bool}(hl:s.heap.IsTuple l items)(hb:s.heap.IsTuple b items2)(hr:Xp e t r items.size items2.size)(hu:A.units<cLine)
  (he:∀ j (h1:j<items.size) (h2:j<items2.size),EqAt A.in1 s items[j] items2[j] (e j)) (ht:∀ j (h1:j<items.size) (h2:j<items2.size),e j=false->LtAt A.in1 s items[j] items2[j] (t j)):LtAt A s (.ref l) (.ref b) (r 0):=fun prog w E Q h=>by
 obtain⟨⟨cls,dd,data,sl⟩,ho,hc,n,hd⟩:=id hl
 obtain⟨⟨cls2,dd2,data2,sl2⟩,ho2,hc2,n2,hd2⟩:=id hb
 simp only at hc hd hc2 hd2
 subst hc hd hc2 hd2
 exact richCompare_meets_room (op:=.Lt) ⟨_,ho,rfl⟩ ⟨_,ho2,rfl⟩ F.slot_tuple_lt F.entry_tuple_lt (F.args_tuple_lt_2 _ _) (Xg l b items items2 n n2 dd dd2 sl sl2 e t r hr)
  ⟨ho,ho2,he,ht,show Value.bool (r 0)≠Value.notImplemented/\Q (.bool (r 0)) s from ⟨(fun x=>nomatch x),h⟩⟩ hu
end L3
namespace L3
mutual
noncomputable def okD:D->D->Prop
 | .int _,.int _=>True
 | .lst l,.lst m=>jB l m
 | .tup l,.tup m=>jB l m
 | _,_=>False
noncomputable def jB:List D->List D->Prop
 | d::l,e::m=>okD d e/\jB l m
 | _,_=>True
end
mutual
noncomputable def ltD:D->D->Bool
 | .int a,.int b=>decide (a<b)
 | .lst l,.lst m=>vV l m
 | .tup l,.tup m=>vV l m
 | _,_=>false
noncomputable def vV:List D->List D->Bool
 | d::l,e::m=>if eqD d e=true then vV l m else ltD d e
 | [],_::_=>true
 | _,[]=>false
end
theorem Wi(l m:List D):Xp (fun j=>eqD (l.getD j .non) (m.getD j .non)) (fun j=>ltD (l.getD j .non) (m.getD j .non)) (fun i=>vV (l.drop i) (m.drop i)) l.length m.length:=by
 intro i b1 b2
 simp only
 by_cases h:i<l.length/\i<m.length
 ·rw[if_pos h,aR h.1,aR h.2,vV]
  rw[ae,ae,ak h.1,ak h.2]
  rfl
 ·rw[if_neg h]
  by_cases h1:i<l.length
  ·have h2:¬ i<m.length:=fun z=>h ⟨h1,z⟩
   rw[aR h1,aX (cD h2),vV]
   ·simp;lia
   all_goals simp
  ·rw[aX (cD h1)]
   by_cases h2:i<m.length
   ·rw[aR h2,vV]
    simp;lia
   ·rw[aX (cD h2),vV]
    ·simp;lia
    all_goals simp
theorem KL:∀{l m:List D} {j:Nat} {d e:D},jB l m->l[j]? = some d->m[j]? = some e->okD d e
 | d::l,e::m,0,_,_,h,q1,q2=>by
  cases q1;cases q2
  simp only[jB] at h
  exact h.1
 | d::l,e::m,j+1,_,_,h,q1,q2=>by
  simp only[jB] at h
  exact KL (j:=j) h.2 q1 q2
section
variable{X:Cx}{pins:List (Addr × Obj)}{σ:St}{H:Hp}{s:Shared}
theorem YB{l m:List D}{xs ys:List V}{its its':List Value}{A:Around}{n:Nat}(hl:Iss X.K H l xs)(hm:Iss X.K H m ys)(r:Vals xs its)(r':Vals ys its')(hn:v0 l<n)(ok:jB l m)
  (ih:∀(d e:D) (x y:V) (u v:Value),dpD d<n->okD d e->Is X.K H d x->Is X.K H e y->RelV x u->RelV y v->LtAt A s u v (ltD d e)) :
  ∀ j (h1:j<its.toArray.size) (h2:j<its'.toArray.size),LtAt A s its.toArray[j] its'.toArray[j] (ltD (l.getD j .non) (m.getD j .non)):=by
 intro j h1 h2
 rw[al] at h1 h2
 have e1:=hl.len
 have e2:=hm.len
 have e3:=r.length
 have e4:=r'.length
 have g1:l[j]? = some l[j]:=ak (by lia)
 have g2:m[j]? = some m[j]:=ak (by lia)
 generalize l[j]=d at g1
 generalize m[j]=e at g2
 obtain⟨x,hx,ix⟩:=hl.at g1
 obtain⟨y,hy,iy⟩:=hm.at g2
 obtain⟨u,hu,ru⟩:=xJ r hx
 obtain⟨v,hv,rv⟩:=xJ r' hy
 have q1:its.toArray[j]=u:=by
  have:=(List.getElem?_eq_some_iff.mp hu).2
  simpa using this
 have q2:its'.toArray[j]=v:=by
  have:=(List.getElem?_eq_some_iff.mp hv).2
  simpa using this
 rw[q1,q2,ae,ae,g1,g2]
 exact ih d e x y u v (bY (JE g1) hn) (KL ok g1 g2) ix iy ru rv
theorem Qy(I:Inv X pins σ H s):∀(n:Nat) (A:Around) (d e:D) (x y:V) (u v:Value),A.units+n<cLine->dpD d<n->okD d e->Is X.K H d x->Is X.K H e y->RelV x u->RelV y v->LtAt A s u v (ltD d e):=by
 intro n
 induction n with
 | zero=>intro A d e x y u v _ h;exact absurd h (cP _)
 | succ n ih =>
  intro A d e x y u v hu hd ok hx hy rx ry
  have hu1:A.units<cLine:=by lia
  have huA:A.in1.units+n<cLine:=by show A.units+1+n<cLine;lia
  cases d with
  | int a =>
   cases e with
   | int b =>
    simp only[Is] at hx hy
    subst hx hy
    obtain⟨t,rfl⟩:=rx
    obtain⟨t',rfl⟩:=ry
    exact fun prog w E Q h=>lt_int h
   | _=>simp only[okD] at ok
  | lst l =>
   cases e with
   | lst m =>
    simp only[Is] at hx hy
    obtain⟨a,xs,rfl,h1,h2⟩:=hx
    obtain⟨b,ys,rfl,g1,g2⟩:=hy
    cases rx;cases ry
    obtain⟨its,r,p,_⟩:=I.list h1
    obtain⟨its',r',p',_⟩:=I.list g1
    simp only[dpD] at hd
    simp only[okD] at ok
    have L1:=h2.len
    have L2:=g2.len
    have L3:=r.length
    have L4:=r'.length
    have st:=Wi l m
    rw[show l.length=its.toArray.size by simp only[al];lia,show m.length=its'.toArray.size by simp only[al];lia] at st
    exact LtAt.lists (A:=A) p.isList p'.isList st hu1 (xC h2 g2 r r' (n:=n) (by lia) fun d e x y u v q1 q2 q3 q4 q5=>qM I n A.in1 d e x y u v huA q1 q2 q3 q4 q5)
     (fun j h1 h2 _=>YB (n:=n) (A:=A.in1) ‹_› g2 r r' (by lia) ok (fun d e x y u v q1 q2 q3 q4 q5 q6=>ih A.in1 d e x y u v huA q1 q2 q3 q4 q5 q6) j h1 h2)
   | _=>simp only[okD] at ok
  | tup l =>
   cases e with
   | tup m =>
    simp only[Is] at hx hy
    obtain⟨a,xs,rfl,h1,h2⟩:=hx
    obtain⟨b,ys,rfl,g1,g2⟩:=hy
    cases rx;cases ry
    obtain⟨its,r,p,_⟩:=I.tuple h1
    obtain⟨its',r',p',_⟩:=I.tuple g1
    simp only[dpD] at hd
    simp only[okD] at ok
    have L1:=h2.len
    have L2:=g2.len
    have L3:=r.length
    have L4:=r'.length
    have st:=Wi l m
    rw[show l.length=its.toArray.size by simp only[al];lia,show m.length=its'.toArray.size by simp only[al];lia] at st
    exact LtAt.tuples (A:=A) p p' st hu1 (xC h2 g2 r r' (n:=n) (by lia) fun d e x y u v q1 q2 q3 q4 q5=>qM I n A.in1 d e x y u v huA q1 q2 q3 q4 q5)
     (fun j h1 h2 _=>YB (n:=n) (A:=A.in1) ‹_› g2 r r' (by lia) ok (fun d e x y u v q1 q2 q3 q4 q5 q6=>ih A.in1 d e x y u v huA q1 q2 q3 q4 q5 q6) j h1 h2)
   | _=>simp only[okD] at ok
  | non=>cases e <;> simp only[okD] at ok
  | bl _=>cases e <;> simp only[okD] at ok
  | str _=>cases e <;> simp only[okD] at ok
noncomputable def zaM(K:ot):R2:=fun x y H Q=>∃ d e,Is K H d x/\Is K H e y/\dpD d<50/\okD d e/\Q (.bl (ltD d e)) H
theorem Ww(hu:X.A.units+100<cLine):OpR X (compareOp .Lt) (zaM X.K):=by
 intro pins s σ H x y v u Q I rx ry h
 obtain⟨d,e,hx,hy,hd,ok,q⟩:=h
 exact Qy I 50 X.A d e x y v u (by lia) hd ok hx hy rx ry X.prog X.w X.xe _ ⟨.bl _,H,I,rfl,q⟩
end
theorem Vr{K:ot}{x y:V}{H:Hp}{Q:VK}{d e:D}(h1:Is K H d x)(h2:Is K H e y)(h3:dpD d<50)(h4:okD d e)(q:Q (.bl (ltD d e)) H):zaM K x y H Q:=⟨d,e,h1,h2,h3,h4,q⟩
noncomputable def ltI:List Int->List Int->Bool
 | a::l,b::m=>if a=b then ltI l m else decide (a<b)
 | [],_::_=>true
 | _,[]=>false
theorem vw:∀(l m:List Int),jB (l.map D.int) (m.map D.int)
 | [],_=>by simp only[aN,jB]
 | _::_,[]=>by simp only[aN,ax,jB]
 | a::l,b::m=>by simp only[ax,jB,okD,true_and];exact vw l m
theorem kN:∀(l m:List Int),vV (l.map D.int) (m.map D.int)=ltI l m
 | [],[]=>by simp only[aN,vV,ltI]
 | [],_::_=>by simp only[aN,ax,vV,ltI]
 | _::_,[]=>by simp only[aN,ax,vV,ltI]
 | a::l,b::m=>by
  simp only[ax,vV,ltI,eqD,ltD,kN l m,beq_iff_eq]
end L3
namespace L3
mutual
noncomputable def xA:D->Prop
 | .lst _=>False
 | .tup l=>ya l
 | _=>True
noncomputable def ya:List D->Prop
 | []=>True
 | d::l=>xA d/\ya l
end
theorem Y4{K:ot}{H:Hp}{a p:Addr}{xs ys zs:List V}(hp:H p=some (.lst ys))(h:SqT K H a xs):SqT K (upd H p (.lst zs)) a xs:=by
 rcases h with (h | ⟨o,h⟩) | h
 ·refine .inl (.inl ?_)
  rw[zq (fun e=>by rw[e,hp] at h;cases h)]
  exact h
 ·refine .inl (.inr ⟨o,?_⟩)
  rw[zq (fun e=>by rw[e,hp] at h;cases h)]
  exact h
 ·exact .inr h
mutual
theorem Is.updL{K:ot}{H:Hp}{p:Addr}{ys zs:List V}(hp:H p=some (.lst ys)):∀(d:D) (v:V),xA d->Is K H d v->Is K (upd H p (.lst zs)) d v
 | .non,v,_,h=>by simp only[Is] at h ⊢;exact h
 | .bl b,v,_,h=>by simp only[Is] at h ⊢;exact h
 | .int b,v,_,h=>by simp only[Is] at h ⊢;exact h
 | .str b,v,_,h=>by simp only[Is] at h ⊢;exact h
 | .lst l,v,f,h=>by simp only[xA] at f
 | .tup l,v,f,h=>by
  simp only[Is] at h ⊢
  simp only[xA] at f
  obtain⟨a,xs,e1,e2,e3⟩:=h
  exact⟨a,xs,e1,Y4 hp e2,Iss.updL hp l xs f e3⟩
theorem Iss.updL{K:ot}{H:Hp}{p:Addr}{ys zs:List V}(hp:H p=some (.lst ys)):∀(l:List D) (vs:List V),ya l->Iss K H l vs->Iss K (upd H p (.lst zs)) l vs
 | [],vs,_,h=>by simp only[Iss] at h ⊢;exact h
 | d::l,vs,f,h=>by
  simp only[Iss] at h ⊢
  simp only[ya] at f
  obtain⟨v,r,e1,e2,e3⟩:=h
  exact⟨v,r,e1,Is.updL hp d v f.1 e2,Iss.updL hp l r f.2 e3⟩
end
theorem wv:∀{l:List D},(∀ d ∈ l,xA d)->ya l
 | [],_=>by simp only[ya]
 | d::l,h=>by simp only[ya];exact⟨h d (by simp),wv fun e he=>h e (by simp [he])⟩
theorem Wo{n:Nat}:∀{l:List D},(∀ d ∈ l,dpD d<=n)->v0 l<=n
 | [],_=>by simp only[v0];lia
 | d::l,h=>by
  have h1:=h d (by simp)
  have h2:=Wo (n:=n) (l:=l) fun e he=>h e (by simp [he])
  simp only[v0]
  lia
noncomputable def LsA(K:ot)(H:Hp)(a:Addr)(ds:List D):Prop:=∃ xs,H a=some (.lst xs)/\Iss K H ds xs
theorem LsA.same{K:ot}{H H':Hp}{a:Addr}{ds:List D}(h:LsA K H a ds)(e:Same H H'):LsA K H' a ds:=let ⟨xs,h1,h2⟩:=h; ⟨xs,e _ _ h1,Iss.same e _ _ h2⟩
theorem LsA.is{K:ot}{H:Hp}{a:Addr}{ds:List D}(h:LsA K H a ds):Is K H (.lst ds) (.ref a):=by
 obtain⟨xs,h1,h2⟩:=h
 simp only[Is]
 exact⟨a,xs,rfl,SqL.of h1,h2⟩
theorem LsA.nil{K:ot}{H:Hp}{a:Addr}:LsA K (upd H a (.lst [])) a []:=⟨[],ze,by simp only[Iss]⟩
theorem LsA.snoc{K:ot}{H:Hp}{a:Addr}{ds:List D}{d:D}{xs:List V}{v:V}(h1:H a=some (.lst xs))(h2:Iss K H ds xs)(f:ya ds)(fd:xA d)(hv:Is K H d v):LsA K (upd H a (.lst (xs ++ [v]))) a (ds ++ [d]) :=
 ⟨_,ze,Iss.append (Iss.updL h1 _ _ f h2) (by simp only[Iss];exact⟨v,[],rfl,Is.updL h1 _ _ fd hv,rfl⟩)⟩
theorem Is.tup{K:ot}{H:Hp}{p:Addr}{vs:List V}{ds:List D}(hp:H p=none)(h:Iss K H ds vs):Is K (upd H p (.tup vs)) (.tup ds) (.ref p):=by
 simp only[Is]
 exact⟨p,vs,rfl,SqT.of ze,Iss.same (zf hp) _ _ h⟩
noncomputable abbrev dS(l:List Nat):D:=.str (tx l)
noncomputable abbrev zB:=List Nat × List Nat
noncomputable def dR(r:zB):D:=.tup [dS r.1,dS r.2]
theorem KP{K:ot}{H:Hp}{r:zB}{v:V}(h:Is K H (dR r) v):∃ p,v=.ref p/\SqT K H p [.str (tx r.1),.str (tx r.2)]:=by
 simp only[dR,Is,Iss] at h
 obtain⟨a,xs,e,hs,v1,r1,rfl,rfl,v2,r2,rfl,rfl,rfl⟩:=h
 exact⟨a,e,hs⟩
theorem zbG{K:ot}{H:Hp}{p:Addr}{l m:List Nat}(h:SqT K H p [.str (tx l),.str (tx m)]):Is K H (dR (l,m)) (.ref p):=by
 simp only[dR,Is,Iss]
 exact⟨p,_,rfl,h,_,_,rfl,rfl,_,_,rfl,rfl,rfl⟩
theorem Js(r:zB):xA (dR r):=by simp only[dR,xA,ya,and_self]
theorem zbI(r:zB):dpD (dR r)<=1:=by simp only[dR,dpD,v0];lia
theorem YG(rs:List zB):ya (rs.map dR):=wv fun d h=>by obtain⟨r,_,rfl⟩:=List.mem_map.mp h;exact Js r
theorem Qv(rs:List zB):v0 (rs.map dR)<=1:=Wo fun d h=>by obtain⟨r,_,rfl⟩:=List.mem_map.mp h;exact zbI r
noncomputable abbrev N3:=Nat × Nat × Nat
noncomputable def d3(t:N3):D:=.tup [.int (t.1:Nat),.int (t.2.1:Nat),.int (t.2.2:Nat)]
theorem za1{K:ot}{H:Hp}{t:N3}{v:V}(h:Is K H (d3 t) v):∃ p,v=.ref p/\SqT K H p [.int (t.1:Nat),.int (t.2.1:Nat),.int (t.2.2:Nat)]:=by
 simp only[d3,Is,Iss] at h
 obtain⟨a,xs,e,hs,v1,r1,rfl,rfl,v2,r2,rfl,rfl,v3,r3,rfl,rfl,rfl⟩:=h
 exact⟨a,e,hs⟩
theorem Kk{K:ot}{H:Hp}{i j k:Nat}:Iss K H [.int (i:Nat),.int (j:Nat),.int (k:Nat)] [.int (i:Nat),.int (j:Nat),.int (k:Nat)]:=by
 simp only[Iss,Is]
 exact⟨_,_,rfl,rfl,_,_,rfl,rfl,_,_,rfl,rfl,rfl⟩
theorem JH(t:N3):xA (d3 t):=by simp only[d3,xA,ya,and_self]
theorem Yw(rs:List N3):ya (rs.map d3):=wv fun d h=>by obtain⟨r,_,rfl⟩:=List.mem_map.mp h;exact JH r
theorem Iss.get{K:ot}{H:Hp}{l:List D}{vs:List V}{j:Nat}{v:V}(h:Iss K H l vs)(q:vs[j]? = some v):∃ d,l[j]? = some d/\Is K H d v:=by
 have hj:=(List.getElem?_eq_some_iff.mp q).1
 have hl:=h.len
 have g1:l[j]? = some l[j]:=ak (by lia)
 obtain⟨x,hx,ix⟩:=h.at g1
 rw[q] at hx
 cases hx
 exact⟨_,g1,ix⟩
theorem Iss.getR{K:ot}{H:Hp}{rs:List zB}{vs:List V}{j:Nat}{v:V}(h:Iss K H (rs.map dR) vs)(q:vs[j]? = some v):∃ r p,rs[j]? = some r/\v=.ref p/\SqT K H p [.str (tx r.1),.str (tx r.2)]:=by
 obtain⟨d,e,i⟩:=h.get q
 rw[aE] at e
 obtain⟨r,hr,rfl⟩:=Option.map_eq_some_iff.mp e
 obtain⟨p,e1,e2⟩:=KP i
 exact⟨r,p,hr,e1,e2⟩
theorem Iss.get3{K:ot}{H:Hp}{rs:List N3}{vs:List V}{j:Nat}{v:V}(h:Iss K H (rs.map d3) vs)(q:vs[j]? = some v):∃ r p,rs[j]? = some r/\v=.ref p/\SqT K H p [.int (r.1:Nat),.int (r.2.1:Nat),.int (r.2.2:Nat)]:=by
 obtain⟨d,e,i⟩:=h.get q
 rw[aE] at e
 obtain⟨r,hr,rfl⟩:=Option.map_eq_some_iff.mp e
 obtain⟨p,e1,e2⟩:=za1 i
 exact⟨r,p,hr,e1,e2⟩
theorem zam{α:Type}(l:List α){a b:Int}(h0:0<=a)(h1:a<=b):cut l (some a) (some b)=(l.drop a.toNat).take (b - a).toNat:=by
 by_cases h2:b<=l.length
 ·exact ZO l h0 h1 h2
 ·obtain⟨m,rfl⟩:=bq h0
  obtain⟨n,rfl⟩:=bq (by lia:0<=b)
  unfold cut
  rw[HT.sIx_nat,HT.sIx_nat,dh (by lia:l.length<=n)]
  have e:(((n:Nat):Int) - ((m:Nat):Int)).toNat=n - m:=by lia
  have e2:((m:Nat):Int).toNat=m:=rfl
  rw[e,e2,bh (l:=l.drop m) (by rw[be];lia)]
  by_cases hm:m<=l.length
  ·rw[cN hm,bh (by rw[be];lia)]
  ·rw[dh (by lia),aX (aq _),aX (by lia),List.take_nil]
end L3
namespace L3
open Classical in
section
variable{X:Cx}{pins:List (Addr × Obj)}{σ:L2.St}{H:Hp}{s:Shared}
open Classical in
end
end L3
namespace L3
structure DM(P:Program)(w:World)(K:ot)(mg:Str->Option Value)(base:Heap)(CX:CXT)(k:Nat)(C:Addr)(m:Str)(ps:List Str)(sp:Sp):Prop where
 ex:∃ f fd,zax K C m f/\ye P w K mg base CX k f fd ps sp/\Binds K fd ps []
structure DMk(P:Program)(w:World)(K:ot)(mg:Str->Option Value)(base:Heap)(CX:CXT)(k:Nat)(C:Addr)(ps:List Str)(sp:Sp):Prop where
 ex:∃ f fd,Mk K C f/\ye P w K mg base CX k f fd ps sp/\Binds K fd ps []
section
variable{X:Cx}{k j:Nat}{C:Addr}{m:Str}{ps:List Str}{sp:Sp}{o e:Expr}{es:List Expr}{ta:TE}{t:TA}{apos pos p:Pos}{x:Str}{E:XK}
theorem me0(D:DM X.prog X.w X.K X.mg X.base CX0 k C m ps sp)(c:Cls X.K C)(hr:Room j X.A)(he:PE X o ta){pl:Sem Bool}(ht:eval (.Call (.Attribute o m apos) [] [] pos) X.env=(do
      let ov <- eval o X.env
      standAt apos.atName
      let (f,first) <- holding [ov] (getMethod ov m pl)
      callWith pos f first (backTo pos (oo [] X.env)) (backToKw pos (keywordEach [] X.env))):=by rfl) (hj:k<=j:=by decide):PE X (.Call (.Attribute o m apos) [] [] pos) (Zh C m sp [] E0 ta wq):=by
  obtain⟨f,fd,hm,F,hb⟩:=D.ex
  exact Ue he c hm F (hr.mono hj) hb .nil Z1 ht
theorem me1(D:DM X.prog X.w X.K X.mg X.base CX0 k C m ps sp)(c:Cls X.K C)(hr:Room j X.A)(he:PE X o ta)(ha:PA X (e::es) t){pl:Sem Bool}
    (hst:oo (e::es) X.env=(false,eval e X.env)::oo es X.env:=by rfl) (hpl:(backTo pos (oo es X.env)).any (·.1)=false:=by rfl)
    (ht:eval (.Call (.Attribute o m apos) (e::es) [] pos) X.env=(do
      let ov <- eval o X.env
      standAt apos.atName
      let (f,first) <- holding [ov] (getMethod ov m pl)
      callWith pos f first (backTo pos (oo (e::es) X.env)) (backToKw pos (keywordEach [] X.env))):=by rfl) (hj:k<=j:=by decide):PE X (.Call (.Attribute o m apos) (e::es) [] pos) (Zh C m sp [] E0 ta t):=by
  obtain⟨f,fd,hm,F,hb⟩:=D.ex
  exact Jb he c hm F (hr.mono hj) hb .nil Z1 ha hst hpl ht
theorem mkC(D:DMk X.prog X.w X.K X.mg X.base CX0 k C ps sp)(hr:Room j X.A)(hg:Gl X x)(hm:X.mg x=some (.ref C))(ha:PA X (e::es) t)(hdb:(x == ("__debug__" : Str))=false:=by decide)(he:oo (e::es) X.env=(false,eval e X.env)::oo es X.env:=by rfl)
  (hpl:(backTo pos (oo es X.env)).any (·.1)=false:=by rfl) (hj:k+1<=j:=by decide):PE X (.Call (.Name x p) (e::es) [] pos) (UR C sp [] E0 t):=by
 obtain⟨f,fd,M,F,hb⟩:=D.ex
 exact Vj M F (hr.mono hj) hg hm hb .nil Z1 ha hdb he hpl
end
end L3
namespace L3
section
variable{X:Cx}
end
section
variable{X:Cx}{k j:Nat}{C:Addr}{m:Str}{ps:List Str}{sp:Sp}{o e:Expr}{es:List Expr}{ta:TE}{t:TA}{apos pos p:Pos}
end
end L3
namespace L3
noncomputable def zw(Fam:Addr->Prop)(m:Str)(sp:Addr->Sp)(dvs:List V)(E:XK)(ta:TE)(t:TA):TE:=fun σ H Q=>ta σ H fun x H1=>∃ C a dx fs,Fam C/\x=.ref a/\H1 a=some (.ins C dx fs)/\fs.lookup m=none /\
 t σ H1 fun vs H2=>sp C (x::(vs ++ dvs)) H2 Q E
structure DMF(P:Program)(w:World)(K:ot)(mg:Str->Option Value)(base:Heap)(CX:CXT)(k:Nat)(Fam:Addr->Prop)(m:Str)(ps:List Str)(sp:Addr->Sp):Prop where
 ex:∀ C,Fam C->Cls K C/\DM P w K mg base CX k C m ps (sp C)
section
variable{X:Cx}{k j:Nat}{Fam:Addr->Prop}{m:Str}{ps:List Str}{sp:Addr->Sp}{o e:Expr}{es:List Expr}{ta:TE}{t:TA}{apos pos p:Pos}{x:Str}{E:XK}
theorem zcJ(D:DMF X.prog X.w X.K X.mg X.base CX0 k Fam m ps sp)(hr:Room j X.A)(he:PE X o ta){pl:Sem Bool}(ht:eval (.Call (.Attribute o m apos) [] [] pos) X.env=(do
      let ov <- eval o X.env
      standAt apos.atName
      let (f,first) <- holding [ov] (getMethod ov m pl)
      callWith pos f first (backTo pos (oo [] X.env)) (backToKw pos (keywordEach [] X.env))):=by rfl) (hj:k<=j:=by decide):PE X (.Call (.Attribute o m apos) [] [] pos) (zw Fam m sp [] E0 ta wq):=by
  intro pins s σ H Q I h
  refine bN (pl:=pl) (thn (he pins s σ H _ I h) fun u s1 ⟨x,H1,I1,rx,C,a,dx,fs,fam,ex,ea,l,q⟩=>?_) ht
  subst ex
  obtain rfl:u=Value.ref a:=rx
  obtain⟨c,⟨f,fd,hm,F,hb⟩⟩:=D.ex C fam
  refine xV I1 ea c hm l ?_
  exact eP (first:=[.ref a]) I1.kIn hm.kp (jl (us:=[.ref a]) (vs:=[.ref a]) F (hr.mono hj) hb .nil Z1 I1 (.cons rfl .nil) q)
theorem Kc(D:DMF X.prog X.w X.K X.mg X.base CX0 k Fam m ps sp)(hr:Room j X.A)(he:PE X o ta)(ha:PA X (e::es) t){pl:Sem Bool}
    (hst:oo (e::es) X.env=(false,eval e X.env)::oo es X.env:=by rfl) (hpl:(backTo pos (oo es X.env)).any (·.1)=false:=by rfl)
    (ht:eval (.Call (.Attribute o m apos) (e::es) [] pos) X.env=(do
      let ov <- eval o X.env
      standAt apos.atName
      let (f,first) <- holding [ov] (getMethod ov m pl)
      callWith pos f first (backTo pos (oo (e::es) X.env)) (backToKw pos (keywordEach [] X.env))):=by rfl) (hj:k<=j:=by decide):PE X (.Call (.Attribute o m apos) (e::es) [] pos) (zw Fam m sp [] E0 ta t):=by
  intro pins s σ H Q I h
  refine bN (pl:=pl) (thn (he pins s σ H _ I h) fun u s1 ⟨x,H1,I1,rx,C,a,dx,fs,fam,ex,ea,l,q⟩=>?_) ht
  subst ex
  obtain rfl:u=Value.ref a:=rx
  obtain⟨c,⟨f,fd,hm,F,hb⟩⟩:=D.ex C fam
  refine xV I1 ea c hm l ?_
  refine bC (first:=[.ref a]) (h₀:=X.base) I.ok.mod.kin hm.kp (thn (ha pos pins s1 σ H1 _ I1 q) fun us s2 ⟨vs,H2,I2,r,q2⟩=>⟨I2.kIn,?_⟩) hst hpl
  exact jl (us:=.ref a::us) (vs:=.ref a::vs) F (hr.mono hj) hb .nil Z1 I2 (.cons rfl r) q2
end
section
variable{X:Cx}
theorem YE:∀{ns:List Int} {its:List Value},Vals (ns.map V.int) its->IntsAre its ns
 | [],_,.nil=>.nil
 | n::ns,_,.cons r t=>by
  obtain⟨tk,rfl⟩:=r
  exact .cons n tk (YE t)
noncomputable def yw(K:ot):List V->Hp->VK->Prop:=fun xs H Q=>∃(p:Addr) (ns:List Int),xs=[.ref p]/\SqL K H p (ns.map V.int)/\Q (.int ns.sum) H
theorem Kq(hc:X.calm=true):vf X (.builtin "sum") (yw X.K):=by
 intro pins s σ H xs us Q I r h
 obtain⟨p,ns,rfl,hS,q⟩:=h
 obtain⟨u,rfl,ru⟩:=wf r
 cases ru
 obtain⟨its,rv,pl,hz⟩:=I.list hS
 have hh:X.A.handled=none:=I.ok.hd hc
 have ia:=YE rv
 obtain⟨ps,e⟩:=ia.allInts.items
 have en:ps.toList.map (·.1)=ns:=by
  rw[<- nums_intItems,<- e]
  exact ia.numsOf
 refine sum_intListG hh (by rw[<- e];exact pl.isList) fun h' tk t' hk=>?_
 rw[preSum_eq,bh (by simp),en]
 exact⟨.int ns.sum,H,I.kept hk,⟨_,rfl⟩,q⟩
end
end L3
namespace L3
theorem Xx(l:List Nat):((Builtin.Str.strSliceIndices none none (-1) (tx l).length).filterMap ((tx l).cps[·]?))=l.reverse:=by
 rw[zQ,picked_rev]
 have e:(tx l).cps=l.toArray:=rfl
 rw[e]
 apply List.ext_getElem?
 intro i
 have h:((aS l.length).map fun k=>l.length - 1 - k).filterMap (l.toArray[·]?)=(aS l.length).map fun k=>l.getD (l.length - 1 - k) 0:=by
  rw[filterMap_get,dq]
  ·refine cp fun k _=>?_
   show l.toArray.getD (l.length - 1 - k) 0=_
   simp [eM,List.getD]
   split <;> simp_all
  ·intro i hi
   obtain⟨k,hk,rfl⟩:=List.mem_map.mp hi
   have:=List.mem_range.mp hk
   show _<l.toArray.size
   rw[al]
   lia
 rw[h]
 by_cases hi:i<l.length
 ·rw[bj hi,aE,List.getElem?_range hi]
  show some (l.getD (l.length - 1 - i) 0)=_
  rw[ae,ak (by lia)]
  rfl
 ·rw[cB (by simp;lia),cB (by simp;lia)]
noncomputable def yy(te ts:TE):TE:=fun σ H Q=>te σ H fun x H1=>ts σ H1 fun y H2=>y=.int (-1)/\∃ l:List Nat,x=.str (tx l)/\l.length<=oq/\Q (.str (tx l.reverse)) H2
section
variable{X:Cx}{e st:Expr}{te ts:TE}{pos p2:Pos}
theorem JZ(he:PE X e te)(hs:PE X st ts):PE X (.Subscript e (.Slice none none (some st) p2) pos) (yy te ts):=by
 intro pins s σ H Q I h
 refine Subscript_ (thn (he pins s σ H _ I h) fun v s1 ⟨x,H1,I1,r1,q1⟩=>?_)
 refine wpAny_Slice ?_
 rw[evalPart_none]
 refine oj (oj ?_)
 rw[evalPart_some]
 refine thn (hs pins s1 σ H1 _ I1 q1) fun u s2 ⟨y,H2,I2,r2,ey,l,ex,hl,q2⟩=>?_
 subst ey ex
 obtain⟨t,rfl⟩:=r1
 obtain⟨tk,rfl⟩:=r2
 have I4:Inv X pins σ H2 { s2 with heap:=s2.heap.push { cls:=.type "slice",data:=.fields #[.none,.none,.int (-1) tk] } }:=I2.kept (t':=s2.toks) fun b ob q=>aa _ q
 show wpAny (model X.prog X.w) X.A (subscriptTail e (.Slice none none (some st) p2) (.str (tx l) t) (.ref s2.heap.objs.size)) (EP X pins σ Q) X.xe { s2 with heap:=s2.heap.push { cls:=.type "slice",data:=.fields #[.none,.none,.int (-1) tk] } }
 refine tail_any (ops:=[.ref s2.heap.objs.size,.str (tx l) t]) (typeIs_str _ (tx l) t) slot_str_getitem.lookup ?_ (by with_unfolding_all rfl)
 refine wpAny_getItem_str_slice (l:=none) (u:=none) (st:=some (-1,tk)) (Heap.IsSliceOf.new ..) rfl ?_
 unfold sliceMade slicePicked
 have hc':¬ (((some ((-1:Int),tk)).map (·.1)).getD 1 == 1 && (Builtin.Str.strSliceIndices ((none:Option (Int × Tok)).map (·.1)) ((none:Option (Int × Tok)).map (·.1)) (((some ((-1:Int),tk)).map (·.1)).getD 1) (tx l).length).length == (tx l).length)=true:=by
  have:(((some ((-1:Int),tk)).map (·.1)).getD 1 == 1)=false:=rfl
  rw[this]
  simp
 rw[if_neg hc']
 have e:Str.mk ((Builtin.Str.strSliceIndices none none (-1) (tx l).length).filterMap ((tx l).cps[·]?)).toArray=tx l.reverse:=by
  rw[Xx]
 show (Str.mk ((Builtin.Str.strSliceIndices none none (-1) (tx l).length).filterMap ((tx l).cps[·]?)).toArray).length<=oq/\_
 rw[e]
 refine⟨by rw[zQ,bW];exact hl,?_⟩
 exact⟨.str (tx l.reverse),H2,I4.tok _,⟨_,by
  show Value.str (Str.mk ((Builtin.Str.strSliceIndices none none (-1) (tx l).length).filterMap ((tx l).cps[·]?)).toArray) _=_
  rw[e]⟩,q2⟩
end
end L3
namespace L3
structure zcp(K:ot)(C:Addr)(m:Str)(f:Addr):Prop where
 sg:cf K (.ref C) "__getattribute__" = some (some (.builtin "type.__getattribute__"))
 rd:fg K C (.type "type")=true
 fc:fh K (.ref C) (.type "type") m=some (.val (.ref f))
 kp:ah K (.ref f)=true
structure DC(P:Program)(w:World)(K:ot)(mg:Str->Option Value)(base:Heap)(CX:CXT)(k:Nat)(C:Addr)(m:Str)(ps:List Str)(sp:Sp):Prop where
 ex:∃ f fd,zcp K C m f/\ye P w K mg base CX k f fd ps sp/\Binds K fd ps []
section
variable{X:Cx}{k j:Nat}{C:Addr}{m x:Str}{ps:List Str}{sp:Sp}{e:Expr}{es:List Expr}{t:TA}{apos pos p:Pos}
theorem JK(D:DC X.prog X.w X.K X.mg X.base CX0 k C m ps sp)(hr:Room j X.A)(hg:Gl X x)(hm:X.mg x=some (.ref C))(ha:PA X (e::es) t){pl:Sem Bool}(hdb:(x == ("__debug__" : Str))=false:=by decide)
    (hst:oo (e::es) X.env=(false,eval e X.env)::oo es X.env:=by rfl) (hpl:(backTo pos (oo es X.env)).any (·.1)=false:=by rfl)
    (ht:eval (.Call (.Attribute (.Name x p) m apos) (e::es) [] pos) X.env=(do
      let ov <- eval (.Name x p) X.env
      standAt apos.atName
      let (f,first) <- holding [ov] (getMethod ov m pl)
      callWith pos f first (backTo pos (oo (e::es) X.env)) (backToKw pos (keywordEach [] X.env))):=by rfl) (hj:k<=j:=by decide):PE X (.Call (.Attribute (.Name x p) m apos) (e::es) [] pos) (qv sp [] E0 t):=by
  obtain⟨f,fd,cm,F,hb⟩:=D.ex
  have hn:PE X (.Name x p) (tC (.ref C)):=yZ hg hm rfl hdb
  intro pins s σ H Q I h
  refine bN (pl:=pl) (thn (hn pins s σ H (fun y H1=>y=.ref C/\H1=H) I ⟨rfl,rfl⟩) fun u s1 ⟨y,H1,I1,ry,ey,eH⟩=>?_) ht
  subst ey eH
  obtain rfl:u=Value.ref C:=ry
  refine PySem.W.method_cls I1.kIn cm.sg (PySem.W.cls_value I1.kIn cm.rd cm.fc rfl ?_)
  refine bC (first:=[]) (h₀:=X.base) I.ok.mod.kin cm.kp (thn (ha pos pins _ σ H1 _ (I1.tok _) h) fun us s2 ⟨vs,H2,I2,r,q2⟩=>⟨I2.kIn,?_⟩) hst hpl
  exact jl (us:=us) (vs:=vs) F (hr.mono hj) hb .nil Z1 I2 r q2
noncomputable def zv:V->List V->Hp->VK->Prop:=fun x xs H Q=>∃(z y:Str) (i:Nat),x=.str z/\xs=[.str y]/\PySem.Txt.find z y=(i:Int)/\Q (.int (i:Nat)) H
theorem JI:MtR X "str.index" zv:=by
 intro pins s σ H x xs v us Q I rx rv h
 obtain⟨z,y,i,rfl,rfl,hf,q⟩:=h
 obtain⟨t,rfl⟩:=rx
 obtain⟨u,rfl,t',rfl⟩:=wf rv
 unfold PySem.Txt.find at hf
 cases ho:Builtin.Str.occurrences z y 0 z.length 1 with
 | nil=>rw[ho] at hf;dsimp only at hf;lia
 | cons a r =>
  rw[ho] at hf
  have:a=i:=by dsimp only at hf;lia
  subst this
  exact PySem.SC.index ho ⟨.int _,H,I.tok _,⟨_,rfl⟩,q⟩
end
end L3
namespace L3
section
variable{prog:Program}{w:World}{A:Around}{E:Value->Shared->Prop}{s:Shared}
theorem wP{h h':Heap}{a:Addr}{ty:String}{x:Str}{t:Tok}{i:Nat}(y:h.IsStrIter a ty x t i)(e:∀ o,h.get? a=some o->h'.get? a=some o):h'.IsStrIter a ty x t i:=let ⟨o,ho,r⟩:=y; ⟨o,e o ho,r⟩
theorem vn{h h':Heap}{a t:Addr}{i:Nat}(y:h.IsTupleIter a t i)(e:∀ o,h.get? a=some o->h'.get? a=some o):h'.IsTupleIter a t i:=let ⟨o,ho,r⟩:=y; ⟨o,e o ho,r⟩
theorem Qd{h h':Heap}{a:Addr}{xs:Array Value}(y:h.IsTuple a xs)(e:∀ o,h.get? a=some o->h'.get? a=some o):h'.IsTuple a xs:=let ⟨o,ho,r⟩:=y; ⟨o,e o ho,r⟩
theorem sit(x:Str):strIterType x="str_ascii_iterator"\/strIterType x="str_iterator":=by
 unfold strIterType
 split
 ·exact .inl rfl
 ·exact .inr rfl
theorem qE{it:Addr}{x:Str}{t:Tok}{i c:Nat}{Q:Value->Shared->Prop}(hit:s.heap.IsStrIter it (strIterType x) x t i)(hx:x.cps[i]? = some c)
  (hQ:∀ h',h'.IsStrIter it (strIterType x) x t (i+1)->Heap.SameBut it s.heap h'->Q (.str ⟨#[c]⟩ s.toks) { s with heap:=h',toks:=s.toks+1 }) :
  wpAny (model prog w) A (Builtin.SmallTypes.nextOf (.ref it)) Q E s:=by
 rcases sit x with e | e
 ·rw[e] at hit hQ
  exact wpAny_nextOf_ascii_item hit hx hQ
 ·rw[e] at hit hQ
  exact wpAny_nextOf_wide_item hit hx hQ
theorem jc{it:Addr}{x:Str}{t:Tok}{i:Nat}{Q:Value->Shared->Prop}(hh:A.handled=none)(hit:s.heap.IsStrIter it (strIterType x) x t i)(hx:x.cps[i]? = none)
  (hE:∀ h' e,Heap.ExtBut it s.heap h'->(∃ o,h'.get? e=some o/\o.cls=.type "StopIteration")->E (.ref e) { s with heap:=h' }) :
  wpAny (model prog w) A (Builtin.SmallTypes.nextOf (.ref it)) Q E s:=by
 rcases sit x with e | e
 ·rw[e] at hit
  exact wpAny_nextOf_ascii_end hh hit hx hE
 ·rw[e] at hit
  exact wpAny_nextOf_wide_end hh hit hx hE
theorem qx{it t:Addr}{i:Nat}{items:Array Value}{x:Value}{Q:Value->Shared->Prop}(hit:s.heap.IsTupleIter it t i)(ht:s.heap.IsTuple t items)(hx:items[i]? = some x)
  (hQ:∀ h',h'.IsTupleIter it t (i+1)->Heap.SameBut it s.heap h'->Q x { s with heap:=h' }) :
  wpAny (model prog w) A (Builtin.SmallTypes.nextOf (.ref it)) Q E s:=by
 obtain⟨o,ho,hc,hd⟩:=id hit
 obtain⟨ol,hol,_,nl,hdl⟩:=ht
 unfold Builtin.SmallTypes.nextOf
 refine oh (wpAny_callSpecial?_slot (name:=bv "__next__") hit.typeIs F.slot_tuple_iterator_next
  (wpAny_call_entry F.slot_tuple_iterator_next hit.typeIs F.entry_tuple_iterator_next ?_ (F.args_tuple_iterator_next_1 _)))
 show wpAny _ _ (field (.ref it) 0 >>= _) _ _ s
 refine oh (wpAny_field ho hd (x:=.ref t) rfl ?_)
 show wpAny _ _ (if (Value.ref t == Value.none)=true then _ else _) _ _ s
 rw[if_neg (show ¬ ((Value.ref t == Value.none)=true) from aC)]
 show wpAny _ _ (field (.ref it) 1 >>= _) _ _ s
 refine oh (wpAny_field ho hd (x:=.int i 0) rfl ?_)
 show wpAny _ _ (seqItems? (.ref t) >>= _) _ _ s
 refine oh (wpAny_seqItems hol hdl ?_)
 simp only[aW,hx]
 refine oh (wpAny_setField ho hd (by simp) (oj ⟨x,rfl,oj (hQ _ ?_ (Heap.SameBut.update ..))⟩))
 exact⟨_,bO _ ho (Obj.isFreed_of_fields (Obj.data_mapFields hd _)),(Obj.cls_mapFields ..).trans hc,by
  rw[Obj.data_mapFields hd];simp [rawInt]⟩
structure KY(z TI TO i1 i2 l2:Addr):Prop extends Ql z TI TO i1 i2 where
 l2z:l2≠z
 l2TO:l2≠TO
 l2i1:l2≠i1
 l2i2:l2≠i2
theorem U2{z TI TO i1 i2 l2:Addr}{k c:Nat}{X:Str}{tx:Tok}{ys:Array Value}{y a b:Value}{Q:Value->Shared->Prop}(D:KY z TI TO i1 i2 l2)
  (hz:IsZip s.heap z TI TO .none) (hTI:IsPair s.heap TI (.ref i1) (.ref i2)) (hTO:IsPair s.heap TO a b)
  (h1:s.heap.IsStrIter i1 (strIterType X) X tx k) (h2:s.heap.IsTupleIter i2 l2 k) (hl2:s.heap.IsTuple l2 ys) (hx:X.cps[k]? = some c) (hy:ys[k]? = some y)
  (hQ:∀ h' t',IsZip h' z TI TO (rawInt s.heap.objs.size)->IsPair h' TO (.str ⟨#[c]⟩ t') y->h'.IsStrIter i1 (strIterType X) X tx (k+1)->h'.IsTupleIter i2 l2 (k+1)->IsPair h' s.heap.objs.size (.str ⟨#[c]⟩ t') y->h'.objs.size=s.heap.objs.size+1 ->
   (∀ c o,c≠z->c≠TO->c≠i1->c≠i2->s.heap.get? c=some o->h'.get? c=some o)->Q (.ref s.heap.objs.size) { s with heap:=h',toks:=s.toks+1 }) :
  wpAny (model prog w) A (Builtin.«zip.__next__» ⟨[.ref z],[]⟩) (fun fin s'=>∃ v,fin=.done (.ret v)/\Q v s') E s:=by
 show wpAny _ _ (field (.ref z) 2 >>= _) _ _ _
 refine oh (wpAny_field hz rfl (x:=.bool false) rfl ?_)
 show wpAny _ _ (field (.ref z) 3 >>= _) _ _ _
 refine oh (wpAny_field hz rfl (x:=.ref TI) rfl ?_)
 refine oh (wpAny_seqItems hTI rfl ?_)
 show wpAny _ _ (Builtin.SmallTypes.ownedTupleIsFree (.ref z) >>= _) _ _ _
 refine oh ?_
 unfold Builtin.SmallTypes.ownedTupleIsFree
 refine oh (wpAny_field hz rfl (x:=.none) rfl (oj ?_))
 simp only[if_true]
 refine oh (wpAny_rule ?_)
 refine oh (wpAny_field hz rfl (x:=.ref TO) rfl ?_)
 refine oh (wpAny_setField_rec hz (by simp) fun h₁ hz₁ hs₁=>?_)
 replace hz₁:IsZip h₁ z TI TO .ellipsis:=hz₁
 refine oh ?_
 simp only[List.zipIdx_cons,List.zipIdx_nil,cL,eF]
 refine oh (oh (wpAny_onRaise ?_))
 show wpAny _ _ (Builtin.SmallTypes.nextOf (.ref i1) >>= _) _ _ _
 refine oh (qE (s:={ s with heap:=h₁ }) (wP h1 fun o e=>hs₁.extBut _ _ D.i1z e) hx fun h₂ h1₂ hs₂=>oj ?_)
 have hTO₂:IsPair h₂ TO a b:=hs₂.extBut _ _ D.TOi1 (hs₁.extBut _ _ D.TOz hTO)
 refine oh (wpAny_seqItems hTO₂ rfl ?_)
 refine oh (wpAny_updateSeq_pair hTO₂ fun h₃ hTO₃ hs₃=>?_)
 replace hTO₃:IsPair h₃ TO (.str ⟨#[c]⟩ s.toks) b:=hTO₃
 refine oh (wpAny_letGo (oj ?_))
 refine oh (oh (wpAny_onRaise ?_))
 show wpAny _ _ (Builtin.SmallTypes.nextOf (.ref i2) >>= _) _ _ _
 have up3:∀ d o,d≠z->d≠i1->d≠TO->s.heap.get? d=some o->h₃.get? d=some o:=fun d o d1 d2 d3 e=>hs₃.extBut _ _ d3 (hs₂.extBut _ _ d2 (hs₁.extBut _ _ d1 e))
 refine oh (qx (vn h2 fun o e=>up3 _ o D.i2z D.i12.symm D.TOi2.symm e) (Qd hl2 fun o e=>up3 _ o D.l2z D.l2i1 D.l2TO e) hy fun h₄ h2₄ hs₄=>oj ?_)
 have hTO₄:IsPair h₄ TO (.str ⟨#[c]⟩ s.toks) b:=hs₄.extBut _ _ D.TOi2 hTO₃
 refine oh (wpAny_seqItems hTO₄ rfl ?_)
 refine oh (wpAny_updateSeq_pair hTO₄ fun h₅ hTO₅ hs₅=>?_)
 replace hTO₅:IsPair h₅ TO (.str ⟨#[c]⟩ s.toks) y:=hTO₅
 refine oh (wpAny_letGo (oj (oj ?_)))
 refine oh (wpAny_seqItems hTO₅ rfl ?_)
 refine oh (wpAny_newTuple ?_)
 have hsz:h₅.objs.size=s.heap.objs.size:=by rw[hs₅.1,hs₄.1,hs₃.1,hs₂.1,hs₁.1]
 have hz₅:IsZip h₅ z TI TO .ellipsis:=hs₅.extBut _ _ D.TOz.symm (hs₄.extBut _ _ D.i2z.symm (hs₃.extBut _ _ D.TOz.symm (hs₂.extBut _ _ D.i1z.symm hz₁)))
 have hk₅:∀ c o,c≠z->c≠TO->c≠i1->c≠i2->s.heap.get? c=some o->h₅.get? c=some o:=fun c o c1 c2 c3 c4 e =>
  hs₅.extBut _ _ c2 (hs₄.extBut _ _ c4 (up3 _ _ c1 c3 c2 e))
 have h1₅:h₅.IsStrIter i1 (strIterType X) X tx (k+1):=wP h1₂ fun o e=>hs₅.extBut _ _ D.TOi1.symm (hs₄.extBut _ _ D.i12 (hs₃.extBut _ _ D.TOi1.symm e))
 have h2₅:h₅.IsTupleIter i2 l2 (k+1):=vn h2₄ fun o e=>hs₅.extBut _ _ D.TOi2.symm e
 have hzlt:z<h₅.objs.size:=av hz₅
 show wpAny _ _ (Builtin.SmallTypes.ownedTupleHandOut (.ref z) (.ref h₅.objs.size) >>= _) _ _ _
 refine oh ?_
 unfold Builtin.SmallTypes.ownedTupleHandOut
 have hz₆:IsZip (h₅.push { cls:=.type "tuple",data:=.seq #[.str ⟨#[c]⟩ s.toks,y] }) z TI TO .ellipsis:=aa _ hz₅
 refine oh (wpAny_setField_rec hz₆ (by simp) fun h₇ hz₇ hs₇=>?_)
 replace hz₇:IsZip h₇ z TI TO (rawInt h₅.objs.size):=hz₇
 refine wpAny_setField_rec hz₇ (by simp) fun h₈ hz₈ hs₈=>?_
 replace hz₈:IsZip h₈ z TI TO (rawInt h₅.objs.size):=hz₈
 have up:∀ c o,c≠z->h₅.get? c=some o->h₈.get? c=some o:=fun c o c1 e=>hs₈.extBut _ _ c1 (hs₇.extBut _ _ c1 (aa _ e))
 have hT₈:IsPair h₈ h₅.objs.size (.str ⟨#[c]⟩ s.toks) y:=hs₈.extBut _ _ (bR hzlt) (hs₇.extBut _ _ (bR hzlt) (aF _ rfl))
 have hz8:h₈.objs.size=h₅.objs.size+1:=by rw[hs₈.1,hs₇.1,bw]
 rw[hsz] at hz₈ hT₈ hz8
 refine oj ⟨_,rfl,?_⟩
 show Q (.ref h₅.objs.size) _
 rw[hsz]
 exact hQ h₈ s.toks hz₈ (up _ _ D.TOz hTO₅) (wP h1₅ fun o e=>up _ o D.i1z e) (vn h2₅ fun o e=>up _ o D.i2z e) hT₈ hz8 fun c o c1 c2 c3 c4 e=>up c o c1 (hk₅ c o c1 c2 c3 c4 e)
theorem JR{z TI TO i1 i2 l2:Addr}{k:Nat}{X:Str}{tx:Tok}{a b:Value}{Q:Fin->Shared->Prop}(hh:A.handled=none)(D:KY z TI TO i1 i2 l2)
  (hz:IsZip s.heap z TI TO .none) (hTI:IsPair s.heap TI (.ref i1) (.ref i2)) (hTO:IsPair s.heap TO a b)
  (h1:s.heap.IsStrIter i1 (strIterType X) X tx k) (hx:X.cps[k]? = none)
  (hE:∀ h' e,(∀ c o,c≠z->c≠TO->c≠i1->c≠i2->s.heap.get? c=some o->h'.get? c=some o)->(∃ o,h'.get? e=some o/\o.cls=.type "StopIteration")->E (.ref e) { s with heap:=h' }) :
  wpAny (model prog w) A (Builtin.«zip.__next__» ⟨[.ref z],[]⟩) Q E s:=by
 show wpAny _ _ (field (.ref z) 2 >>= _) _ _ _
 refine oh (wpAny_field hz rfl (x:=.bool false) rfl ?_)
 show wpAny _ _ (field (.ref z) 3 >>= _) _ _ _
 refine oh (wpAny_field hz rfl (x:=.ref TI) rfl ?_)
 refine oh (wpAny_seqItems hTI rfl ?_)
 show wpAny _ _ (Builtin.SmallTypes.ownedTupleIsFree (.ref z) >>= _) _ _ _
 refine oh ?_
 unfold Builtin.SmallTypes.ownedTupleIsFree
 refine oh (wpAny_field hz rfl (x:=.none) rfl (oj ?_))
 simp only[if_true]
 refine oh (wpAny_rule ?_)
 refine oh (wpAny_field hz rfl (x:=.ref TO) rfl ?_)
 refine oh (wpAny_setField_rec hz (by simp) fun h₁ hz₁ hs₁=>?_)
 replace hz₁:IsZip h₁ z TI TO .ellipsis:=hz₁
 refine oh ?_
 simp only[List.zipIdx_cons,List.zipIdx_nil,cL,eF]
 refine oh (oh (wpAny_onRaise ?_))
 show wpAny _ _ (Builtin.SmallTypes.nextOf (.ref i1) >>= _) _ _ _
 refine oh (jc (s:={ s with heap:=h₁ }) hh (wP h1 fun o e=>hs₁.extBut _ _ D.i1z e) hx fun h₂ e hs₂ he=>?_)
 obtain⟨oe,hoe,hce⟩:=he
 have hz₂:IsZip h₂ z TI TO .ellipsis:=hs₂ _ _ D.i1z.symm hz₁
 have hez:e≠z:=fun x=>by subst x;rw[hz₂] at hoe;cases hoe;simp at hce
 refine wpAny_setField_rec hz₂ (by simp) fun h₃ _ hs₃=>hE h₃ e (fun c o c1 _ c3 _ x=>hs₃.extBut _ _ c1 (hs₂ _ _ c3 (hs₁.extBut _ _ c1 x))) ⟨oe,hs₃.extBut _ _ hez hoe,hce⟩
end
end L3
namespace L3
section
variable{prog:Program}{w:World}{A:Around}{E:Value->Shared->Prop}{s:Shared}
theorem qD{z TI TO i1 i2 l2:Addr}{k c:Nat}{X:Str}{tx:Tok}{ys:Array Value}{y a b:Value}{Q:Option Value->Shared->Prop}(D:KY z TI TO i1 i2 l2)
  (hz:IsZip s.heap z TI TO .none) (hTI:IsPair s.heap TI (.ref i1) (.ref i2)) (hTO:IsPair s.heap TO a b)
  (h1:s.heap.IsStrIter i1 (strIterType X) X tx k) (h2:s.heap.IsTupleIter i2 l2 k) (hl2:s.heap.IsTuple l2 ys) (hx:X.cps[k]? = some c) (hy:ys[k]? = some y)
  (hQ:∀ h' t',IsZip h' z TI TO (rawInt s.heap.objs.size)->IsPair h' TO (.str ⟨#[c]⟩ t') y->h'.IsStrIter i1 (strIterType X) X tx (k+1)->h'.IsTupleIter i2 l2 (k+1)->IsPair h' s.heap.objs.size (.str ⟨#[c]⟩ t') y->h'.objs.size=s.heap.objs.size+1 ->
   (∀ c o,c≠z->c≠TO->c≠i1->c≠i2->s.heap.get? c=some o->h'.get? c=some o)->Q (some (.ref s.heap.objs.size)) { s with heap:=h',toks:=s.toks+1 }) :
  wpAny (model prog w) A (pyNext (.ref z)) Q E s:=by
 have hT:s.TypeIs (.ref z) "zip":=⟨_,hz,rfl⟩
 unfold pyNext
 exact oh (wpAny_attempt (wpAny_callSpecial?_slot (name:=bv "__next__") hT F.slot_zip_next
  (wpAny_call_entry F.slot_zip_next hT F.entry_zip_next
   (U2 D hz hTI hTO h1 h2 hl2 hx hy fun h' t' a1 a2 a3 a4 a5 a6 a7=>oj (hQ h' t' a1 a2 a3 a4 a5 a6 a7)) (F.args_zip_next_1 _))))
theorem qY{z TI TO i1 i2 l2:Addr}{k:Nat}{X:Str}{tx:Tok}{a b:Value}{Q:Option Value->Shared->Prop}(hh:A.handled=none)(D:KY z TI TO i1 i2 l2)
  (hz:IsZip s.heap z TI TO .none) (hTI:IsPair s.heap TI (.ref i1) (.ref i2)) (hTO:IsPair s.heap TO a b)
  (h1:s.heap.IsStrIter i1 (strIterType X) X tx k) (hx:X.cps[k]? = none)
  (hQ:∀ h',(∀ c o,c≠z->c≠TO->c≠i1->c≠i2->s.heap.get? c=some o->h'.get? c=some o)->Q none { s with heap:=h' }):wpAny (model prog w) A (pyNext (.ref z)) Q E s:=by
 have hT:s.TypeIs (.ref z) "zip":=⟨_,hz,rfl⟩
 unfold pyNext
 refine oh (wpAny_attempt (wpAny_callSpecial?_slot (name:=bv "__next__") hT F.slot_zip_next
  (wpAny_call_entry F.slot_zip_next hT F.entry_zip_next (JR hh D hz hTI hTO h1 hx fun h' e hk he=>?_) (F.args_zip_next_1 _))))
 obtain⟨o,ho,hc⟩:=he
 refine oh (wpAny_isInstance (T:="StopIteration") (b:=true) ⟨o,ho,hc⟩ isSubtype_stop ?_)
 exact oj (hQ _ hk)
end
noncomputable abbrev zaE(h:Heap)(x:Str)(t:Tok):Heap:=h.push { cls:=.type (strIterType x),data:=.fields #[.str x t,.int 0 0] }
noncomputable abbrev zaL(h:Heap)(x:Str)(t:Tok)(l2:Addr):Heap:=(zaE h x t).push { cls:=.type "tuple_iterator",data:=.fields #[.ref l2,.int 0 0] }
noncomputable abbrev zaJ(h:Heap)(x:Str)(t:Tok)(l2:Addr):Heap:=(zaL h x t l2).push { cls:=.type "tuple",data:=.seq #[.ref h.objs.size,.ref (zaE h x t).objs.size] }
noncomputable abbrev zaH(h:Heap)(x:Str)(t:Tok)(l2:Addr):Heap:=(zaJ h x t l2).push { cls:=.type "tuple",data:=.seq #[.none,.none] }
noncomputable abbrev JY(h:Heap)(x:Str)(t:Tok)(l2:Addr):Heap:=(zaH h x t l2).push { cls:=.type "zip",data:=.fields #[.none,.bool false,.bool false,.ref (zaL h x t l2).objs.size,.ref (zaJ h x t l2).objs.size] }
theorem j4(x:Str)(t:Tok)(l2:Addr)(ys:Array Value) :
  Meets (Builtin.«zip.__new__» ⟨[.type "zip",.str x t,.ref l2],[]⟩) (fun _ R s=>s.heap.IsTuple l2 ys /\
   R (.ok (.ret (.ref (zaH s.heap x t l2).objs.size))) { s with heap:=JY s.heap x t l2 }) :=
 .of_wp fun prog w A R s h=>by
  obtain⟨hp,g,d,tk,os⟩:=s;obtain⟨hl2,h⟩:=h
  have hsub:=sub_zip
  have hL2:Heap.IsTuple (Shared.heap ⟨hp.push { cls:=.type (strIterType x),data:=.fields #[.str x t,.int 0 0] },g,d,tk,os⟩) l2 ys:=Qd hl2 fun o e=>aa _ e
  wp_walk using wpAny_pyIter_strU (s:=⟨hp,g,d,tk,os⟩) (x:=x) (t:=t),wpAny_pyIter_tuple hL2
  exact⟨_,rfl,h⟩
section
variable{prog:Program}{w:World}{A:Around}{E:Value->Shared->Prop}{s:Shared}
theorem UD{x:Str}{t:Tok}{l2:Addr}{ys:Array Value}{Q:Value->Shared->Prop}(hl2:s.heap.IsTuple l2 ys)
  (h:∀ h',IsZip h' (s.heap.objs.size+4) (s.heap.objs.size+2) (s.heap.objs.size+3) .none->IsPair h' (s.heap.objs.size+2) (.ref s.heap.objs.size) (.ref (s.heap.objs.size+1)) ->
   IsPair h' (s.heap.objs.size+3) .none .none->h'.IsStrIter s.heap.objs.size (strIterType x) x t 0->h'.IsTupleIter (s.heap.objs.size+1) l2 0->h'.objs.size=s.heap.objs.size+5 ->
   (∀ c o,s.heap.get? c=some o->h'.get? c=some o)->Q (.ref (s.heap.objs.size+4)) { s with heap:=h' }) :
  wpAny (model prog w) A (call (.type "zip") [.str x t,.ref l2]) Q E s:=by
 refine callType_new F.called_zip (by decide) (F.typeCall_zip_2 _ _) (F.newCall_zip_2 _ _) (fun obj=>F.args_object_init_3 obj _ _) F.entry_zip_new
  (j4 x t l2 ys) ⟨hl2,?_⟩
 have z1:(zaE s.heap x t).objs.size=s.heap.objs.size+1:=bw ..
 have z2:(zaL s.heap x t l2).objs.size=s.heap.objs.size+2:=by rw[bw,z1]
 have z3:(zaJ s.heap x t l2).objs.size=s.heap.objs.size+3:=by rw[bw,z2]
 have z4:(zaH s.heap x t l2).objs.size=s.heap.objs.size+4:=by rw[bw,z3]
 have z5:(JY s.heap x t l2).objs.size=s.heap.objs.size+5:=by rw[bw,z4]
 have g5:(JY s.heap x t l2).get? (zaH s.heap x t l2).objs.size=some _:=aF _ rfl
 have g4:(JY s.heap x t l2).get? (zaJ s.heap x t l2).objs.size=some _:=aa _ (aF _ rfl)
 have g3:(JY s.heap x t l2).get? (zaL s.heap x t l2).objs.size=some _:=aa _ (aa _ (aF _ rfl))
 have g2:(JY s.heap x t l2).get? (zaE s.heap x t).objs.size=some _:=aa _ (aa _ (aa _ (aF _ rfl)))
 have g1:(JY s.heap x t l2).get? s.heap.objs.size=some _:=aa _ (aa _ (aa _ (aa _ (aF _ rfl))))
 show _/\_
 rw[z2,z3,z4] at g5
 rw[z1,z2] at g3
 rw[z3] at g4
 rw[z1] at g2
 rw[z4]
 exact⟨⟨_,g5,rfl⟩,h _ g5 g3 g4 ⟨_,g1,rfl,rfl⟩ ⟨_,g2,rfl,rfl⟩ z5 fun c o x =>
  aa _ (aa _ (aa _ (aa _ (aa _ x))))⟩
end
end L3
namespace L3
noncomputable def Izs(K:ot)(l:List Nat)(b:Addr):It:=⟨fun i H=>∃ ys y,SqT K H b ys/\i<l.length/\ys[i]? = some y,fun i H v H'=>∃ p c y,H p=none/\l[i]? = some c/\(∀ ys,SqT K H b ys->ys[i]? = some y)/\v=.ref p/\H'=upd H p (.tup [.str (tx [c]),y]),fun i H=>i=l.length⟩
noncomputable def ZSt(z TI TO i1 i2:Addr)(X:Str)(t:Tok)(l2:Addr)(i:Nat)(h:Heap):Prop:=IsZip h z TI TO .none/\IsPair h TI (.ref i1) (.ref i2)/\(∃ a b,IsPair h TO a b)/\h.IsStrIter i1 (strIterType X) X t i/\h.IsTupleIter i2 l2 i
theorem UM{P:Program}{w:World}{K:ot}{elts:List Expr}{x1:Nat}{tpos:Pos}(z TI TO i1 i2 l2:Addr)(l:List Nat)(t:Tok)(D:KY z TI TO i1 i2 l2) :
  Us P w K (.Tuple elts x1 tpos) (Izs K l l2) [z,TI,TO,i1,i2] z (fun i h=>ZSt z TI TO i1 i2 (tx l) t l2 i h) where
 mem:=by simp
 obj:=fun i h st b hb=>by
  obtain⟨hz,hTI,⟨a,c,hTO⟩,⟨o1,e1,c1,d1⟩,⟨o2,e2,c2,d2⟩⟩:=st
  simp only[df,d4,or_false] at hb
  rcases hb with rfl | rfl | rfl | rfl | rfl
  ·exact⟨_,hz,fun v q=>by have q':Data.fields _=Data.cell v:=q;cases q'⟩
  ·exact⟨_,hTI,fun v q=>by have q':Data.seq _ _=Data.cell v:=q;cases q'⟩
  ·exact⟨_,hTO,fun v q=>by have q':Data.seq _ _=Data.cell v:=q;cases q'⟩
  ·exact⟨o1,e1,fun v q=>by rw[d1] at q;cases q⟩
  ·exact⟨o2,e2,fun v q=>by rw[d2] at q;cases q⟩
 keep:=fun i h h' st k=>by
  obtain⟨hz,hTI,⟨a,c,hTO⟩,h1,h2⟩:=st
  exact⟨k z (by simp) _ hz,k TI (by simp) _ hTI,⟨a,c,k TO (by simp) _ hTO⟩,wP h1 fun o e=>k i1 (by simp) o e,vn h2 fun o e=>k i2 (by simp) o e⟩
 item:=by
  intro X hP hw hK hc i pins s σ H E I hf st hg
  subst hP hw hK
  obtain⟨ys,y,hqy,hi,hy⟩:=hg
  obtain⟨its2,rv2,p2,_⟩:=I.tuple hqy
  obtain⟨u2,hu2,ru2⟩:=rv2.get hy
  obtain⟨hz,hTI,⟨a,b,hTO⟩,h1,h2⟩:=st
  have hl2:s.heap.IsTuple l2 its2.toArray:=p2
  have hx:(tx l).cps[i]? = some l[i]:=by
   show l.toArray[i]? = _
   simp [hi]
  refine qD D hz hTI hTO h1 h2 hl2 hx (y:=u2) (by simpa using hu2) fun h' t' a1 a2 a3 a4 a5 a6 hk=>?_
  refine⟨_,rfl,wpAny_letOwnedTupleGo_zip (s:={ s with heap:=h',toks:=s.toks+1 }) a1 fun h2' hz2 sb=>?_⟩
  have zlt:z<s.heap.objs.size:=av hz
  have TIlt:TI<s.heap.objs.size:=av hTI
  have TOlt:TO<s.heap.objs.size:=av hTO
  have i1lt:i1<s.heap.objs.size:=by obtain⟨o,e,_⟩:=h1;exact av e
  have i2lt:i2<s.heap.objs.size:=by obtain⟨o,e,_⟩:=h2;exact av e
  have I1:Inv X pins σ H { s with heap:=h2',toks:=s.toks+1 }:=Inv.turns (fp:=[z,TI,TO,i1,i2]) I (fun b o hb q=>by
   have hb':b≠z/\b≠TI/\b≠TO/\b≠i1/\b≠i2:=by simpa using hb
   exact (sb.2 b hb'.1).trans (hk b o hb'.1 hb'.2.2.1 hb'.2.2.2.1 hb'.2.2.2.2 q)) hf
  have hp:H s.heap.objs.size=none:=I.hok.fresh (aq _)
  have hT2:h2'.get? s.heap.objs.size=some { cls:=.type "tuple",data:=.seq #[.str ⟨#[l[i]]⟩ t',u2] }:=(sb.2 _ (bR zlt)).trans a5
  have ru1:RelV (.str (tx [l[i]])) (.str ⟨#[l[i]]⟩ t'):=⟨t',rfl⟩
  have I2:Inv X pins σ (upd H s.heap.objs.size (.tup [.str (tx [l[i]]),y])) { s with heap:=h2',toks:=s.toks+1 } :=
   Inv.track I1 (I.fpOk (aq _) hp) ⟨by show 2<=oq;decide,[.str ⟨#[l[i]]⟩ t',u2],.cons ru1 (.cons ru2 .nil),⟨_,hT2,rfl,_,rfl⟩⟩
  refine⟨.ref s.heap.objs.size,_,I2,rfl,⟨s.heap.objs.size,l[i],y,hp,by simp [hi],fun zs hz'=>by rw[I.tuple_inj hz' hqy];exact hy,rfl,rfl⟩,⟨hz2,(sb.2 _ D.TIz).trans (hk _ _ D.TIz D.TITO D.TIi1 D.TIi2 hTI),⟨_,_,(sb.2 _ D.TOz).trans a2⟩,wP a3 fun o e=>(sb.2 _ D.i1z).trans e,vn a4 fun o e=>(sb.2 _ D.i2z).trans e⟩,fun b hb=>?_⟩
  rw[zq]
  ·exact (hf b hb).1
  ·simp only[df,d4,or_false] at hb
   rcases hb with rfl | rfl | rfl | rfl | rfl <;> exact aA (by assumption)
 done:=by
  intro X hP hw hK hc i pins s σ H E I hf st hg
  subst hP hw hK
  have hi:i=l.length:=hg
  obtain⟨hz,hTI,⟨a,b,hTO⟩,h1,h2⟩:=st
  refine qY (I.ok.hd hc) D hz hTI hTO h1 ?_ fun h' hk=>⟨rfl,?_⟩
  ·show l.toArray[i]? = none
   simp [hi]
  ·exact Inv.turns (fp:=[z,TI,TO,i1,i2]) (t':=s.toks) I (fun b o hb q=>by
    have hb':b≠z/\b≠TI/\b≠TO/\b≠i1/\b≠i2:=by simpa using hb
    exact hk b o hb'.1 hb'.2.2.1 hb'.2.2.2.1 hb'.2.2.2.2 q) hf
 self:=fun A i s Q E st h=>wpAny_pyIter_zip st.1 h
section
variable{X:Cx}
noncomputable def iZs(K:ot)(ta:TA):TI:=fun σ H R=>ta σ H fun vs H1=>∃ l b,vs=[.str (tx l),.ref b]/\(∃ ys,SqT K H1 b ys)/\R (Izs K l b) H1
theorem zas{a b:Expr}{ta:TA}{p pos tpos:Pos}{elts:List Expr}{x1:Nat}(hg:Gl X "zip")(hm:X.mg "zip" = none)(ha:PA X [a,b] ta)(hs:oo [a,b] X.env=(false,eval a X.env)::oo [b] X.env:=by rfl)
  (hpl:(backTo pos (oo [b] X.env)).any (·.1)=false:=by rfl):PI X (.Tuple elts x1 tpos) (.Call (.Name "zip" p) [a,b] [] pos) (iZs X.K ta):=by
 intro pins s σ H R I h
 refine Call_ (w4 I hg hm PyProof.Rows.boot_zip (bn (thn (ha pos pins s σ H _ I h) fun us s1 ⟨vs,H1,I1,r1,q1⟩=>?_) hs hpl))
 obtain⟨l,l2,e,⟨ys,hqy⟩,q⟩:=q1
 subst e
 obtain⟨u1,u2,rfl,ru1,ru2⟩:=Wv r1
 obtain⟨t,rfl⟩:=ru1
 cases ru2
 obtain⟨its2,rv2,p2,_⟩:=I1.tuple hqy
 have hl2:s1.heap.IsTuple l2 its2.toArray:=p2
 have l2lt:l2<s1.heap.objs.size:=by obtain⟨o,e,_⟩:=hl2;exact av e
 have ne:∀ a b:Nat,a≠b->s1.heap.objs.size+a≠s1.heap.objs.size+b:=fun a b h e=>h (Nat.add_left_cancel e)
 have nl:∀ a:Nat,l2≠s1.heap.objs.size+a:=fun a=>aA (az l2lt (bX _ _))
 refine UD hl2 fun h' hz hTI hTO h1 h2 hsz kk=>?_
 have I2:Inv X pins σ H1 { s1 with heap:=h' }:=I1.kept (t':=s1.toks) kk
 refine wpAny_pyIter_zip (s:={ s1 with heap:=h' }) hz ?_
 refine⟨s1.heap.objs.size+4,[s1.heap.objs.size+4,s1.heap.objs.size+2,s1.heap.objs.size+3,s1.heap.objs.size,s1.heap.objs.size+1],_,_,H1,rfl,I2,UM (s1.heap.objs.size+4) (s1.heap.objs.size+2) (s1.heap.objs.size+3) s1.heap.objs.size (s1.heap.objs.size+1) l2 l t ⟨⟨ne 2 4 (by decide),ne 3 4 (by decide),ne 0 4 (by decide),ne 1 4 (by decide),ne 2 3 (by decide),ne 2 0 (by decide),ne 2 1 (by decide),ne 3 0 (by decide),ne 3 1 (by decide),ne 0 1 (by decide)⟩,nl 4,nl 3,nl 0,nl 1⟩,⟨hz,hTI,⟨_,_,hTO⟩,h1,h2⟩,fun b hb=>?_,q⟩
 have hb':s1.heap.objs.size<=b:=by
  simp only[df,d4,or_false] at hb
  rcases hb with e | e | e | e | e
  ·rw[e];exact bX _ _
  ·rw[e];exact bX _ _
  ·rw[e];exact bX _ _
  ·rw[e];exact aq _
  ·rw[e];exact bX _ _
 exact I1.fpOk hb' (I1.hok.fresh hb')
end
noncomputable def CompZ(K:ot)(l:List Nat)(b:Addr)(g:TG)(tt:TT)(te:TE)(own:Nat)(ix:List Nat)(σ:L2.St)(H1:Hp)(Q:VK)(D:Addr):Prop:=Xj (Izs K l b) g tt te own ix σ H1 Q D
theorem zH{K:ot}{ta:TA}{g:TG}{tt:TT}{te:TE}{own:Nat}{ix:List Nat}{σ:L2.St}{H:Hp}{Q:VK}:jU (iZs K ta) g tt te own ix σ H Q=ta σ H fun vs H1=>∃ l b,vs=[.str (tx l),.ref b]/\(∃ ys,SqT K H1 b ys)/\∀ D,H1 D=none->CompZ K l b g tt te own ix σ H1 Q D:=rfl
section
variable{g:TG}{tt:TT}{te:TE}{own:Nat}{ix:List Nat}{σ:L2.St}{H1:Hp}{Q:VK}{D:Addr}
theorem CompZ.by{K:ot}{l:List Nat}{b:Addr}{ys:List V}(Pv:Nat->List V->Hp->Prop)(hlen:l.length=ys.length)(h0:Pv 0 [] (upd H1 D (.lst [])))(hl:∀ i acc H',i<=l.length->Pv i acc H'->SqT K H' b ys)
  (hs:∀ i c y acc H' p,l[i]? = some c->ys[i]? = some y->Pv i acc H'->H' p=none->g (.ref p) (va σ own ix) (upd H' p (.tup [.str (tx [c]),y])) fun σ3 H3=>xf (va σ own ix) σ3/\tt σ3 H3 fun b H4=>if b=true then
   te σ3 H4 fun v H5=>H5 D=some (.lst acc)/\acc.length<oq/\CNx l.length i Pv (acc ++ [v]) (upd H5 D (.lst (acc ++ [v]))) else CNx l.length i Pv acc H4)
  (hd:∀ acc H',Pv l.length acc H'->Q (.ref D) H'):CompZ K l b g tt te own ix σ H1 Q D:=by
 refine⟨fun i m acc H=>m=l.length - i/\i<=l.length/\Pv i acc H,⟨l.length,by simp,aG _,h0⟩,?_⟩
 rintro i m acc H' ⟨rfl,hi,p⟩
 have q:=hl i acc H' hi p
 by_cases hlt:i<l.length
 ·refine .inr ⟨⟨ys,ys[i],q,hlt,by simp [<- hlen,hlt]⟩,fun x H2 y=>?_⟩
  obtain⟨p',c,y,hp,hc,hy,ev,eH⟩:=y
  subst ev eH
  exact hs i c y acc H' p' hc (hy ys q) p hp
 ·have e:i=l.length:=by lia
  subst e
  exact .inl ⟨rfl,hd acc H' p⟩
end
end L3
namespace L3
section
variable{X:Cx}{k1 k2 k3 j:Nat}{C1 C2 C3:Addr}{m:Str}{ps:List Str}{s1 s2 s3:Sp}{o e:Expr}{es:List Expr}{ta:TE}{t:TA}{apos pos p:Pos}{E:XK}
noncomputable def yq(t1 t2:TE):TE:=fun σ H Q=>t1 σ H Q\/t2 σ H Q
theorem Qj{t1 t2:TE}(h1:PE X e t1)(h2:PE X e t2):PE X e (yq t1 t2):=by
 intro pins s σ H Q I h
 rcases h with h | h
 ·exact h1 pins s σ H Q I h
 ·exact h2 pins s σ H Q I h
theorem Kj(D1:DM X.prog X.w X.K X.mg X.base CX0 k1 C1 m ps s1)(D2:DM X.prog X.w X.K X.mg X.base CX0 k2 C2 m ps s2)(D3:DM X.prog X.w X.K X.mg X.base CX0 k3 C3 m ps s3)(c1:Cls X.K C1)(c2:Cls X.K C2)(c3:Cls X.K C3)(hr:Room j X.A)(he:PE X o ta)(ha:PA X (e::es) t){pl:Sem Bool}
    (hst:oo (e::es) X.env=(false,eval e X.env)::oo es X.env:=by rfl) (hpl:(backTo pos (oo es X.env)).any (·.1)=false:=by rfl)
    (ht:eval (.Call (.Attribute o m apos) (e::es) [] pos) X.env=(do
      let ov <- eval o X.env
      standAt apos.atName
      let (f,first) <- holding [ov] (getMethod ov m pl)
      callWith pos f first (backTo pos (oo (e::es) X.env)) (backToKw pos (keywordEach [] X.env))):=by rfl) (h1:k1<=j:=by decide) (h2:k2<=j:=by decide) (h3:k3<=j:=by decide) :
    PE X (.Call (.Attribute o m apos) (e::es) [] pos) (yq (Zh C1 m s1 [] E0 ta t) (yq (Zh C2 m s2 [] E0 ta t) (Zh C3 m s3 [] E0 ta t))) :=
  Qj (me1 (pl:=pl) D1 c1 hr he ha hst hpl ht h1) (Qj (me1 (pl:=pl) D2 c2 hr he ha hst hpl ht h2) (me1 (pl:=pl) D3 c3 hr he ha hst hpl ht h3))
end
end L3
namespace L3
section
variable{X:Cx}
end
end L3
namespace L3
section
variable{X:Cx}
end
end L3
namespace L3
open PySem PySem.Spec PyProof.Rows L2 PySem.W PySem.Calls
noncomputable def qd(n:Int):Prop:=Builtin.Int.intBits n<=1048576
theorem QB:∀(ns:List Int),WData.weightAll (ns.map WData.int)<=1048576->∀ n ∈ ns,qd n
 | [],_,n,h=>nomatch h
 | m::ns,hw,n,h=>by
  rw[ax,WData.weightAll] at hw
  rcases List.mem_cons.mp h with rfl | h
  ·have e:WData.weight (.int n)=Builtin.Int.intBits n:=by
    rw[WData.weight]
    rfl
   unfold qd
   lia
  ·exact QB ns (by lia) n h
section
variable{X:Cx}
theorem UJ{i j:Int}(hi:qd i)(hj:qd j):IntMulOk i j:=by
 unfold IntMulOk Builtin.Int.intTooBig
 unfold qd at hi hj
 have:(bitsLine:Nat)=134217728:=rfl
 simp
 intro _ _
 lia
theorem Uu:OpR X (binaryOp .Mult) (rI (fun i j=>qd i/\qd j) fun i j=>.int (i * j)):=opI fun _ _ _ _ _ _ _ hc q=>mul_int q (UJ hc.1 hc.2)
end
theorem Zc{l:OpenLaw}{n:Nat}{q:Program}{loose:List Str}{XP:(Str->Option Value)->Heap->Prop}{YP:World->Heap->Prop}{d:DefRec}
  (hn:l.most=some n) (hdf:d.params.defaults=[])
  (call:∀(w:World) (s₀ s₁:Shared) (mg mb:Str->Option Value) (fa:Addr) (o:Obj) (pm cd doc:Value) (a:Addr) (vs:List Value) (ns:List Int),
   Ground q loose [] XP w s₀ mg mb s₁.heap->YP w s₁.heap ->
   s₁.heap.get? fa=some o->o.data=.func (docDef d.name d.params d.body d.scope pm cd doc)->s₁.heap.CodeRec cd d.name->mg d.name=some (.ref fa) ->
   s₁.heap.get? a=some { cls:=.type "list",data:=.seq vs.toArray }->IntsAre vs ns->ns.length<=n->(∀ z ∈ ns,qd z)->s₁.gens=#[] ->
   codeAny (model l.prog w) callerA (.call (.ref fa) ⟨[.ref a],[]⟩) (fun r s'=>r=.ok (.ret (.bool true))/\OldK s₁.heap s'.heap/\s'.os=s₁.os/\AllBare s'.gens) s₁) :
  WalkO q loose XP YP l.row.toRowW d [] (fun f vs=>fj f vs):=by
 intro w s₀ s₁ mg mb G Y fa o pm cd doc dV kV ho hd hcd hD hmg hg args vals as hpre hlay hrd hwl hlo
 obtain rfl:dV=.none:=Dflts.none hD hdf
 obtain rfl:kV=.none:=Dflts.noKw hD
 obtain⟨a,vs,ns,rfl,rfl,hobj,hints,hlen⟩:=Att.script_of hn hpre hwl
 have hb:∀ z ∈ ns,qd z:=by
  refine QB ns ?_
  have h1:WData.layable (WData.list (ns.map WData.int))=true:=by
   have:=hlay
   unfold WData.layableAll at this
   simpa using this
  unfold WData.layable at h1
  simp only[cj,decide_eq_true_eq] at h1
  have h2:=h1.2
  rw[WData.weight] at h2
  exact h2
 refine enter_call (codeAny_mono (call w s₀ s₁ mg mb fa o pm cd doc a vs ns G Y ho (fd_plain hd) hcd hmg hobj hints hlen hb hg) fun r s' hq=>?_)
 obtain⟨rfl,h2,h3,h4⟩:=hq
 exact⟨.inl ⟨.bool true,.bool true,[],rfl,fun _=>rfl,.bool true,Att.post_true l _,fun _=>⟨List.Pairwise.nil,fun _ hm=>(nomatch hm)⟩⟩,h2,h3,h4⟩
end L3
namespace L3
section
variable{X:Cx}{k j:Nat}{C:Addr}{x f':Str}{ps:List Str}{sp:Sp}{e:Expr}{es:List Expr}{t:TA}{te:TX}{pos p:Pos}
end
section
variable{X:Cx}{k j:Nat}{C:Addr}{m x:Str}{ps:List Str}{sp:Sp}{e:Expr}{es:List Expr}{t:TA}{apos pos p:Pos}{E:XK}
end
end L3
namespace L3
section
variable{prog:Program}{w:World}{A:Around}{E:Value->Shared->Prop}{s:Shared}{env:Env}
end
end L3
namespace L3
theorem XEg.xe{X:Cx}{E:XK}(h:XEg X E):XE X E:=fun e s ⟨pins,σ,H,x,C,t,dx,tb,q⟩=>h e s ⟨.none,false,pins,σ,H,x,C,t,dx,tb,q⟩
section
variable{X:Cx}{k:Nat}{ps:List Str}{sp:Sp}{ds:List Value}{dvs:List V}{E:XK}{x:Str}{p pos:Pos}{e:Expr}{es:List Expr}{t:TA}
end
section
variable{X:Cx}{o e:Expr}{to:TE}{te:TX}{name:Str}{apos cpos:Pos}{T id:String}{r:V->List V->Hp->VK->Prop}
end
section
variable{X:Cx}
end
section
variable{X:Cx}{k j:Nat}{C:Addr}{ps:List Str}{sp:Sp}{e:Expr}{es:List Expr}{t:TA}{pos p:Pos}{x:Str}
end
end L3
namespace L3
theorem ZN(x y:Str)(i j:Int)(t u v v':Tok):Gives (Builtin.«str.find» ⟨[.str x t,.str y u,.int i v,.int j v'],[]⟩) (.int (match Builtin.Str.occurrences x y (fromIndex x.length i) (min (fromIndex x.length j) x.length) 1 with | k::_=>(k:Int) | []=>-1)):=by
 show Gives (match Builtin.Str.occurrences x y (fromIndex x.length i) (min (fromIndex x.length j) x.length) 1 with | k::_=>retInt k | []=>(do rule "str.find.not-found";retInt (-1))) _
 cases Builtin.Str.occurrences x y (fromIndex x.length i) (min (fromIndex x.length j) x.length) 1 with
 | nil=>exact .rule (.of_eq rfl)
 | cons k _=>exact .of_eq rfl
theorem qQ(x y:Str)(lo hi:Nat) :
  (Builtin.Str.occurrences x y lo hi 1=[]/\∀ i,lo<=i->¬ StrLaws.At x y hi i) \/
  ∃ i r,Builtin.Str.occurrences x y lo hi 1=i::r/\lo<=i/\StrLaws.At x y hi i/\∀ k,lo<=k->k<i->¬ StrLaws.At x y hi k:=by
 rw[StrLaws.occ_eq]
 rcases StrLaws.occ_first x y hi 1 (aq 1) (List.range' lo (hi+1 - lo)) lo (fun i hm=>(List.mem_range'_1.mp hm).1) with ⟨e,no⟩ | ⟨pre,a,post,e,e0,at_a,no⟩
 ·exact .inl ⟨by rw[e],fun i h1 h2=>no i (by have:=h2.1;rw[List.mem_range'_1];lia) h2⟩
 ·have sp:=StrLaws.range'_split_from e
  generalize (forIn (List.range' lo (hi+1 - lo)) ((#[]:Array Nat),lo) (StrLaws.occBody x y hi 1)).run.fst=z at e0 ⊢
  obtain⟨zs⟩:=z
  cases zs with
  | nil=>simp at e0
  | cons b r =>
   have:b=a:=by simpa using e0
   subst this
   exact .inr ⟨b,r,rfl,sp.1,at_a,fun k h1 h2=>no k (sp.2 k h1 h2)⟩
theorem zaC(l p:List Nat)(hi i:Nat):StrLaws.At (tx l) (tx p) hi i ↔ i+p.length<=hi/\(l.drop i).take p.length=p:=by
 unfold StrLaws.At Builtin.Str.subAt
 rw[zQ,beq_iff_eq]
 have e1:((tx l).cps.extract i (i+p.length)).toList=(l.drop i).take p.length:=by
  show (l.toArray.extract i (i+p.length)).toList=_
  simp [dQ]
 have e2:((tx l).cps.extract i (i+p.length)=(tx p).cps) ↔ (l.drop i).take p.length=p:=by
  constructor
  ·intro h
   rw[<- e1,h]
  ·intro h
   apply Array.toList_inj.mp
   rw[e1,h]
 rw[e2]
noncomputable def Qs:V->List V->Hp->VK->Prop:=fun x xs H Q=>∃(l p:List Nat) (lo hi:Int),x=.str (tx l)/\xs=[.str (tx p),.int lo,.int hi]/\0<=lo/\0<=hi/\∀ r:Int,((r=-1/\∀ q:Nat,lo<=q->(q:Int)+p.length<=hi->q+p.length<=l.length->(l.drop q).take p.length≠p)\/∃ k:Nat,r=k/\lo<=k/\(k:Int)+p.length<=hi/\k+p.length<=l.length/\(l.drop k).take p.length=p/\∀ q:Nat,lo<=q->q<k->(l.drop q).take p.length≠p)->Q (.int r) H
theorem JB{X:Cx}:MtR X "str.find" Qs:=by
 intro pins s σ H x xs v us Q I rx rv h
 obtain⟨l,p,lo,hi,rfl,rfl,h0,h1,q⟩:=h
 obtain⟨t,rfl⟩:=rx
 cases rv with
 | cons r1 r2 =>
  cases r2 with
  | cons r2 r3 =>
   obtain⟨w3,rfl,t3,rfl⟩:=wf r3
   obtain⟨t1,rfl⟩:=r1
   obtain⟨t2,rfl⟩:=r2
   have f0:fromIndex (tx l).length lo=lo.toNat:=by unfold fromIndex;rw[if_neg (by lia)];lia
   have f1:fromIndex (tx l).length hi=hi.toNat:=by unfold fromIndex;rw[if_neg (by lia)];lia
   refine call_gives F.slot_str_find (typeIs_str _ _ _) F.entry_str_find (F.args_str_find_4 _ _ _ _) (ZN _ _ lo hi t t1 t2 t3) ?_
   refine⟨.int _,H,I.tok _,⟨_,rfl⟩,q _ ?_⟩
   rw[f0,f1]
   have hm:∀ k:Nat,k+p.length<=min hi.toNat (tx l).length ↔ (k:Int)+p.length<=hi/\k+p.length<=l.length:=fun k=>by rw[zQ];lia
   rcases qQ (tx l) (tx p) lo.toNat (min hi.toNat (tx l).length) with ⟨e,no⟩ | ⟨i,r,e,hl,ha,no⟩
   ·rw[e]
    exact .inl ⟨rfl,fun k k1 k2 k3 k4=>no k (by lia) ((zaC l p _ k).mpr ⟨(hm k).mpr ⟨k2,k3⟩,k4⟩)⟩
   ·rw[e]
    obtain⟨a1,a2⟩:=(zaC l p _ i).mp ha
    obtain⟨b1,b2⟩:=(hm i).mp a1
    exact .inr ⟨i,rfl,by lia,b1,b2,a2,fun k k1 k2 k4=>no k (by lia) k2 ((zaC l p _ k).mpr ⟨(hm k).mpr ⟨by lia,by lia⟩,k4⟩)⟩
end L3
set_option linter.unusedVariables false
namespace L3
section
variable{X:Cx}
end
end L3
namespace L3
section
variable{prog:Program}{w:World}{A:Around}{R:Result->Shared->Prop}{I l S:Addr}
theorem Vn(hh:A.handled=none)(hlI:l≠I)(hSI:S≠I)(hSl:S≠l)(xs:Array Value)(val:Nat->Int)(hv:∀ i v,xs[i]? = some v->∃ t,v=Value.int (val i) t)(d:Value) :
  ∀(k j:Nat) (z:Int) (t:Tok) (s:Shared) (c:Nat),xs.size - j=k->j<=xs.size->(∀ i,i<j->val i<=z)->s.heap.IsListIter I l j->s.heap.IsList l xs->s.heap.get? S=some (seqObj "list" #[.int z t,.int z t] c) ->
   (∀ z' t' h' tk,(∀ i,i<xs.size->val i<=z')->(∀ b o,b≠I->b≠S->s.heap.get? b=some o->h'.get? b=some o)->R (.ok (.ret (.int z' t'))) { s with heap:=h',toks:=tk }) ->
   codeAny (model prog w) A (.builtin "max.loop" ⟨[.ref I,.none,.ref S],[(bv "default",d)]⟩) R s:=by
 have nm:(toString "max" ++ toString ".loop" : String)="max.loop":=by decide
 have W:=Walks.list (prog:=prog) (w:=w) (A:=A.in1) hh I l hlI xs
 intro k
 induction k with
 | zero =>
  intro j z t s c hk hj hz hit hl hS hR
  have e:j=xs.size:=by lia
  refine codeAny_builtin (b:=Builtin.«max.loop») de ?_
  rw[Around.under_plainId (id:="max.loop") bx _]
  show wpAny _ A.in1 (seqItems? (Value.ref S) >>= _) _ _ s
  refine oh (wpAny_seqItems (items:=#[.int z t,.int z t]) hS rfl ?_)
  show wpAny _ A.in1 (tryCatch (pyNext (Value.ref I)) _ >>= _) _ _ s
  refine oh (wpAny_tryCatch (W.done s _ _ ⟨e ▸ hit,hl⟩ fun h' tk kp=>?_))
  have hS':=kp S _ (by simpa using hSI) hS
  show wpAny _ A.in1 (updateSeq S (fun _=>(#[]:Array Value)) >>= _) _ _ _
  refine oh (wpAny_updateSeq hS' rfl (oh (wpAny_letGo (oj ?_))))
  exact hR z t _ tk (fun i hi=>hz i (by lia)) fun b o hb hb' q=>(aH _ _ (Ne.symm hb')).trans (kp b o (by simpa using hb) q)
 | succ k ih =>
  intro j z t s c hk hj hz hit hl hS hR
  refine codeAny_builtin (b:=Builtin.«max.loop») de ?_
  rw[Around.under_plainId (id:="max.loop") bx _]
  show wpAny _ A.in1 (seqItems? (Value.ref S) >>= _) _ _ s
  refine oh (wpAny_seqItems (items:=#[.int z t,.int z t]) hS rfl ?_)
  show wpAny _ A.in1 (tryCatch (pyNext (Value.ref I)) _ >>= _) _ _ s
  refine oh (wpAny_tryCatch (W.item j s _ _ (by lia) ⟨hit,hl⟩ fun v h' tk hP st kp=>?_))
  obtain⟨t2,rfl⟩:=hv j v hP
  have hS':=kp S _ (by simpa using hSI) hS
  show wpAny _ A.in1 (tryCatch (holding [Value.int (val j) t2,Value.int (val j) t2] (richCompare .Gt (.int (val j) t2) (.int z t) >>= _)) _ >>= _) _ _ _
  refine oh (wpAny_tryCatch (wpAny_holding (oh (CmpOf.ints_gt (prog:=prog) (w:=w) (A:=A.in1) (P:=fun i v=>∃ t,v=Value.int (if i=0 then val j else z) t) (fun i=>if i=0 then val j else z) (fun i v h=>h) 0 1 _ _ _ _ _ ⟨t2,rfl⟩ ⟨t,rfl⟩ ?_))))
  refine oh (wpAny_holding (wpAny_truthy_bool (oh (wpAny_letGo (oj ?_)))))
  by_cases g:val j > z
  ·simp only[if_true,Nat.one_ne_zero,if_false,g,decide_true]
   refine oh (wpAny_updateSeq hS' rfl (oh (wpAny_letGo ?_)))
   rw[nm]
   refine oj ⟨plainId_quiet bx _,ih (j+1) (val j) t2 _ _ (by lia) (by lia) (fun i hi=>?_) (W.frame _ _ _ st fun b hb o q=>?_).1 (W.frame _ _ _ st fun b hb o q=>?_).2 (get?_update_seq hS' _) fun z' t' h'' tk'' a1 a2=>hR z' t' h'' tk'' a1 fun b o hb hb' q=>a2 b o hb hb' ((aH _ _ (Ne.symm hb')).trans (kp b o (by simpa using hb) q))⟩
   ·by_cases e:i=j
    ·rw[e]
     exact Int.le_refl _
    ·have:=hz i (by lia)
     lia
   all_goals
    refine (aH _ _ (fun e:S=b=>?_)).trans q
    subst e
    rcases List.mem_cons.mp hb with e | e
    ·exact hSI e
    ·exact hSl (List.mem_singleton.mp e)
  ·simp only[if_true,Nat.one_ne_zero,if_false,g,decide_false,bD]
   refine oh (wpAny_letGo ?_)
   rw[nm]
   refine oj ⟨plainId_quiet bx _,ih (j+1) z t _ _ (by lia) (by lia) (fun i hi=>?_) st.1 st.2 hS' fun z' t' h'' tk'' a1 a2=>hR z' t' h'' tk'' a1 fun b o hb hb' q=>a2 b o hb hb' (kp b o (by simpa using hb) q)⟩
   by_cases e:i=j
   ·rw[e]
    lia
   ·exact hz i (by lia)
theorem W2(a v:Value):argsOk "max" ⟨[a],[(bv "default",v)]⟩:=by unfold argsOk;kernel_rfl
theorem WB{E:Value->Shared->Prop}{s:Shared}{Q:Value->Shared->Prop}(hh:A.handled=none)(xs:Array Value)(val:Nat->Int)(hv:∀ i v,xs[i]? = some v->∃ t,v=Value.int (val i) t)(hl:s.heap.IsList l xs)(d:Value)
  (h:∀ v h' tk,(xs.size=0->v=d)->(0<xs.size->∃ z t,v=Value.int z t/\∀ i,i<xs.size->val i<=z)->(∀ b o,s.heap.get? b=some o->h'.get? b=some o)->Q v { s with heap:=h',toks:=tk }) :
  wpAny (model prog w) A (call (.builtin "max") [.ref l] [(bv "default",d)]) Q E s:=by
 have nm:(toString "max" ++ toString ".loop" : String)="max.loop":=by decide
 have hlt:l<s.heap.objs.size:=by obtain⟨_,e,_⟩:=hl;exact av e
 refine kmb_tree PySem.F.kind_max PySem.F.plain_max PySem.F.entry_max (W2 _ _) ?_
 show wpAny _ A.in1 (Builtin.Builtins.bindParams "max" ["key","default"] 0 ⟨[],[(bv "default",d)]⟩ >>= _) _ _ s
 refine oh (wpAny_of_eq (show Builtin.Builtins.bindParams "max" ["key","default"] 0 ⟨[],[(bv "default",d)]⟩=pure [none,some d] from rfl) (oh (oj ?_)))
 refine oh (wpAny_pyIter_list hl (oh (wpAny_newList ?_ (aG _))))
 rw[nm]
 refine oj ⟨plainId_quiet bx _,?_⟩
 have gI:(s.heap.push { cls:=.type "list_iterator",data:=.fields #[.ref l,.int 0 0] }).IsListIter s.heap.objs.size l 0:=⟨_,aF _ rfl,rfl,rfl⟩
 have gl:=hl.push { cls:=.type "list_iterator",data:=.fields #[.ref l,.int 0 0] }
 have kp0:∀ b o,s.heap.get? b=some o->(s.heap.push { cls:=.type "list_iterator",data:=.fields #[.ref l,.int 0 0] }).get? b=some o:=fun b o q=>aa _ q
 have hsz:(s.heap.push { cls:=.type "list_iterator",data:=.fields #[.ref l,.int 0 0] }).objs.size=s.heap.objs.size+1:=bw _ _
 have hold:∀ b o,s.heap.get? b=some o->b<s.heap.objs.size:=fun b o q=>av q
 have hlI:l≠s.heap.objs.size:=aA hlt
 generalize s.heap.push { cls:=.type "list_iterator",data:=.fields #[.ref l,.int 0 0] }=h1 at *
 generalize hIe:s.heap.objs.size=I at *
 have W:=Walks.list (prog:=prog) (w:=w) (A:=A.in1) hh I l hlI xs
 have gS:(h1.push { cls:=.type "list",data:=.seq ([]:List Value).toArray }).get? h1.objs.size=some (seqObj "list" #[] 0):=aF _ rfl
 have st0:=W.frame 0 _ (h1.push { cls:=.type "list",data:=.seq ([]:List Value).toArray }) ⟨gI,gl⟩ fun b _ o q=>aa _ q
 have kp1:∀ b o,s.heap.get? b=some o->(h1.push { cls:=.type "list",data:=.seq ([]:List Value).toArray }).get? b=some o:=fun b o q=>aa _ (kp0 b o q)
 have hSI:h1.objs.size≠I:=by rw[hsz];exact Nat.succ_ne_self I
 have hSl:h1.objs.size≠l:=by rw[hsz];exact bR (bU hlt)
 have hSb:∀ b o,s.heap.get? b=some o->b≠I/\b≠h1.objs.size:=fun b o q=>⟨aA (hold b o q),by rw[hsz];exact aA (bU (hold b o q))⟩
 generalize h1.push { cls:=.type "list",data:=.seq ([]:List Value).toArray }=h2 at *
 generalize h1.objs.size=S at *
 refine codeAny_builtin (b:=Builtin.«max.loop») de ?_
 rw[Around.under_plainId (id:="max.loop") bx _]
 show wpAny _ A.in1 (seqItems? (Value.ref S) >>= _) _ _ _
 refine oh (wpAny_seqItems (items:=#[]) gS rfl ?_)
 show wpAny _ A.in1 (tryCatch (pyNext (Value.ref I)) _ >>= _) _ _ _
 by_cases hz:xs.size=0
 ·refine oh (wpAny_tryCatch (W.done _ _ _ (by rw[hz];exact st0) fun h' tk kp=>?_))
  show wpAny _ A.in1 (rule _ >>= fun _=>_) _ _ _
  refine oh (wpAny_rule (oj ?_))
  exact h d h' tk (fun _=>rfl) (fun q=>absurd q (by lia)) fun b o q=>kp b o (by simpa using (hSb b o q).1) (kp1 b o q)
 ·refine oh (wpAny_tryCatch (W.item 0 _ _ _ (by lia) st0 fun v h' tk hP st kp=>?_))
  obtain⟨t,rfl⟩:=hv 0 v hP
  have hS':=kp S _ (by simpa using hSI) gS
  show wpAny _ A.in1 (updateSeq S (fun _=>#[Value.int (val 0) t,Value.int (val 0) t]) >>= _) _ _ _
  refine oh (wpAny_updateSeq hS' rfl ?_)
  rw[nm]
  have st':=W.frame _ _ (h'.update S (Obj.mapSeq fun _=>#[Value.int (val 0) t,Value.int (val 0) t])) st fun b hb o q=>by
   refine (aH _ _ (fun e:S=b=>?_)).trans q
   subst e
   rcases List.mem_cons.mp hb with e | e
   ·exact hSI e
   ·exact hSl (List.mem_singleton.mp e)
  refine oj ⟨plainId_quiet bx _,Vn hh hlI hSI hSl xs val hv d _ 1 (val 0) t _ _ rfl (by lia) (fun i hi=>?_) st'.1 st'.2 (get?_update_seq hS' _) fun z' t' h'' tk'' a1 a2=>?_⟩
  ·have:i=0:=by lia
   rw[this]
   exact Int.le_refl _
  ·exact h _ h'' tk'' (fun q=>absurd q hz) (fun _=>⟨z',t',rfl,a1⟩) fun b o q=>a2 b o (hSb b o q).1 (hSb b o q).2 ((aH _ _ (Ne.symm (hSb b o q).2)).trans (kp b o (by simpa using (hSb b o q).1) (kp1 b o q)))
end
section
variable{X:Cx}{id:String}{x:Str}{e:Expr}{es:List Expr}{kws:List Keyword}{ks:List Str}{p pos:Pos}{t tk:TA}
noncomputable def Qb(X:Cx)(id:String)(ks:List Str)(r:List V->List V->Hp->VK->Prop):Prop :=
 ∀(pins:List (Addr × Obj)) (s:Shared) (σ:L2.St) (H:Hp) (vs zs:List V) (us ws:List Value) (Q:VK),Inv X pins σ H s->Vals vs us->Vals zs ws->r vs zs H Q->wpAny (model X.prog X.w) X.A (call (.builtin id) us (ks.zip ws)) (EP X pins σ Q) X.xe s
noncomputable def zb4(r:List V->List V->Hp->VK->Prop)(t tk:TA):TE:=fun σ H Q=>t σ H fun vs H1=>tk σ H1 fun zs H2=>r vs zs H2 Q
theorem X8{r:List V->List V->Hp->VK->Prop}(hc:Qb X id ks r)(hg:Gl X x)(hm:X.mg x=none)(hv:bootBuiltins x=some (.builtin id))(ha:PA X (e::es) t)(hk:PK X kws tk)(hks:(backToKw pos (keywordEach kws X.env)).filterMap (·.1)=ks:=by rfl)(hn:x≠"__name__":=by decide)(hdb:(x == ("__debug__" : Str))=false:=by decide)
  (he:backTo pos (oo (e::es) X.env)=(false,eval e X.env)::backTo pos (oo es X.env):=by rfl) (hpl:(backTo pos (oo (e::es) X.env)).any (·.1)=false:=by rfl)
  (hall:(backToKw pos (keywordEach kws X.env)).all (·.1.isSome)=true:=by rfl) (hkw:(backToKw pos (keywordEach kws X.env)).any (·.1.isNone)=false:=by rfl):PE X (.Call (.Name x p) (e::es) kws pos) (zb4 r t tk):=by
 intro pins s σ H Q I h
 refine wpAny_Call_Name_kw (w4 I hg hm hv ?_ hn hdb)
 refine callWith_kw (thn (ha pos pins s σ H _ I h) fun us s1 ⟨vs,H1,I1,r1,q1⟩=>thn (hk pos pins s1 σ H1 _ I1 q1) fun ws s2 ⟨zs,H2,I2,r2,q2⟩=>?_) he hpl hall hkw
 rw[hks]
 exact hc pins s2 σ H2 vs zs us ws Q I2 r1 r2 q2
noncomputable def zba(K:ot):List V->List V->Hp->VK->Prop:=fun vs zs H Q=>∃(a:Addr) (ns:List Int) (d:Int),vs=[.ref a]/\zs=[.int d]/\SqL K H a (ns.map V.int)/\∀ z:Int,(ns=[]->z=d)->(∀ n ∈ ns,n<=z)->Q (.int z) H
theorem zak(hc:X.calm=true):Qb X "max" [bv "default"] (zba X.K):=by
 intro pins s σ H vs zs us ws Q I r1 r2 h
 obtain⟨a,ns,d,rfl,rfl,hS,q⟩:=h
 obtain⟨u,rfl,ru⟩:=wf r1
 cases ru
 obtain⟨w',rfl,td,rfl⟩:=wf r2
 obtain⟨its,rv,pl,hz⟩:=I.list hS
 have hlen:=rv.length
 rw[ag] at hlen
 have hat:∀(i:Nat) (v:Value),its.toArray[i]? = some v->∃ t,v=Value.int (ns.getD i 0) t:=fun i v hi=>by
  have hi':its[i]? = some v:=by simpa using hi
  have hil:=(List.getElem?_eq_some_iff.mp hi').1
  obtain⟨u,hu,t,rfl⟩:=xJ rv (j:=i) (x:=.int (ns.getD i 0)) (by rw[aE,ae,ak (by lia)];rfl)
  rw[hi'] at hu
  cases hu
  exact⟨t,rfl⟩
 refine WB (I.ok.hd hc) its.toArray (fun i=>ns.getD i 0) hat pl.isList (.int d td) fun v h' tk h0 h1 kp=>?_
 by_cases hn:ns=[]
 ·have:=h0 (by rw[al,<- hlen,hn];rfl)
  subst this
  exact⟨.int d,H,I.kept kp,⟨_,rfl⟩,q d (fun _=>rfl) (fun n hm=>by rw[hn] at hm;cases hm)⟩
 ·obtain⟨z,t,rfl,hzz⟩:=h1 (by rw[al,<- hlen];exact List.length_pos_iff.mpr hn)
  refine⟨.int z,H,I.kept kp,⟨_,rfl⟩,q z (fun e=>absurd e hn) fun n hm=>?_⟩
  obtain⟨i,hi,rfl⟩:=List.getElem_of_mem hm
  have:=hzz i (by rw[al,<- hlen];exact hi)
  rw[ae,ak hi] at this
  exact this
end
end L3
namespace L3
section
variable{prog:Program}{w:World}{A:Around}{R:Result->Shared->Prop}{I l S:Addr}
end
section
variable{X:Cx}
end
end L3
namespace L3
end L3
namespace L3
section
variable{X:Cx}
theorem ju{cn:Str}{np hpos:Pos}{b0:Stmt}{suite:List Stmt}{hs:List ExceptHandler}{D:Addr}{th:TS}(hg:Gl X cn)(hm:X.mg cn=some (.ref D))(hdb:(cn == ("__debug__" : Str))=false)(xc:ZG X.K D=true)(hsu:∀ e,PSs (Cx.suite X e) (b0::suite) th)
  {pins:List (Addr × Obj)} {s:Shared} {σ:St} {H:Hp} {Dd:vh} {x C T:Addr} {dx:Option Addr} (I:Inv X pins σ H s) (hob:∃ t cx kx,s.heap.get? x=some (xog C dx t (.ref T) cx kx)) (hoT:∃ oT ts,s.heap.get? T=some oT/\oT.data=.fields ts/\3<ts.size) (fT:xH X pins H T)
  (hb:cu X.K (.ref C) (.ref D)=some true) (q:th Dd σ H):wpAny (model X.prog X.w) X.A (handleBy (.ref x) X.env (.ExceptHandler (some (.Name cn np)) none (b0::suite) hpos::hs)) (SP X pins Dd) X.xe s:=by
 obtain⟨t,cx,kx,ob⟩:=hob
 obtain⟨oT,ts,eT,dT,zT⟩:=hoT
 have I':=Inv.suite I (.ref x)
 refine wpAny_handleBy_cons (codeAny_handlers_test (ve (X:=Cx.suite X (.ref x)) I' hg hm (zau I.kIn xc ob hb ?_) hdb)) (by intro q;cases q)
 refine codeAny_handlers_suite ?_
 unfold setFlight
 refine oh (wpAny_field ob rfl (x:=.ref T) rfl ?_)
 rw[if_pos (show (Value.ref T != Value.none)=true from by simp)]
 refine wpAny_setField eT dT zT ?_
 obtain⟨f0,f1,f2,f3,f4,f5⟩:=fT
 have I2:Inv X pins σ H { s with heap:=s.heap.update T (Obj.mapFields (·.setIfInBounds 3 ((none:Option Addr).elim Value.none fun f=>rawInt f))) } :=
  I.turned (t':=s.toks) (fun b o hb e=>(aH _ _ (Ne.symm hb)).trans e) f0 f1 f3 f4 f5
 refine wpAny_noRaise (thn (hsu _ pins _ σ H _ (Inv.suite I2 (.ref x)) q) fun fl s4 q4=>?_)
 cases fl with
 | next =>
  obtain⟨σ4,H4,I4,n4⟩:=q4
  exact⟨_,_,Inv.unsuite I I4,n4⟩
 | brk =>
  obtain⟨σ4,H4,I4,n4⟩:=q4
  exact⟨_,_,Inv.unsuite I I4,n4⟩
 | cont =>
  obtain⟨σ4,H4,I4,n4⟩:=q4
  exact⟨_,_,Inv.unsuite I I4,n4⟩
 | ret v =>
  obtain⟨y,σ4,H4,I4,r4,n4⟩:=q4
  exact⟨y,_,_,Inv.unsuite I I4,r4,n4⟩
end
end L3
namespace L3
section
variable{X:Cx}
noncomputable def Qh(K:ot)(i:Nat)(D:Addr)(te:TX)(th:TS):TS:=fun Dd σ H=>te σ H (fun v H1=>Dd.nx (σ.set i (some v)) H1) fun cls dx H1=>∃ C,cls=.ref C/\cu K (.ref C) (.ref D)=some true/\∀ x,H1 x=none->th Dd σ (upd H1 x (XT x C dx))
theorem UI{i:Nat}{y:Str}{yp apos pos np hpos:Pos}{e:Expr}{te:TX}{cn:Str}{b0:Stmt}{suite:List Stmt}{hs:List ExceptHandler}{D:Addr}{th:TS}
  (hN:X.N.Nodup) (hy:X.N[i]? = some y) (hly:Loc X.env.scope y) (hf:X.fn y=true\/X.env.scope.names.lookup y=some .local) (hst:X.stack=X.env::X.outer/\X.env.frame=some X.env.locals) (he:PEX X e te) (hg:Gl X cn) (hm:X.mg cn=some (.ref D)) (xc:ZG X.K D=true) (hsu:∀ e,PSs (Cx.suite X e) (b0::suite) th) (hdb:(cn == ("__debug__" : Str))=false:=by decide) (hsw:swapsWith e (some (.Name y yp)) apos.line X.env=pure false:=by rfl) :
  PS X (.Try [.Assign [.Name y yp] e apos] (.ExceptHandler (some (.Name cn np)) none (b0::suite) hpos::hs) [] [] pos) (Qh X.K i D te th):=by
 intro pins s σ H D I hq
 refine wpAny_Try_except (wpAny_execs_cons (wpAny_Assign_Name (wpAny_mono (he pins s σ H _ _ I hq) (fun v s1 ⟨z,H1,I1,r1,q1⟩=>?_) fun e s1 fl=>?_) hsw))
 ·exact kg I1 hN hy hly r1 (fun s2 I2=>wpAny_execs_nil (wpAny_execs_nil ⟨_,H1,I2,q1⟩)) hf
 ·obtain⟨cx,kx,H1,x,C,t,dx,tb,rfl,I1,ob,tr,fx,fT,C',ec,hsb,q1⟩:=fl
  cases ec
  have fr:X.A.frames=some (X.env::X.outer):=by rw[<- hst.1];exact I1.ok.frames
  have ff:s1.heap.FunFrames X.base (X.env::X.outer):=by rw[<- hst.1];exact I1.stack
  refine kq fr ff hst.2 hst.2 ob tr fun h' T oT ts e1 nT oldT e2 d2 z2 k1 k2=>?_
  have fT':xH X pins H1 T:=by
   rcases oldT with z | z
   ·exact fT T z
   ·exact I1.fpOk z (I1.hok.fresh z)
  have tbs:∀ b,tb=.ref b->H1 b=none:=fun b hb=>(fT b hb).1
  have nch:∀ b o,s1.heap.get? b=some o->b ∉ (x::T::tbL tb)->b≠x/\tb≠.ref b:=fun b o _ hb=>by
   refine⟨fun z=>hb (by simp [z]),fun z=>hb ?_⟩
   rw[z]
   simp [tbL]
  have un:Un (frs X.stack) (x::T::tbL tb) H1 H1 s1.heap h':=by
   rw[hst.1]
   refine⟨fun b o e n hb hc=>?_,fun b o e n hb hc=>?_,fun b o e n _=>n,fun b o e hc=>?_,fun b xs e=>e,fun b o u e=>e,fun b ps e=>⟨#[],by rw[e];simp⟩⟩
   ·obtain⟨a1,a2⟩:=nch b o e hc
    exact k1 b o a1 a2 hb e
   ·obtain⟨a1,a2⟩:=nch b o e hc
    exact k2 b o a1 a2 e
   ·obtain⟨a1,a2⟩:=nch b o e hc
    obtain⟨sl,q⟩:=k2 b o a1 a2 e
    exact⟨_,q⟩
  have hok:HOk X.prog X.w H1 h':=fun b u e=>by
   refine (I1.hok b u e).stay (fun c v hc q=>k1 c v ?_ ?_ ?_ q) (fun _ q=>q) fun _ _ q=>q
   ·rintro rfl
    rcases hc with rfl | hc
    ·rw[fx.1] at e;cases e
    ·rw[fx.1] at hc;cases hc
   ·intro z
    have:=tbs c z
    rcases hc with rfl | hc
    ·rw[this] at e;cases e
    ·rw[this] at hc;cases hc
   ·intro z
    rw[<- hst.1] at z
    have:=I1.stkFree c z
    rcases hc with rfl | hc
    ·rw[this] at e;cases e
    ·rw[this] at hc;cases hc
  have I2:Inv X pins σ H1 { s1 with heap:=h' }:=I1.call' (s':={ s1 with heap:=h' }) rfl un hok I1.bare fun b hb=>by
   have fb:xH X pins H1 b:=by
    rcases List.mem_cons.mp hb with z | z
    ·rw[z];exact fx
    ·rcases List.mem_cons.mp z with z | z
     ·rw[z];exact fT'
     ·cases tb with
      | ref b' =>
       have:b=b':=by simpa [tbL] using z
       rw[this];exact fT b' rfl
      | _=>simp [tbL] at z
   obtain⟨_,a1,_,a3,a4,a5⟩:=fb
   exact⟨a3,a1,a4,a5⟩
  have I3:Inv X pins σ (upd H1 x (XT x C dx)) { s1 with heap:=h' }:=Inv.track I2 fx (KB e1)
  exact ju hg hm hdb xc hsu I3 ⟨t,_,_,e1⟩ ⟨oT,ts,e2,d2,z2⟩ ⟨by rw[zq nT];exact fT'.1,fT'.2⟩ hsb (q1 x fx.1)
end
end L3
namespace L3
section
variable{X:Cx}
noncomputable def Qc(K:ot)(D:Addr)(te:TX)(th:TS):TS:=fun Dd σ H=>te σ H (fun z H1=>Dd.rt z H1) fun cls dx H1=>∃ C,cls=.ref C/\cu K (.ref C) (.ref D)=some true/\∀ x,H1 x=none->th Dd σ (upd H1 x (XT x C dx))
theorem UF{apos pos np hpos:Pos}{e:Expr}{te:TX}{cn:Str}{b0:Stmt}{suite:List Stmt}{hs:List ExceptHandler}{D:Addr}{th:TS}
  (hst:X.stack=X.env::X.outer/\X.env.frame=some X.env.locals) (he:PEX X e te) (hg:Gl X cn) (hm:X.mg cn=some (.ref D)) (xc:ZG X.K D=true) (hsu:∀ e,PSs (Cx.suite X e) (b0::suite) th) (hdb:(cn == ("__debug__" : Str))=false:=by decide) :
  PS X (.Try [.Return (some e) apos] (.ExceptHandler (some (.Name cn np)) none (b0::suite) hpos::hs) [] [] pos) (Qc X.K D te th):=by
 intro pins s σ H D I hq
 refine wpAny_Try_except (wpAny_execs_cons (wpAny_Return_some (wpAny_mono (he pins s σ H _ _ I hq) (fun v s1 ⟨z,H1,I1,r1,q1⟩=>?_) fun e s1 fl=>?_)))
 ·exact⟨z,σ,H1,I1,r1,q1⟩
 ·obtain⟨cx,kx,H1,x,C,t,dx,tb,rfl,I1,ob,tr,fx,fT,C',ec,hsb,q1⟩:=fl
  cases ec
  have fr:X.A.frames=some (X.env::X.outer):=by rw[<- hst.1];exact I1.ok.frames
  have ff:s1.heap.FunFrames X.base (X.env::X.outer):=by rw[<- hst.1];exact I1.stack
  refine kq fr ff hst.2 hst.2 ob tr fun h' T oT ts e1 nT oldT e2 d2 z2 k1 k2=>?_
  have fT':xH X pins H1 T:=by
   rcases oldT with z | z
   ·exact fT T z
   ·exact I1.fpOk z (I1.hok.fresh z)
  have tbs:∀ b,tb=.ref b->H1 b=none:=fun b hb=>(fT b hb).1
  have nch:∀ b o,s1.heap.get? b=some o->b ∉ (x::T::tbL tb)->b≠x/\tb≠.ref b:=fun b o _ hb=>by
   refine⟨fun z=>hb (by simp [z]),fun z=>hb ?_⟩
   rw[z]
   simp [tbL]
  have un:Un (frs X.stack) (x::T::tbL tb) H1 H1 s1.heap h':=by
   rw[hst.1]
   refine⟨fun b o e n hb hc=>?_,fun b o e n hb hc=>?_,fun b o e n _=>n,fun b o e hc=>?_,fun b xs e=>e,fun b o u e=>e,fun b ps e=>⟨#[],by rw[e];simp⟩⟩
   ·obtain⟨a1,a2⟩:=nch b o e hc
    exact k1 b o a1 a2 hb e
   ·obtain⟨a1,a2⟩:=nch b o e hc
    exact k2 b o a1 a2 e
   ·obtain⟨a1,a2⟩:=nch b o e hc
    obtain⟨sl,q⟩:=k2 b o a1 a2 e
    exact⟨_,q⟩
  have hok:HOk X.prog X.w H1 h':=fun b u e=>by
   refine (I1.hok b u e).stay (fun c v hc q=>k1 c v ?_ ?_ ?_ q) (fun _ q=>q) fun _ _ q=>q
   ·rintro rfl
    rcases hc with rfl | hc
    ·rw[fx.1] at e;cases e
    ·rw[fx.1] at hc;cases hc
   ·intro z
    have:=tbs c z
    rcases hc with rfl | hc
    ·rw[this] at e;cases e
    ·rw[this] at hc;cases hc
   ·intro z
    rw[<- hst.1] at z
    have:=I1.stkFree c z
    rcases hc with rfl | hc
    ·rw[this] at e;cases e
    ·rw[this] at hc;cases hc
  have I2:Inv X pins σ H1 { s1 with heap:=h' }:=I1.call' (s':={ s1 with heap:=h' }) rfl un hok I1.bare fun b hb=>by
   have fb:xH X pins H1 b:=by
    rcases List.mem_cons.mp hb with z | z
    ·rw[z];exact fx
    ·rcases List.mem_cons.mp z with z | z
     ·rw[z];exact fT'
     ·cases tb with
      | ref b' =>
       have:b=b':=by simpa [tbL] using z
       rw[this];exact fT b' rfl
      | _=>simp [tbL] at z
   obtain⟨_,a1,_,a3,a4,a5⟩:=fb
   exact⟨a3,a1,a4,a5⟩
  have I3:Inv X pins σ (upd H1 x (XT x C dx)) { s1 with heap:=h' }:=Inv.track I2 fx (KB e1)
  exact ju hg hm hdb xc hsu I3 ⟨t,_,_,e1⟩ ⟨oT,ts,e2,d2,z2⟩ ⟨by rw[zq nT];exact fT'.1,fT'.2⟩ hsb (q1 x fx.1)
end
end L3
namespace L3
section
variable{X:Cx}
theorem Vv(bs:List Bool):(aS bs.length).any (fun i=>bs.getD i false)=bs.any id:=by
 induction bs with
 | nil=>rfl
 | cons b bs ih =>
  rw[aL,dc,List.any_cons,List.any_map,List.any_cons,<- ih]
  rfl
noncomputable def zcE(K:ot):List V->Hp->VK->Prop:=fun xs H Q=>∃(p:Addr) (bs:List Bool),xs=[.ref p]/\SqL K H p (bs.map V.bl)/\Q (.bl (bs.any id)) H
theorem Jv(hc:X.calm=true):vf X (.builtin "any") (zcE X.K):=by
 intro pins s σ H xs us Q I r h
 obtain⟨p,bs,rfl,hS,q⟩:=h
 obtain⟨u,rfl,ru⟩:=wf r
 cases ru
 obtain⟨its,rv,pl,hz⟩:=I.list hS
 have hlen:its.length=bs.length:=by
  have:=rv.length
  rw[ag] at this
  exact this.symm
 have hh:X.A.in1.handled=none:=I.ok.hd hc
 have hne:p≠s.heap.objs.size:=by
  obtain⟨o,n,e,_⟩:=pl
  exact aA (av e)
 obtain⟨f0,f1,f2,f3,f4,f5⟩:=I.fpOk (H':=H) (aq _) (I.hok.fresh (aq _))
 have I1:=I.kept (t':=s.toks) (h':=s.heap.push { cls:=.type "list_iterator",data:=.fields #[.ref p,.int 0 0] }) fun b o e=>aa _ e
 refine call_any_walk (wpAny_pyIter_list pl.isList ?_)
 refine⟨s.heap.objs.size,_,_,_,_,_,fun i=>bs.getD i false,rfl,Walks.list hh s.heap.objs.size p hne its.toArray,⟨⟨_,aF _ rfl,rfl,rfl⟩,?_⟩,?_,?_⟩
 ·obtain⟨o,n,e,c,d,dt⟩:=pl
  exact⟨o,aa _ e,c,n,dt⟩
 ·intro i v s' Q' E' hv hq
  have:=jP rv (i:=i) (v:=v) (by simpa using hv)
  rw[this]
  exact wpAny_truthy_bool hq
 ·intro h' tk hk
  have e:(aS its.toArray.size).any (fun i=>bs.getD i false)=bs.any id:=by
   rw[al,hlen,Vv]
  rw[e]
  refine⟨.bl _,H,?_,rfl,q⟩
  exact I1.turned (t':=tk) (it:=s.heap.objs.size) (fun b o hb q=>hk b o (by simpa using hb) q) f0 f1 f3 f4 f5
end
end L3
namespace L3
noncomputable def CompEL(K:ot)(a:Addr)(g:TG)(tt:TT)(te:TE)(own:Nat)(ix:List Nat)(σ:L2.St)(H1:Hp)(Q:VK)(D:Addr):Prop:=Xj (Iel K a) g tt te own ix σ H1 Q D
theorem KG{K:ot}{ta:TA}{g:TG}{tt:TT}{te:TE}{own:Nat}{ix:List Nat}{σ:L2.St}{H:Hp}{Q:VK}:jU (Wu K ta) g tt te own ix σ H Q=ta σ H fun vs H1=>∃ a,vs=[.ref a]/\(∃ xs,SqL K H1 a xs)/\∀ D,H1 D=none->CompEL K a g tt te own ix σ H1 Q D:=rfl
section
variable{g:TG}{tt:TT}{te:TE}{own:Nat}{ix:List Nat}{σ:L2.St}{H1:Hp}{Q:VK}{D:Addr}
theorem CompEL.by{K:ot}{a:Addr}{xs:List V}(Pv:Nat->List V->Hp->Prop)(h0:Pv 0 [] (upd H1 D (.lst [])))(hl:∀ i acc H',i<=xs.length->Pv i acc H'->SqL K H' a xs)
  (hs:∀ i x acc H' p,xs[i]? = some x->Pv i acc H'->H' p=none->g (.ref p) (va σ own ix) (upd H' p (.tup [.int (i:Nat),x])) fun σ3 H3=>xf (va σ own ix) σ3/\tt σ3 H3 fun b H4=>if b=true then
   te σ3 H4 fun v H5=>H5 D=some (.lst acc)/\acc.length<oq/\CNx xs.length i Pv (acc ++ [v]) (upd H5 D (.lst (acc ++ [v]))) else CNx xs.length i Pv acc H4)
  (hd:∀ acc H',Pv xs.length acc H'->Q (.ref D) H'):CompEL K a g tt te own ix σ H1 Q D:=by
 refine⟨fun i m acc H=>m=xs.length - i/\i<=xs.length/\Pv i acc H,⟨xs.length,by simp,aG _,h0⟩,?_⟩
 rintro i m acc H' ⟨rfl,hi,p⟩
 have q:=hl i acc H' hi p
 by_cases hlt:i<xs.length
 ·refine .inr ⟨⟨xs,xs[i],q,by simp [hlt]⟩,fun v H2 y=>?_⟩
  obtain⟨p',x,hp,hx,ev,eH⟩:=y
  subst ev eH
  exact hs i x acc H' p' (hx xs q) p hp
 ·have e:i=xs.length:=by lia
  subst e
  exact .inl ⟨⟨xs,q,rfl⟩,hd acc H' p⟩
end
end L3
namespace L3
section
variable{X:Cx}
noncomputable def zct:R2:=fun x y H Q=>∃ p w:List Nat,x=.str (tx p)/\y=.str (tx w)/\∀ b:Bool,(b=true ↔ ∃ q:Nat,q+p.length<=w.length/\(w.drop q).take p.length=p)->Q (.bl b) H
theorem Qn:OpR X (compareOp .In) zct:=by
 intro pins s σ H x y v u Q I rx ry h
 obtain⟨p,w,rfl,rfl,q⟩:=h
 refine Vu pins s σ H _ _ v u Q I rx ry ⟨_,_,rfl,rfl,q _ ?_⟩
 rcases qQ (tx w) (tx p) 0 (tx w).length with ⟨e,no⟩ | ⟨i,r,e,hl,ha,no⟩
 ·rw[e]
  refine⟨fun h=>by simp at h,fun⟨k,k1,k2⟩=>absurd ((zaC w p _ k).mpr ⟨by rw[zQ];exact k1,k2⟩) (no k (aG _))⟩
 ·rw[e]
  obtain⟨a1,a2⟩:=(zaC w p _ i).mp ha
  exact⟨fun _=>⟨i,by rw[zQ] at a1;exact a1,a2⟩,fun _=>rfl⟩
end
end L3
namespace L3
open PySem PySem.W PyProof.Rows
noncomputable def zbE(lt:Nat->Nat->Bool){α:Type}:KasT α->α
 | .ret a=>a
 | .ask i j k=>zbE lt (k (lt i j))
noncomputable def Kok(lt:Nat->Nat->Bool)(n:Nat){α:Type}:KasT α->(α->Prop)->Prop
 | .ret a,Q=>Q a
 | .ask i j k,Q=>i<n/\j<n/\Kok lt n (k (lt i j)) Q
section
variable{lt:Nat->Nat->Bool}{n:Nat}{α β:Type}
theorem Kok.mono{Q Q':α->Prop}(hq:∀ a,Q a->Q' a):∀(t:KasT α),Kok lt n t Q->Kok lt n t Q'
 | .ret a,h=>hq a h
 | .ask _ _ k,h=>⟨h.1,h.2.1,Kok.mono hq (k _) h.2.2⟩
theorem Kok.bind{f:α->KasT β}{Q:β->Prop}:∀(t:KasT α),Kok lt n t (fun a=>Kok lt n (f a) Q)->Kok lt n (t.bind f) Q
 | .ret _,h=>h
 | .ask _ _ k,h=>⟨h.1,h.2.1,Kok.bind (k _) h.2.2⟩
theorem Kok.run{Q:α->Prop}:∀(t:KasT α),Kok lt n t Q->Q (zbE lt t)
 | .ret _,h=>h
 | .ask _ _ k,h=>Kok.run (k _) h.2.2
theorem Kok.wp{cmp:Nat->Nat->(Bool->Shared->Prop)->Shared->Prop}{I:Shared->Prop}(hc:∀ i j C s,i<n->j<n->I s->(∀ s',I s'->C (lt i j) s')->cmp i j C s){Q:α->Prop}{R:α->Shared->Prop}
  (hR:∀ a s,Q a->I s->R a s):∀(t:KasT α) (s:Shared),I s->Kok lt n t Q->t.kasWp cmp R s
 | .ret a,s,hI,h=>hR a s h hI
 | .ask i j k,s,hI,h=>hc i j _ s h.1 h.2.1 hI fun s' hI'=>Kok.wp hc hR (k _) s' hI' h.2.2
end
structure Wk(lt:Nat->Nat->Bool):Prop where
 asym:∀ a b,lt a b=true->lt b a=false
 ntr:∀ a b c,lt b a=false->lt c b=false->lt c a=false
section
variable{lt:Nat->Nat->Bool}{n:Nat}
noncomputable abbrev Lq(lt:Nat->Nat->Bool)(a b:Nat):Prop:=lt b a=false
theorem Wk.refl(W:Wk lt)(a:Nat):Lq lt a a:=by
 cases h:lt a a with
 | false=>exact h
 | true=>exact absurd h (by rw[W.asym a a h];decide)
noncomputable abbrev pg(p:Array Nat)(i:Nat):Nat:=p.getD i 0
theorem Xl(p:Array Nat)(i:Nat):pg p i=(p[i]?).getD 0:=by simp [pg,Array.getD_eq_getD_getElem?]
noncomputable def Up(lt:Nat->Nat->Bool)(p:Array Nat)(m:Nat):Prop:=∀ i j,i<j->j<m->Lq lt (pg p i) (pg p j)
noncomputable def Dn(lt:Nat->Nat->Bool)(p:Array Nat)(m:Nat):Prop:=∀ i j,i<j->j<m->Lq lt (pg p j) (pg p i)
noncomputable def Rg(n:Nat)(p:Array Nat):Prop:=p.toList.Perm (aS n)
theorem Rg.size{p:Array Nat}(h:Rg n p):p.size=n:=by have:=h.length_eq;simpa using this
theorem Rg.bd{p:Array Nat}(h:Rg n p){i:Nat}(hi:i<n):pg p i<n:=by
 have hs:=h.size
 have hi':i<p.size:=by lia
 have e:pg p i=p[i]:=by simp [pg,eM,hi']
 rw[e]
 have hm:p[i] ∈ p.toList:=Array.mem_toList_iff.mpr (Array.getElem_mem hi')
 exact List.mem_range.mp (h.mem_iff.mp hm)
theorem wZ{p:Array Nat}{i j:Nat}(hj:j<=p.size)(k:Nat):pg (kas_rev p i j) k=if i<=k/\k<j then pg p (i+j - 1 - k) else pg p k:=by
 rw[Xl,kas_rev,getElem?_mirror_all hj]
 split <;> rw[Xl]
theorem Rg.rev{p:Array Nat}(h:Rg n p)(i j:Nat):Rg n (kas_rev p i j):=(Array.perm_iff_toList_perm.mp (mirror_perm p i j _)).trans h
theorem Rg.bub{p:Array Nat}(h:Rg n p)(i j:Nat):Rg n (bubble p i j):=(Array.perm_iff_toList_perm.mp (bubble_perm p i j)).trans h
theorem W5(W:Wk lt){p:Array Nat}(hp:Rg n p):∀(f k:Nat),1<=k->k+f<=n->Up lt p k->Kok lt n (kas_asc p f k) (fun m=>k<=m/\m<=k+f/\Up lt p m/\(m=k+f\/lt (pg p m) (pg p (m - 1))=true))
 | 0,k,h1,h2,hu=>⟨by lia,by lia,hu,Or.inl (by lia)⟩
 | f+1,k,h1,h2,hu=>by
  refine⟨hp.bd (by lia),hp.bd (by lia),?_⟩
  rcases bS (lt (pg p k) (pg p (k - 1))) with hc | hc
  ·show Kok lt n (if lt (pg p k) (pg p (k - 1))=true then .ret k else _) _
   rw[if_pos hc]
   exact⟨by lia,by lia,hu,Or.inr hc⟩
  ·show Kok lt n (if lt (pg p k) (pg p (k - 1))=true then .ret k else _) _
   rw[if_neg (by rw[hc];decide)]
   refine (W5 W hp f (k+1) (by lia) (by lia) fun i j hij hj=>?_).mono (fun m hm=>⟨by lia,by lia,hm.2.2.1,?_⟩) _
   ·by_cases e:j=k
    ·subst e
     by_cases e2:i=j - 1
     ·subst e2;exact hc
     ·exact W.ntr _ _ _ (hu i (j - 1) (by lia) (by lia)) hc
    ·exact hu i j hij (by lia)
   ·rcases hm.2.2.2 with h | h
    ·exact Or.inl (by lia)
    ·exact Or.inr h
noncomputable def Ev(lt:Nat->Nat->Bool)(p:Array Nat)(a b:Nat):Prop:=∀ i j,a<=i->i<b->a<=j->j<b->Lq lt (pg p i) (pg p j)
theorem QA{p:Array Nat}{m q:Nat}(hm:m<=p.size)(hq:q+1<=m)(hd:Dn lt p m)(he:Ev lt p (m - (q+1)) m):Dn lt (kas_rev p (m - (q+1)) m) m:=by
 intro i j hij hj
 rw[wZ hm,wZ hm]
 by_cases h1:m - (q+1)<=i
 ·rw[if_pos (show m - (q+1)<=i/\i<m by lia),if_pos (show m - (q+1)<=j/\j<m by lia)]
  exact he _ _ (by lia) (by lia) (by lia) (by lia)
 ·rw[if_neg (show ¬ (m - (q+1)<=i/\i<m) by lia)]
  split
  ·exact hd _ _ (by lia) (by lia)
  ·exact hd _ _ (by lia) (by lia)
theorem jQ(W:Wk lt):∀(f:Nat) (p:Array Nat) (k q:Nat),Rg n p->1<=k->k+f<=n->q+1<=k->Dn lt p k->Ev lt p (k - (q+1)) k ->
  Kok lt n (kas_desc f p k q) (fun r=>Rg n r.1/\k<=r.2.1/\r.2.1<=k+f/\r.2.2+1<=r.2.1/\Dn lt r.1 r.2.1/\Ev lt r.1 (r.2.1 - (r.2.2+1)) r.2.1)
 | 0,p,k,q,hp,h1,h2,hq,hd,he=>⟨hp,aq _,bX _ _,hq,hd,he⟩
 | f+1,p,k,q,hp,h1,h2,hq,hd,he=>by
  have hps:=hp.size
  refine⟨hp.bd (by lia),hp.bd (by lia),?_⟩
  have one:∀(p:Array Nat),Ev lt p (k+1 - (0+1)) (k+1):=fun p i j a b c d=>by
   have:i=j:=by lia
   subst this
   exact W.refl _
  rcases bS (lt (pg p k) (pg p (k - 1))) with hc | hc
  ·show Kok lt n (if lt (pg p k) (pg p (k - 1))=true then _ else _) _
   rw[if_pos hc]
   have hle:Lq lt (pg p k) (pg p (k - 1)):=W.asym _ _ hc
   split
   ·rename_i hq0
    refine (jQ W f _ (k+1) 0 (hp.rev _ _) (by lia) (by lia) (by lia) (fun i j hij hj=>?_) (one _)).mono (fun r hr=>⟨hr.1,by lia,by lia,hr.2.2.2⟩) _
    by_cases e:j=k
    ·subst e
     rw[wZ (by lia),wZ (by lia),if_neg (by lia)]
     split
     ·exact W.ntr _ _ _ hle (he _ _ (by lia) (by lia) (by lia) (by lia))
     ·exact W.ntr _ _ _ hle (hd _ _ (by lia) (by lia))
    ·exact QA (by lia) hq hd he i j hij (by lia)
   ·refine (jQ W f _ (k+1) 0 hp (by lia) (by lia) (by lia) (fun i j hij hj=>?_) (one _)).mono (fun r hr=>⟨hr.1,by lia,by lia,hr.2.2.2⟩) _
    by_cases e:j=k
    ·subst e
     by_cases e2:i=j - 1
     ·subst e2;exact hle
     ·exact W.ntr _ _ _ hle (hd i (j - 1) (by lia) (by lia))
    ·exact hd i j hij (by lia)
  ·show Kok lt n (if lt (pg p k) (pg p (k - 1))=true then _ else _) _
   rw[if_neg (by rw[hc];decide)]
   refine⟨hp.bd (by lia),hp.bd (by lia),?_⟩
   rcases bS (lt (pg p (k - 1)) (pg p k)) with hd2 | hd2
   ·show Kok lt n (if lt (pg p (k - 1)) (pg p k)=true then _ else _) _
    rw[if_pos hd2]
    exact⟨hp,aq _,bX _ _,hq,hd,he⟩
   ·show Kok lt n (if lt (pg p (k - 1)) (pg p k)=true then _ else _) _
    rw[if_neg (by rw[hd2];decide)]
    refine (jQ W f _ (k+1) (q+1) hp (by lia) (by lia) (by lia) (fun i j hij hj=>?_) (fun i j a b c d=>?_)).mono (fun r hr=>⟨hr.1,by lia,by lia,hr.2.2.2⟩) _
    ·by_cases e:j=k
     ·subst e
      by_cases e2:i=j - 1
      ·subst e2;exact hd2
      ·exact W.ntr _ _ _ hd2 (hd i (j - 1) (by lia) (by lia))
     ·exact hd i j hij (by lia)
    ·have b1:∀ i,k+1 - (q+1+1)<=i->i<k->Lq lt (pg p i) (pg p (k - 1))/\Lq lt (pg p (k - 1)) (pg p i):=fun i a b=>⟨he _ _ (by lia) (by lia) (by lia) (by lia),he _ _ (by lia) (by lia) (by lia) (by lia)⟩
     by_cases e:j=k
     ·subst e
      by_cases e3:i=j
      ·subst e3;exact W.refl _
      ·exact W.ntr _ _ _ (b1 i (by lia) (by lia)).1 hc
     ·by_cases e3:i=k
      ·subst e3
       exact W.ntr _ _ _ hd2 (b1 j (by lia) (by lia)).2
      ·exact he _ _ (by lia) (by lia) (by lia) (by lia)
theorem YZ(W:Wk lt){p:Array Nat}{m:Nat}(hp:Rg n p)(h1:1<=m)(hm:m<=n)(hd:Dn lt p m):Kok lt n (kas_tail3 m n p) (fun r=>Rg n r.2/\1<=r.1/\r.1<=n/\Up lt r.2 r.1):=by
 have hps:=hp.size
 unfold kas_tail3
 refine Kok.bind _ ((W5 W (hp.rev 0 m) (n - m) m h1 (by lia) fun i j hij hj=>?_).mono (fun k hk=>⟨hp.rev 0 m,by show 1<=k;lia,by show k<=n;lia,hk.2.2.1⟩) _)
 rw[wZ (by lia),wZ (by lia),if_pos (by lia),if_pos (by lia)]
 exact hd _ _ (by lia) (by lia)
theorem qJ(W:Wk lt){p:Array Nat}{m:Nat}(hp:Rg n p)(h1:1<=m)(hm:m+1<=n)(hd:Dn lt p (m+1)):Kok lt n (kas_descPart m n p) (fun r=>Rg n r.2/\1<=r.1/\r.1<=n/\Up lt r.2 r.1):=by
 unfold kas_descPart
 refine Kok.bind _ ((jQ W (n - (m+1)) p (m+1) 0 hp (by lia) (by lia) (by lia) hd fun i j a b c d=>?_).mono (fun r hr=>?_) _)
 ·have:i=j:=by lia
  subst this
  exact W.refl _
 ·obtain⟨r1,r2,r3,r4,r5,r6⟩:=hr
  have hs:=r1.size
  (try dsimp only)
  split
  ·exact YZ W (r1.rev _ _) (by lia) (by lia) (QA (by lia) r4 r5 r6)
  ·exact YZ W r1 (by lia) (by lia) r5
theorem VY(W:Wk lt){p:Array Nat}(hp:Rg n p)(hn:1<=n):Kok lt n (kas_count n p) (fun r=>Rg n r.2/\1<=r.1/\r.1<=n/\Up lt r.2 r.1):=by
 have hps:=hp.size
 unfold kas_count
 refine Kok.bind _ ((W5 W hp (n - 1) 1 (aq _) (by lia) fun i j hij hj=>by lia).mono (fun m hm=>?_) _)
 obtain⟨m1,m2,mu,ms⟩:=hm
 by_cases e:(m == n)=true
 ·rw[if_pos e]
  exact⟨hp,by show 1<=m;lia,by show m<=n;lia,mu⟩
 ·rw[if_neg e]
  have hne:m≠n:=fun h=>e (by rw[h];exact beq_self_eq_true _)
  have hlt:lt (pg p m) (pg p (m - 1))=true:=by
   rcases ms with h | h
   ·lia
   ·exact h
  have hle:Lq lt (pg p m) (pg p (m - 1)):=W.asym _ _ hlt
  by_cases h1:m > 1
  ·rw[if_pos h1]
   refine⟨hp.bd (by lia),hp.bd (by lia),?_⟩
   rcases bS (lt (pg p 0) (pg p (m - 1))) with hc | hc
   ·show Kok lt n (if lt (pg p 0) (pg p (m - 1))=true then _ else _) _
    rw[if_pos hc]
    exact⟨hp,by show 1<=m;lia,by show m<=n;lia,mu⟩
   ·show Kok lt n (if lt (pg p 0) (pg p (m - 1))=true then _ else _) _
    rw[if_neg (by rw[hc];decide)]
    have u0:∀ i,i<m->Lq lt (pg p 0) (pg p i):=fun i hi=>by
     by_cases h:i=0
     ·subst h;exact W.refl _
     ·exact mu 0 i (by lia) hi
    have ul:∀ i,i<m->Lq lt (pg p i) (pg p (m - 1)):=fun i hi=>by
     by_cases h:i=m - 1
     ·subst h;exact W.refl _
     ·exact mu i (m - 1) (by lia) (by lia)
    have ev:∀ i j,i<m->j<m->Lq lt (pg p i) (pg p j):=fun i j hi hj=>W.ntr _ _ _ (ul i hi) (W.ntr _ _ _ hc (u0 j hj))
    refine qJ W (hp.rev 0 m) (by lia) (by lia) fun i j hij hj=>?_
    by_cases h:j=m
    ·subst h
     rw[wZ (by lia),wZ (by lia),if_neg (by lia),if_pos (by lia)]
     exact W.ntr _ _ _ hle (ev _ _ (by lia) (by lia))
    ·rw[wZ (by lia),wZ (by lia),if_pos (by lia),if_pos (by lia)]
     exact ev _ _ (by lia) (by lia)
  ·rw[if_neg h1]
   refine qJ W hp (by lia) (by lia) fun i j hij hj=>?_
   have h0:i=m - 1:=by lia
   have h1:j=m:=by lia
   subst h0 h1
   exact hle
theorem kz(W:Wk lt){p:Array Nat}(hp:Rg n p){k:Nat}(hk:k<n)(hu:Up lt p k):∀(f l r:Nat),l<=r->r<=k->r - l<=f->(∀ i,i<l->Lq lt (pg p i) (pg p k))->(∀ i,r<=i->i<k->Lq lt (pg p k) (pg p i)) ->
  Kok lt n (kas_place p k f l r) (fun m=>m<=k/\(∀ i,i<m->Lq lt (pg p i) (pg p k))/\(∀ i,m<=i->i<k->Lq lt (pg p k) (pg p i)))
 | 0,l,r,hl,hr,hf,h1,h2=>by
  have:l=r:=by lia
  subst this
  exact⟨hr,h1,h2⟩
 | f+1,l,r,hl,hr,hf,h1,h2=>by
  unfold kas_place
  by_cases e:l ≥ r
  ·rw[if_pos e]
   have:l=r:=by lia
   subst this
   exact⟨hr,h1,h2⟩
  ·rw[if_neg e]
   refine⟨hp.bd hk,hp.bd (by lia),?_⟩
   rcases bS (lt (pg p k) (pg p ((l+r) / 2))) with hc | hc
   ·show Kok lt n (if lt (pg p k) (pg p ((l+r) / 2))=true then _ else _) _
    rw[if_pos hc]
    refine kz W hp hk hu f l ((l+r) / 2) (by lia) (by lia) (by lia) h1 fun i hi hik=>?_
    by_cases e2:i=(l+r) / 2
    ·subst e2;exact W.asym _ _ hc
    ·exact W.ntr _ _ _ (W.asym _ _ hc) (hu _ _ (by lia) hik)
   ·show Kok lt n (if lt (pg p k) (pg p ((l+r) / 2))=true then _ else _) _
    rw[if_neg (by rw[hc];decide)]
    refine kz W hp hk hu f ((l+r) / 2+1) r (by lia) hr (by lia) (fun i hi=>?_) h2
    by_cases e2:i=(l+r) / 2
    ·subst e2;exact hc
    ·exact W.ntr _ _ _ (hu i ((l+r) / 2) (by lia) (by lia)) hc
theorem U7{p:Array Nat}{k l:Nat}(hk:k<p.size)(hl:l<=k)(i:Nat):pg (bubble p k (k - l)) i=if i=l then pg p k else if l<i/\i<=k then pg p (i - 1) else pg p i:=by
 have e:k - (k - l)=l:=by lia
 rw[Xl,getElem?_bubble hk (k - l) (by lia),e]
 by_cases h:i=l
 ·rw[if_pos h,if_pos h];exact (Xl p k).symm
 ·rw[if_neg h,if_neg h]
  by_cases h':l<i/\i<=k
  ·rw[if_pos h',if_pos h'];exact (Xl p (i - 1)).symm
  ·rw[if_neg h',if_neg h'];exact (Xl p i).symm
theorem Qa(W:Wk lt):∀(f:Nat) (p:Array Nat) (k:Nat),Rg n p->k+f=n->Up lt p k->Kok lt n (kas_bin f p k) (fun p'=>Rg n p'/\Up lt p' n)
 | 0,p,k,hp,hk,hu=>by
  have:k=n:=by lia
  subst this
  exact⟨hp,hu⟩
 | f+1,p,k,hp,hk,hu=>by
  have hps:=hp.size
  refine Kok.bind _ ((kz W hp (by lia) hu k 0 k (by lia) (by lia) (by lia) (fun i hi=>by lia) (fun i h1 h2=>by lia)).mono (fun l hl=>?_) _)
  obtain⟨l1,l2,l3⟩:=hl
  refine Qa W f _ (k+1) (hp.bub _ _) (by lia) fun i j hij hj=>?_
  rw[U7 (by lia) l1,U7 (by lia) l1]
  by_cases h1:i=l
  ·rw[if_pos h1,if_neg (by lia),if_pos (by lia)]
   exact l3 _ (by lia) (by lia)
  ·rw[if_neg h1]
   by_cases h2:j=l
   ·rw[if_pos h2,if_neg (by lia)]
    exact l2 _ (by lia)
   ·rw[if_neg h2]
    by_cases h3:l<i/\i<=k
    ·rw[if_pos h3,if_pos (by lia)]
     exact hu _ _ (by lia) (by lia)
    ·rw[if_neg h3]
     by_cases h4:l<j/\j<=k
     ·rw[if_pos h4]
      by_cases h5:i=j - 1
      ·lia
      ·exact hu _ _ (by lia) (by lia)
     ·rw[if_neg h4]
      exact hu _ _ (by lia) (by lia)
theorem Ju(W:Wk lt)(hn:1<=n):Kok lt n (kas_sort n) (fun p=>Rg n p/\Up lt p n):=by
 unfold kas_sort
 refine Kok.bind _ ((VY W (p:=aZ (aS n)) (by unfold Rg;exact List.Perm.refl _) hn).mono (fun r hr=>?_) _)
 obtain⟨r1,r2,r3,r4⟩:=hr
 (try dsimp only)
 split
 ·have:max r.1 1=r.1:=by lia
  rw[this]
  exact Qa W _ _ _ r1 (by lia) r4
 ·have:r.1=n:=by lia
  rw[this] at r4
  exact⟨r1,r4⟩
end
noncomputable def srt{α:Type}(lt:α->α->Bool)(d:α)(xs:List α):List α :=
 if xs.length<2 then xs else (zbE (fun i j=>lt (xs.getD i d) (xs.getD j d)) (kas_sort xs.length)).toList.map fun i=>xs.getD i d
structure WkO{α:Type}(lt:α->α->Bool):Prop where
 asym:∀ a b,lt a b=true->lt b a=false
 ntr:∀ a b c,lt b a=false->lt c b=false->lt c a=false
end L3
namespace L3
structure KeyFam(α:Type) where
 dec:α->List D
 lt:α->α->Bool
 fst:Bool
 d0:α
structure KeyFam.Ok{α:Type}(F:KeyFam α):Prop where
 w:WkO F.lt
 eq:∀ a b,vV (F.dec a) (F.dec b)=F.lt a b
 ok:∀ a b,jB (F.dec a) (F.dec b)
 dp:∀ a,v0 (F.dec a)<40
 sh:∀ a,∃ d r,F.dec a=d::r/\((F.fst=true/\∃ n,d=.int n)\/(F.fst=false/\∃ l,d=.tup l))
section
variable{X:Cx}{pins:List (Addr × Obj)}{σ:L2.St}{H:Hp}{s:Shared}
theorem Inv.repin{b:Addr}{o o':Obj}{h':Heap}(I:Inv X (pins ++ [(b,o)]) σ H s)(hs:X.s₀.heap.objs.size<=b)(hn:∀ p ∈ X.pn ++ pins,p.1≠b)(sb:Heap.SameBut b s.heap h')(ho:h'.get? b=some o')(hd:∀ v,o'.data≠.cell v) :
  Inv X (pins ++ [(b,o')]) σ H { s with heap:=h' }:=by
 have I1:Inv X pins σ H s:=I.unpinned
 obtain⟨p1,p2,p3,p4,p5⟩:=I.pin (b,o) (aB _ (aB _ (List.mem_singleton.mpr rfl)))
 have I2:Inv X pins σ H { s with heap:=h' }:=Inv.turns I1 (fp:=[b]) (t':=s.toks) (fun b' u hb e=>(sb.2 b' (by simpa using hb)).trans e) fun b' hb=>by
  have e:b'=b:=by simpa using hb
  subst e
  refine⟨p2,p3,p4,.inr hs,fun x c e z=>?_,hn⟩
  obtain⟨v,o1,ho1,hd1⟩:=I.cell x c e
  subst z
  rw[p1] at ho1
  cases ho1
  exact p5 v hd1
 exact I2.pins_of fun p hp=>by
  rcases List.mem_append.mp hp with z | z
  ·exact I2.pin p (aB _ z)
  ·have e:p=(b,o'):=by simpa using z
   subst e
   exact⟨ho,p2,p3,p4,hd⟩
theorem Inv.newpin{b:Addr}{o:Obj}(I:Inv X pins σ H s)(hf:xH X pins H b)(ho:s.heap.get? b=some o)(hd:∀ v,o.data≠.cell v):Inv X (pins ++ [(b,o)]) σ H s :=
 I.pins_of fun p hp=>by
  rcases List.mem_append.mp hp with z | z
  ·exact I.pin p (aB _ z)
  ·have e:p=(b,o):=by simpa using z
   subst e
   exact⟨ho,hf.1,hf.2.1,hf.2.2.1,hd⟩
theorem K4(I:Inv X pins σ H s){A:Around}{b:Bool}{Q:Bool->Shared->Prop}(hu:A.units+50<cLine):∀(l m:List D) (xs ys:List V) (its its':List Value) (i:Nat),Iss X.K H l xs->Iss X.K H m ys->Vals xs its->Vals ys its'->jB l m->v0 l<40 ->
  (b=true->i=0->(∃ n r,l=.int n::r)/\∃ n r,m=.int n::r)->Q (vV l m) s->PySem.W.KatLex X.prog X.w A b (decide (its.length<its'.length)) Q (its.zip its') i s
 | [],m,xs,ys,its,its',i,h1,h2,r1,r2,ok,hd,hb,q=>by
  simp only[Iss] at h1
  subst h1
  cases r1
  have e:vV [] m=decide (([]:List Value).length<its'.length):=by
   have e1:=h2.len
   have e2:=r2.length
   have e3:m.length=its'.length:=by lia
   rw[<- e3]
   cases m with
   | nil=>simp [vV]
   | cons _ _=>simp [vV]
  rw[e] at q
  rw[List.zip_nil_left]
  exact fk q
 | d::l,[],xs,ys,its,its',i,h1,h2,r1,r2,ok,hd,hb,q=>by
  simp only[Iss] at h2
  subst h2
  cases r2
  simp only[vV] at q
  rw[List.zip_nil_right]
  exact fk (by simpa using q)
 | d::l,e::m,xs,ys,its,its',i,h1,h2,r1,r2,ok,hd,hb,q=>by
  simp only[Iss] at h1 h2
  obtain⟨x,xr,rfl,hx,hxr⟩:=h1
  obtain⟨y,yr,rfl,hy,hyr⟩:=h2
  cases r1 with | cons rx rxr =>
  cases r2 with | cons ry ryr =>
  simp only[jB] at ok
  simp only[v0] at hd
  rename_i u us v vs
  rw[cX]
  refine PySem.W.kat_cons (qM I 45 A d e x y u v (by lia) (by lia) hx hy rx ry X.prog X.w _ _ ?_)
  cases he:eqD d e with
  | true =>
   refine PySem.W.kat_yes ?_
   have:=K4 I (b:=b) hu l m xr yr us vs (i+1) hxr hyr rxr ryr ok.2 (by lia) (fun _ z=>absurd z (by lia)) (by simpa only[vV,he,if_true] using q)
   simpa using this
  | false =>
   refine PySem.W.kat_no ?_
   have q':Q (ltD d e) s:=by simpa only[vV,he,bD,if_false] using q
   by_cases hbi:(b && i == 0)=true
   ·rw[hbi]
    simp only[cj,beq_iff_eq] at hbi
    obtain⟨⟨n,r,e1⟩,n',r',e2⟩:=hb hbi.1 hbi.2
    cases e1;cases e2
    simp only[Is] at hx hy
    subst hx hy
    obtain⟨t,rfl⟩:=rx
    obtain⟨t',rfl⟩:=ry
    simp only[ltD] at q'
    exact oneLt_int q'
   ·rw[show (b && i == 0)=false by simpa using hbi]
    exact PySem.W.kat_one _ _ (Qy I 45 A d e x y u v (by lia) (by lia) ok.1 hx hy rx ry X.prog X.w _ _ q')
theorem J6(I:Inv X pins σ H s){A:Around}{b:Bool}{Q:Bool->Shared->Prop}{E:Value->Shared->Prop}(hu:A.units+50<cLine){l m:List D}{x y:V}{u v:Value}(hx:Is X.K H (.tup l) x)(hy:Is X.K H (.tup m) y)(rx:RelV x u)(ry:RelV y v)
  (ok:jB l m) (hd:v0 l<40) (hb:b=true->(∃ n r,l=.int n::r)/\∃ n r,m=.int n::r) (q:Q (vV l m) s):wpAny (model X.prog X.w) A (keyLt' (tuples' b) u v) Q E s:=by
 simp only[Is] at hx hy
 obtain⟨a,xs,rfl,h1,h2⟩:=hx
 obtain⟨c,ys,rfl,g1,g2⟩:=hy
 cases rx;cases ry
 obtain⟨its,r,⟨o,ho,hoc,n,hod⟩,_⟩:=I.tuple h1
 obtain⟨its',r',⟨o',ho',hoc',n',hod'⟩,_⟩:=I.tuple g1
 refine PySem.W.kat_lt ho hod ho' hod' ?_
 have:=K4 I (A:=A) (b:=b) (Q:=Q) hu l m xs ys its its' 0 h2 g2 r r' ok hd (fun z _=>hb z) q
 simpa using this
theorem Qz{α:Type}{F:KeyFam α}(FO:F.Ok)(I:Inv X pins σ H s){M:Model}:∀(rs:List α) (acc:List V) (ks:List Value),Iss X.K H (rs.map fun a=>.tup (F.dec a)) acc->Vals acc ks ->
  ∃ fs,PySem.W.KatTups s.heap ks fs/\fs.length=rs.length/\∀ v ∈ fs,PySem.W.Looks M s.heap (typeOf v) (.type (if F.fst=true then "int" else "tuple"))
 | [],acc,ks,h,r=>by
  simp only[aN,Iss] at h
  subst h
  cases r
  exact⟨[],PySem.W.KatTups.nil,rfl,fun v hv=>by cases hv⟩
 | a::rs,acc,ks,h,r=>by
  simp only[ax,Iss] at h
  obtain⟨x,xr,rfl,hx,hxr⟩:=h
  cases r with | cons rx rxr =>
  rename_i u us
  obtain⟨fs,t1,t2,t3⟩:=Qz FO I (M:=M) rs xr us hxr rxr
  simp only[Is] at hx
  obtain⟨c,xs,rfl,h1,h2⟩:=hx
  cases rx
  obtain⟨its,ri,⟨o,ho,hoc,n,hod⟩,_⟩:=I.tuple h1
  obtain⟨d,dr,ed,hsh⟩:=FO.sh a
  rw[ed] at h2
  simp only[Iss] at h2
  obtain⟨y,yr,rfl,hy,_⟩:=h2
  cases ri with | cons ry rir =>
  rename_i v vs
  refine⟨v::fs,PySem.W.KatTups.cons ho hoc hod (by simp) t1,by simp [t2],fun z hz=>?_⟩
  rcases List.mem_cons.mp hz with e | hz
  ·subst e
   rcases hsh with ⟨hf,n',rfl⟩ | ⟨hf,l,rfl⟩
   ·rw[if_pos hf]
    simp only[Is] at hy
    subst hy
    obtain⟨t,rfl⟩:=ry
    exact PySem.W.Looks.of_pure rfl
   ·rw[if_neg (by rw[hf];decide)]
    simp only[Is] at hy
    obtain⟨c',xs',rfl,g1,_⟩:=hy
    cases ry
    obtain⟨its',ri',⟨o',ho',hoc',n',hod'⟩,_⟩:=I.tuple g1
    rw[<- hoc']
    exact (PySem.W.Looks.ld ho').andThen .now
  ·exact t3 z hz
end
noncomputable def XD{α:Type}(K:ot)(F:KeyFam α)(xs:List V)(Q:VK):List V->Hp->Prop:=fun acc H'=>∃ rs:List α,Iss K H' (rs.map fun a=>.tup (F.dec a)) acc /\
 ∀ ys:List (α × V),ys.Perm (rs.zip xs)->ys.Pairwise (fun p q=>F.lt q.1 p.1=false)->∀ D,H' D=none->Q (.ref D) (upd H' D (.lst (ys.map (·.2))))
theorem WY{β:Type}{g:β->β->Bool}{d:β}{zs:List β}{p:Array Nat}(h1:Rg zs.length p)(h2:Up (fun i j=>g (zs.getD i d) (zs.getD j d)) p zs.length) :
  (p.toList.map fun i=>zs.getD i d).Perm zs/\(p.toList.map fun i=>zs.getD i d).Pairwise fun a b=>g b a=false:=by
 have e:(aS zs.length).map (fun i=>zs.getD i d)=zs:=by
  refine List.ext_getElem (by simp) fun i a b=>?_
  have hb:i<zs.length:=by simpa using b
  simp [hb]
 refine⟨(h1.map (fun i=>zs.getD i d)).trans (by rw[e]),?_⟩
 rw[List.pairwise_map,List.pairwise_iff_getElem]
 intro i j hi hj hij
 have hs:=h1.size
 have hi':i<p.size:=by simpa using hi
 have hj':j<p.size:=by simpa using hj
 have q:=h2 i j hij (by lia)
 have ei:pg p i=p.toList[i]:=by simp [pg,eM,hi']
 have ej:pg p j=p.toList[j]:=by simp [pg,eM,hj']
 rw[ei,ej] at q
 exact q
end L3
namespace L3
section
variable{X:Cx}{pins:List (Addr × Obj)}{σ:L2.St}{H:Hp}{s:Shared}
theorem Inv.fp_of_pin{b:Addr}{o:Obj}(I:Inv X (pins ++ [(b,o)]) σ H s)(hs:X.s₀.heap.objs.size<=b)(hn:∀ p ∈ X.pn ++ pins,p.1≠b):xH X pins H b:=by
 obtain⟨p1,p2,p3,p4,p5⟩:=I.pin (b,o) (aB _ (aB _ (List.mem_singleton.mpr rfl)))
 refine⟨p2,p3,p4,.inr hs,fun x c e z=>?_,hn⟩
 obtain⟨v,o1,ho1,hd1⟩:=I.cell x c e
 subst z
 rw[p1] at ho1
 cases ho1
 exact p5 v hd1
theorem Inv.at_pin{b:Addr}{o:Obj}(I:Inv X (pins ++ [(b,o)]) σ H s):s.heap.get? b=some o:=(I.pin (b,o) (aB _ (aB _ (List.mem_singleton.mpr rfl)))).1
theorem xU{c:String}{xs:Array Value}{n:Nat}:∀ v,(seqObj c xs n).data≠.cell v:=fun v z=>by cases z
theorem Qo{D kS:Addr}{e e1:Nat}{st:SortSt}{ks out:List Value}{A:Around}{E:Value->Shared->Prop}{P:PySem.Fin->Shared->Prop}(I:Inv X ((pins ++ [(D,seqObj "list" #[] e1)]) ++ [(kS,seqObj "list" (aZ ks) e)]) σ H s)
  (hD:X.s₀.heap.objs.size<=D) (hK:X.s₀.heap.objs.size<=kS) (nD:∀ p ∈ X.pn ++ pins,p.1≠D) (nK:∀ p ∈ X.pn ++ (pins ++ [(D,seqObj "list" #[] e1)]),p.1≠kS) (hkz:ks.length<64)
  (hout:(arrOf st).map (·.2)=aZ out) (hoz:out.length<64) (hf:failedOf st=none) (h:∀ s' c,Inv X (pins ++ [(D,seqObj "list" (aZ out) c)]) σ H s'->P (.done (.ret .none)) s') :
  wpAny (model X.prog X.w) A (ksk_tail D false e1 (.ref kS) st) P E s:=by
 have pk:=Inv.at_pin I
 have s1:=Heap.SameBut.update s.heap kS (Obj.mapSeq fun _=>(#[]:Array Value))
 obtain⟨ck,hck⟩:∃ ck,(s.heap.update kS (Obj.mapSeq fun _=>(#[]:Array Value))).get? kS=some (seqObj "list" #[] ck):=⟨_,get?_update_seq pk fun _=>#[]⟩
 have I2:=(Inv.repin I hK nK s1 hck xU).unpinned
 have pd:=Inv.at_pin I2
 have s2:=Heap.SameBut.update (s.heap.update kS (Obj.mapSeq fun _=>(#[]:Array Value))) D (Obj.mapSeq fun _=>aZ out)
 obtain⟨c2,hc2⟩:∃ c2,((s.heap.update kS (Obj.mapSeq fun _=>(#[]:Array Value))).update D (Obj.mapSeq fun _=>aZ out)).get? D=some (seqObj "list" (aZ out) c2):=⟨_,get?_update_seq pd fun _=>aZ out⟩
 have I3:=Inv.repin I2 hD nD s2 hc2 xU
 unfold ksk_tail
 (try dsimp only)
 rw[hout]
 refine oh (listUpdate_at pk rfl ?_ (by rw[al,sizeLine_eq];lia) (aG _))
 refine oh (wpAny_letGo ?_)
 refine oh (seqEpoch_at pd rfl ?_)
 refine oh (listUpdate_at pd rfl ?_ (aG _) (by simp only[bD,if_false];rw[al,sizeLine_eq];lia))
 rw[hf]
 simp only[bne_self_eq_false,bD,if_false]
 exact oj (h _ c2 I3)
theorem zaO{α:Type}{F:KeyFam α}(FO:F.Ok){D kS:Addr}{e e1:Nat}{ks its:List Value}{acc xs:List V}{rs:List α}{A:Around}{E:Value->Shared->Prop}{P:PySem.Fin->Shared->Prop}(hu:A.units+50<cLine)
  (I:Inv X ((pins ++ [(D,seqObj "list" #[] e1)]) ++ [(kS,seqObj "list" (aZ ks) e)]) σ H s)
  (hD:X.s₀.heap.objs.size<=D) (hK:X.s₀.heap.objs.size<=kS) (nD:∀ p ∈ X.pn ++ pins,p.1≠D) (nK:∀ p ∈ X.pn ++ (pins ++ [(D,seqObj "list" #[] e1)]),p.1≠kS)
  (rk:Vals acc ks) (rv:Vals xs its) (hl:ks.length=its.length) (hz:its.length<64) (hR:Iss X.K H (rs.map fun a=>.tup (F.dec a)) acc)
  (h:∀ s' (ys:List (α × V)) (out:List Value) c,ys.Perm (rs.zip xs)->ys.Pairwise (fun p q=>F.lt q.1 p.1=false)->Vals (ys.map (·.2)) out->out.length<64->Inv X (pins ++ [(D,seqObj "list" (aZ out) c)]) σ H s'->P (.done (.ret .none)) s') :
  wpAny (model X.prog X.w) A (ksk_end D false its.toArray e1 (.ref kS) (aZ ks)) P E s:=by
 have L1:=hR.len
 have L2:=rk.length
 have L3:=rv.length
 rw[ag] at L1
 have lz:(rs.zip xs).length=its.length:=by rw[List.length_zip];lia
 unfold ksk_end
 simp only[bD,if_false]
 by_cases h2:its.toArray.size<2
 ·rw[if_pos h2,if_pos h2]
  refine oh (oj ?_)
  rw[StateT.run_pure]
  refine oh (oj ?_)
  (try dsimp only)
  refine Qo (out:=its) I hD hK nD nK (by lia) ?_ hz rfl fun s' c I'=>h s' (rs.zip xs) its c (List.Perm.refl _) ?_ ?_ hz I'
  ·show ((aZ ks).zip its.toArray).map (·.2)=_
   apply Array.toList_inj.mp
   rw[Array.toList_map,ksk_zip]
   exact List.map_snd_zip (by simp;lia)
  ·rw[al] at h2
   match rs.zip xs,lz with
   | [],_=>exact List.Pairwise.nil
   | [a],_=>exact d8 _ _
   | _::_::_,lz=>exact absurd lz (by simp only[aL];lia)
  ·rw[List.map_snd_zip (by lia)]
   exact rv
 ·rw[if_neg h2,if_neg h2]
  rw[al] at h2
  obtain⟨fs,t1,t2,t3⟩:=Qz FO I (M:=model X.prog X.w) rs acc ks hR rk
  refine oh (PySem.W.kat_kind t1 (by lia) t3 (by simp) ?_)
  have hfst:((Value.type (if F.fst=true then "int" else "tuple"):Value) != Value.type "tuple")=F.fst:=by
   cases hF:F.fst with
   | true=>rfl
   | false=>rfl
  rw[hfst]
  have W:Wk (fun i j=>F.lt (rs.getD i F.d0) (rs.getD j F.d0)):=⟨fun a b=>FO.w.asym _ _,fun a b c=>FO.w.ntr _ _ _⟩
  have ok:=Ju (n:=its.length) W (by lia)
  have lt_eq:(fun i j=>F.lt (rs.getD i F.d0) (rs.getD j F.d0))=(fun i j=>(fun(p q:α × V)=>F.lt p.1 q.1) ((rs.zip xs).getD i (F.d0,.non)) ((rs.zip xs).getD j (F.d0,.non))):=by
   have one:∀ i,((rs.zip xs).getD i (F.d0,V.non)).1=rs.getD i F.d0:=fun i=>by
    by_cases hi:i<its.length
    ·have a1:i<rs.length:=by lia
     have a2:i<xs.length:=by lia
     rw[ae,ae,ak (by lia),ak a1]
     simp
    ·rw[ae,ae,cB (by lia),cB (by lia)]
     rfl
   funext i j
   simp only[one]
  have wp:=Kok.wp (n:=its.length) (cmp:=fm X.prog X.w A (tuples' F.fst) ks) (I:=fun s'=>Inv X ((pins ++ [(D,seqObj "list" #[] e1)]) ++ [(kS,seqObj "list" (aZ ks) e)]) σ H s')
   (R:=fun p s'=>(Rg its.length p/\Up (fun i j=>F.lt (rs.getD i F.d0) (rs.getD j F.d0)) p its.length)/\Inv X ((pins ++ [(D,seqObj "list" #[] e1)]) ++ [(kS,seqObj "list" (aZ ks) e)]) σ H s')
   (fun i j C s' hi hj I' hC=>?_) (fun p s' hp I'=>⟨hp,I'⟩) _ s I ok
  ·have run:=PySem.W.kat_run (E:=E) (vs:=its) (ks:=ks) (Q:=fun st' s'=>∃ p:Array Nat,p.size=its.length/\arrOf st'=p.map (PySem.W.kas_item (ks.toArray.zip its.toArray))/\failedOf st'=none/\_) hl (by lia) hz (fun p' st' s' a1 a2 a3 a4=>⟨p',a1,a2,a3,a4⟩) wp
   refine oh (wpAny_mono run ?_ fun _ _ e=>e)
   rintro⟨⟨⟩,st'⟩ s' ⟨p,hp,har,hf,⟨hR1,hU⟩,I'⟩
   (try dsimp only)
   have hout:=PySem.W.kat_snds (ks:=ks) (vs:=its) hl har
   have hR2:Rg (rs.zip xs).length p:=by rw[lz];exact hR1
   rw[lt_eq,<- lz] at hU
   obtain⟨g1,g2⟩:=WY (g:=fun(p q:α × V)=>F.lt p.1 q.1) hR2 hU
   have olen:(p.toList.map fun i=>its.getD i Value.none).length=its.length:=by rw[ag,dA,hp]
   refine Qo (out:=p.toList.map fun i=>its.getD i Value.none) I' hD hK nD nK (by lia) hout (by lia) hf fun s2 c I2=>h s2 _ _ c g1 g2 ?_ (by lia) I2
   rw[dq]
   have all:∀(js:List Nat),(∀ j ∈ js,j<its.length)->Vals (js.map ((fun x:α × V=>x.2) ∘ fun i=>(rs.zip xs).getD i (F.d0,.non))) (js.map fun i=>its.getD i Value.none):=by
    intro js
    induction js with
    | nil=>intro _;exact .nil
    | cons j js ih =>
     intro hj
     refine .cons ?_ (ih fun i hi=>hj i (aw _ hi))
     have hjl:=hj j aI
     have a1:j<xs.length:=by lia
     obtain⟨u,hu1,ru⟩:=xJ rv (j:=j) (x:=xs[j]) (ak a1)
     have e1:((rs.zip xs).getD j (F.d0,V.non)).2=xs[j]:=by
      rw[ae,ak (by lia)]
      simp
     have e2:its.getD j Value.none=u:=by rw[ae,hu1];rfl
     show RelV ((rs.zip xs).getD j (F.d0,V.non)).2 (its.getD j Value.none)
     rw[e1,e2]
     exact ru
   exact all p.toList fun j hj=>List.mem_range.mp (hR1.mem_iff.mp hj)
  ·have a1:i<rs.length:=by lia
   have a2:j<rs.length:=by lia
   have gi:(rs.map fun a=>_root_.L3.D.tup (F.dec a))[i]? = some (.tup (F.dec rs[i])):=by rw[aE,ak a1];rfl
   have gj:(rs.map fun a=>_root_.L3.D.tup (F.dec a))[j]? = some (.tup (F.dec rs[j])):=by rw[aE,ak a2];rfl
   obtain⟨x,hx,ix⟩:=hR.at gi
   obtain⟨y,hy,iy⟩:=hR.at gj
   obtain⟨u,hu1,ru⟩:=xJ rk hx
   obtain⟨v,hv1,rv1⟩:=xJ rk hy
   have e1:ks.getD i Value.none=u:=by rw[ae,hu1];rfl
   have e2:ks.getD j Value.none=v:=by rw[ae,hv1];rfl
   have e3:rs.getD i F.d0=rs[i]:=by rw[ae,ak a1];rfl
   have e4:rs.getD j F.d0=rs[j]:=by rw[ae,ak a2];rfl
   unfold fm
   rw[e1,e2]
   refine J6 I' hu ix iy ru rv1 (FO.ok _ _) (FO.dp _) (fun hb=>?_) ?_
   ·obtain⟨d,r,ed,hd⟩:=FO.sh rs[i]
    obtain⟨d',r',ed',hd'⟩:=FO.sh rs[j]
    rcases hd with ⟨_,n,rfl⟩ | ⟨z,_⟩
    ·rcases hd' with ⟨_,n',rfl⟩ | ⟨z,_⟩
     ·exact⟨⟨n,r,ed⟩,n',r',ed'⟩
     ·rw[hb] at z;cases z
    ·rw[hb] at z;cases z
   ·rw[FO.eq,<- e3,<- e4]
    exact hC s' I'
end
end L3
namespace L3
noncomputable def uj(kc:V->Hp->VK->Prop):List V->List V->Hp->(List V->Hp->Prop)->Prop
 | [],acc,H,Q=>Q acc H
 | x::xs,acc,H,Q=>kc x H (fun k H'=>uj kc xs (acc ++ [k]) H' Q)
section
variable{X:Cx}{pins:List (Addr × Obj)}{σ:L2.St}{H:Hp}{s:Shared}
theorem JS{α:Type}{F:KeyFam α}(FO:F.Ok){k:Nat}{q:Addr}{kc:V->Hp->VK->Prop}(hr:Room (k+2) X.A)
  (hkc:∀(pins':List (Addr × Obj)) (s:Shared) (H:Hp) (x:V) (u:Value) (Q:VK),Inv X pins' σ H s->RelV x u->kc x H Q->wpAny (model X.prog X.w) X.A.in1.in1 (call (.ref q) [u]) (EP X pins' σ Q) (fun _ _=>False) s)
  {D kS:Addr} {e1:Nat} {its:List Value} {xs:List V} {E:Value->Shared->Prop} {P:PySem.Fin->Shared->Prop} {Q:VK}
  (I:Inv X ((pins ++ [(D,seqObj "list" #[] e1)]) ++ [(kS,seqObj "list" #[] 0)]) σ H s)
  (hD:X.s₀.heap.objs.size<=D) (hK:X.s₀.heap.objs.size<=kS) (nD:∀ p ∈ X.pn ++ pins,p.1≠D) (nK:∀ p ∈ X.pn ++ (pins ++ [(D,seqObj "list" #[] e1)]),p.1≠kS)
  (rv:Vals xs its) (hz:its.length<64)
  (ht:uj kc xs [] H (XD X.K F xs Q))
  (hP:∀ s',EP X pins σ Q (.ref D) s'->P (.done (.ret .none)) s') :
  wpAny (model X.prog X.w) X.A.in1.in1 (ksk_rest D (.ref q) false its.toArray e1 (.ref kS)) P E s:=by
 unfold ksk_rest
 refine oh (wpAny_rule ?_)
 rw[List.forIn_toArray]
 refine oh (ksk_fold (fun j s'=>∃ acc ks e H',Inv X ((pins ++ [(D,seqObj "list" #[] e1)]) ++ [(kS,seqObj "list" (aZ ks) e)]) σ H' s'/\Vals acc ks/\ks.length=j/\uj kc (xs.drop j) acc H' (XD X.K F xs Q))
  its 0 s ⟨[],[],0,H,I,.nil,rfl,ht⟩ (fun j x s1 hx hJ=>?_) fun s1 hJ=>?_)
 ·obtain⟨acc,ks,e,H1,I1,rk,hkl,tk⟩:=hJ
  rw[eU] at hkl tk
  have hjl:j<its.length:=(List.getElem?_eq_some_iff.mp hx).1
  have L3:=rv.length
  obtain⟨u,hu,ru⟩:=xJ rv (j:=j) (x:=xs[j]) (ak (by lia))
  rw[hx] at hu
  cases hu
  rw[aR (by lia)] at tk
  refine oh (wpAny_attempt (wpAny_mono (hkc _ _ _ _ _ _ I1 ru tk) (fun kv s2 hk=>?_) fun _ _ z=>z.elim))
  obtain⟨v,H2,I2,rv2,tk2⟩:=hk
  have pk:=Inv.at_pin I2
  have sb:=Heap.SameBut.update s2.heap kS (Obj.mapSeq (·.push kv))
  have ea:(aZ ks).push kv=aZ (ks ++ [kv]):=by simp
  obtain⟨c2,hc2⟩:∃ c2,(s2.heap.update kS (Obj.mapSeq (·.push kv))).get? kS=some (seqObj "list" (aZ (ks ++ [kv])) c2):=⟨_,by rw[<- ea];exact get?_update_seq pk (·.push kv)⟩
  have I3:=Inv.repin I2 hK nK sb hc2 xU
  (try dsimp only)
  refine oh (listUpdate_at pk rfl ?_ (by rw[al,sizeLine_eq];lia) (by rw[Array.size_push,al,sizeLine_eq];lia))
  refine oj ⟨rfl,acc ++ [v],ks ++ [kv],c2,H2,I3,rk.append (.cons rv2 .nil),by rw[au,eE,hkl];lia,?_⟩
  rw[eU]
  exact tk2
 ·obtain⟨acc,ks,e,H1,I1,rk,hkl,tk⟩:=hJ
  rw[eU] at hkl tk
  have L3:=rv.length
  rw[<- L3,dX] at tk
  obtain⟨rs,hR,hq⟩:=tk
  (try dsimp only)
  refine oh (listItems_at (Inv.at_pin I1) rfl ?_)
  refine zaO FO (by have:=hr.in1.in1.un;lia) I1 hD hK nD nK rk rv hkl hz hR fun s' ys out c p1 p2 p3 p4 I'=>hP s' ?_
  have fp:=Inv.fp_of_pin I' hD nD
  refine⟨.ref D,_,Inv.track I'.unpinned (a:=D) (o:=.lst (ys.map (·.2))) fp ⟨?_,out,c,p3,Inv.at_pin I'⟩,rfl,hq ys p1 p2 D fp.1⟩
  rw[p3.length,sizeLine_eq]
  lia
theorem WI{α:Type}{F:KeyFam α}(FO:F.Ok){k:Nat}{q l:Addr}{xs:List V}{kc:V->Hp->VK->Prop}{Q:VK}(hr:Room (k+2) X.A)
  (hkc:∀(pins':List (Addr × Obj)) (s:Shared) (H:Hp) (x:V) (u:Value) (Q:VK),Inv X pins' σ H s->RelV x u->kc x H Q->wpAny (model X.prog X.w) X.A.in1.in1 (call (.ref q) [u]) (EP X pins' σ Q) (fun _ _=>False) s)
  (I:Inv X pins σ H s) (hS:SqL X.K H l xs) (hz:xs.length<64) (ht:uj kc xs [] H (XD X.K F xs Q)) :
  wpAny (model X.prog X.w) X.A (call (.builtin "sorted") [.ref l] [(bv "key",.ref q)]) (EP X pins σ Q) X.xe s:=by
 obtain⟨its,rv,pl,_⟩:=I.list hS
 have hlen:=rv.length
 refine call_function_entry_kw kind_sorted plain_sorted entry_sorted (ksk_s1 _ _) ?_
 unfold Builtin.«sorted»
 refine oh (m:=checkCount "sorted" 1 1 _) (oj ?_)
 refine oh (collect_list pl.isList ?_ (by rw[sizeLine_eq];lia))
 refine oh (wpAny_newList ?_ (by rw[sizeLine_eq];lia))
 generalize hh1:((s.heap.push (seqObj "list" #[] 0)).update s.heap.objs.size (Obj.mapSeq (· ++ its.toArray)))=h1
 have sz1:h1.objs.size=s.heap.objs.size+1:=by rw[<- hh1,dg,size_push']
 have kp1:∀ b o,s.heap.get? b=some o->h1.get? b=some o:=fun b o e=>by
  have hlt:b<s.heap.objs.size:=av e
  rw[<- hh1,Heap.get?_update_ne _ _ _ _ (aA hlt),Heap.get?_push_ne _ _ _ (aA hlt)]
  exact e
 have hoL:(h1.push (seqObj "list" its.toArray 0)).get? h1.objs.size=some (seqObj "list" its.toArray 0):=aF _ rfl
 show wpAny _ _ _ _ _ { s with heap:=h1.push (seqObj "list" its.toArray 0) }
 refine oh (wpAny_holding (wpAny_call_entry_kw slot_list_sort ⟨_,hoL,rfl⟩ entry_list_sort ?body (ksk_l1 _ _)))
 show wpAny _ _ (Builtin.«list.sort» ⟨[.ref h1.objs.size],[(bv "key",.ref q)]⟩) _ _ _
 rw[ksk_t1]
 generalize hh2:h1.push (seqObj "list" its.toArray 0)=h2 at hoL
 have sz2:h2.objs.size=h1.objs.size+1:=by rw[<- hh2,size_push']
 have kp2:∀ b o,s.heap.get? b=some o->h2.get? b=some o:=fun b o e=>by rw[<- hh2];exact aa _ (kp1 b o e)
 generalize hDD:h1.objs.size=D at hoL
 obtain⟨e1,ho1⟩:∃ e1,(h2.update D (Obj.mapSeq fun _=>(#[]:Array Value))).get? D=some (seqObj "list" #[] e1):=⟨_,get?_update_seq hoL fun _=>#[]⟩
 have hDs:s.heap.objs.size<=D:=by rw[<- hDD,sz1];exact cA _
 have sb:=Heap.SameBut.update h2 D (Obj.mapSeq fun _=>(#[]:Array Value))
 unfold ksk_tree
 refine oh (listItems_at hoL rfl ?_)
 refine oh (listUpdate_at hoL rfl ?_ (by rw[al,sizeLine_eq];lia) (aG _))
 refine oh (seqEpoch_at ho1 rfl ?_)
 refine oh (wpAny_newTuple ?_ (by show its.length<=_;rw[sizeLine_eq];lia))
 refine oh (wpAny_newList ?_ (aG _))
 refine wpAny_holding ?_
 generalize hh3:(h2.update D (Obj.mapSeq fun _=>(#[]:Array Value))).push (seqObj "tuple" its.toArray 0)=h3
 have sz3:h3.objs.size=s.heap.objs.size+3:=by rw[<- hh3,size_push',dg,sz2,sz1]
 have hoK:(h3.push (seqObj "list" #[] 0)).get? h3.objs.size=some (seqObj "list" #[] 0):=aF _ rfl
 have hoD:(h3.push (seqObj "list" #[] 0)).get? D=some (seqObj "list" #[] e1):=aa _ (by rw[<- hh3];exact aa _ ho1)
 have kp3:∀ b o,s.heap.get? b=some o->(h3.push (seqObj "list" #[] 0)).get? b=some o:=fun b o e=>by
  have hlt:b<s.heap.objs.size:=av e
  refine aa _ ?_
  rw[<- hh3]
  exact aa _ ((sb.2 b (aA (az hlt hDs))).trans (kp2 b o e))
 have I1:Inv X pins σ H { s with heap:=h3.push (seqObj "list" #[] 0) }:=I.kept (t':=s.toks) kp3
 have fD:xH X pins H D:=I.fpOk (by lia) (I.hok.fresh (by lia))
 have fK:xH X pins H h3.objs.size:=I.fpOk (by lia) (I.hok.fresh (by lia))
 have I2:=Inv.newpin I1 fD hoD xU
 have nK:∀ p ∈ X.pn ++ (pins ++ [(D,seqObj "list" #[] e1)]),p.1≠h3.objs.size:=fun p hp=>by
  rcases List.mem_append.mp hp with z | z
  ·exact fK.2.2.2.2.2 p (br _ z)
  ·rcases List.mem_append.mp z with z | z
   ·exact fK.2.2.2.2.2 p (aB _ z)
   ·have e:p=(D,seqObj "list" #[] e1):=by simpa using z
    subst e
    show D≠_
    lia
 have I3:=Inv.newpin I2 (b:=h3.objs.size) ⟨fK.1,fK.2.1,fK.2.2.1,fK.2.2.2.1,fK.2.2.2.2.1,nK⟩ hoK xU
 have hsz:=I.sz
 have hK0:X.s₀.heap.objs.size<=h3.objs.size:=by lia
 exact JS FO hr hkc I3 (by lia) hK0 fD.2.2.2.2.2 nK rv (by lia) ht fun s' hE=>⟨_,rfl,oj ⟨_,rfl,hE⟩⟩
end
end L3
namespace L3
noncomputable def WN(X:Cx)(N:List Str)(s:Shared)(H:Hp)(qual:Str)(scope:Scope)(f:Addr)(cd:Value)(cl:List (Str × Addr)):Cx where
 prog:=X.prog
 w:=X.w
 K:=X.K
 mg:=X.mg
 base:=X.base
 A:=X.A.in1.in1.deeper (d5 qual scope s.heap.objs.size f cd cl)
 N:=N
 s₀:=s
 H₀:=H
 env:=d5 qual scope s.heap.objs.size f cd cl
 outer:=X.stack
 stack:=d5 qual scope s.heap.objs.size f cd cl::X.stack
 ex:=[]
 calm:=true
 fn:=fun _=>false
 pn:=[]
 xe:=fun _ _=>False
structure Q6(p y:Str)(scope:Scope):Prop where
 kind:scope.kind=.function
 co:scope.isCoroutine=false
 gen:scope.isGenerator=false
 nocell:∀ z ∈ scope.names,z.2≠.cell
 par:scope.names.lookup p=some .local
 fre:scope.names.lookup y=some .free
 one:∀ q ∈ scope.names,q.2=.free->q.1=y
 ne:p≠y
section
variable{X:Cx}{pins:List (Addr × Obj)}{σ:L2.St}{H:Hp}{s:Shared}{p y name qual:Str}{scope:Scope}{params:Arguments}{body:Expr}{f c' c:Addr}{pm ctv cv:Value}{k iy:Nat}{vy x:V}{u:Value}{Q:VK}{t:TE}
theorem QN(S:Q6 p y scope)(hd:X.A.in1.in1.handled=none)(I:Inv X pins σ H s)(hy:X.N[iy]? = some y)(hσ:σ[iy]? = some (some vy))(hvis:X.env.scope.names.lookup y=some .cell)(hc:X.env.cells.lookup y=some c)(rx:RelV x u){h₁:Heap}{tk:Nat}
  (hns:h₁.Ns s.heap.objs.size (fun z=>[(p,u)].reverse.lookup z)) (hk₁:∀ b o,s.heap.get? b=some o->h₁.get? b=some o) :
  Inv (WN X [p,y] s H qual scope f cv [(y,c)]) [] [some x,some vy] H { s with heap:=h₁,toks:=tk }:=by
 obtain⟨m,hn,hl⟩:=I.loc
 obtain⟨uy,ry,lk⟩:=hl iy y vy hy hσ (.inr (.inl hvis))
 have hcell:s.heap.IsCell c (some uy):=by
  rcases lk with ⟨z,_⟩ | ⟨_,c2,e2,z⟩
  ·have z':X.env.scope.names.lookup y=some .local:=z
   rw[hvis] at z'
   cases z'
  ·rw[hc] at e2
   cases e2
   exact z
 have hcell':h₁.IsCell c (some uy):=by
  obtain⟨o,e,d⟩:=hcell
  exact⟨o,hk₁ _ _ e,d⟩
 have e0:=I.env0
 have noA:∀ b:Addr,b ∉ (WN X [p,y] s H qual scope f cv [(y,c)]).ex:=fun b z=>absurd (show b ∈ ([]:List Addr) from z) (by simp)
 have lkc:∀ z d,bc z [(y,c)]=some d->z=y/\d=c:=fun z d h=>by
  rw[aT] at h
  by_cases hz:(z == y)=true
  ·rw[hz] at h
   cases h
   exact⟨by simpa using hz,rfl⟩
  ·rw[show (z == y)=false by simpa using hz] at h
   cases h
 have lky:bc y [(y,c)]=some c:=by rw[aT];simp
 refine⟨⟨e0.mod,S.kind,rfl,rfl,aq _,fun z z' d h1 h2=>?_,fun z hz=>?_,fun z d h _=>?_,fun _=>hd,Around.frames_deeper e0.frames,.inr ⟨rfl,rfl⟩,fun b z=>absurd z (noA b),e0.bs,e0.bsz,fun b _ _=>noA b,fun b z=>absurd z (noA b),e0.funs,e0.frf⟩,
  rfl,e0.bare,Un.kept hk₁,⟨_,hns,fun i z v h1 h2 h3=>?_⟩,fun z d h=>?_,e0.hok.fresh (aq _),fun z d h=>?_,fun q hq=>absurd (show q ∈ ([]:List (Addr × Obj)) from hq) (by simp),e0.hok.kept hk₁,rfl⟩
 ·rw[(lkc _ _ h1).1,(lkc _ _ h2).1]
 ·have hz':scope.names.lookup z=some .cell\/scope.names.lookup z=some .free:=hz
  rcases hz' with hz' | hz'
  ·exact absurd rfl (S.nocell _ (bK hz'))
  ·rw[show z=y from S.one _ (bK hz') rfl]
   exact⟨c,lky⟩
 ·exact absurd (show (false:Bool)=true from h) (by decide)
 ·match i,h1,h2 with
  | 0,h1,h2 =>
   cases h1
   cases h2
   refine⟨u,rx,.inl ⟨S.par,?_⟩⟩
   show bc p [(p,u)].reverse=some u
   simp [bc]
  | 1,h1,h2 =>
   cases h1
   cases h2
   exact⟨uy,ry,.inr ⟨.inr S.fre,c,lky,hcell'⟩⟩
  | i+2,h1,h2=>simp at h2
 ·obtain⟨_,rfl⟩:=lkc z d h
  exact⟨_,hcell'⟩
 ·obtain⟨_,rfl⟩:=lkc z d h
  exact I.freeC y _ hc
theorem Ur(S:Q6 p y scope)(hr:Room (k+3) X.A)(hbind:bindArgs (bP name qual params body scope [(y,c)] pm cv ctv) ⟨[u],[]⟩=pure [(p,u)])(I:Inv X pins σ H s)
  (ho:s.heap.get? f=some { cls:=.type "function",data:=.func (bP name qual params body scope [(y,c)] pm cv ctv) }) (hcd:s.heap.CodeRec cv qual) (hy:X.N[iy]? = some y) (hσ:σ[iy]? = some (some vy)) (hvis:X.env.scope.names.lookup y=some .cell) (hc:X.env.cells.lookup y=some c)
  (rx:RelV x u) (hb:PE (WN X [p,y] s H qual scope f cv [(y,c)]) body t) (h:t [some x,some vy] H Q) :
  wpAny (model X.prog X.w) X.A.in1.in1 (call (.ref f) [u]) (EP X pins σ Q) (fun _ _=>False) s:=by
 have hr2:Room (k+1) X.A.in1.in1:=hr.in1.in1
 refine wpAny_call (PySem.W.kla_callFunE hr2.depth ho rfl S.co S.gen rfl hcd ?_)
 rw[hbind]
 refine oj (wpAny_newFunctionEnv S.nocell (fun z hz=>?_) (fun h₁ hns hsb=>?_) S.kind)
 ·have e:z=(p,u):=by simpa using hz
  subst e
  exact S.par
 have hk₁:∀ b o,s.heap.get? b=some o->h₁.get? b=some o:=fun b o e=>hsb.extBut b o (aA (av e)) (aa _ e)
 refine⟨I.nolimit.keeps hk₁,?_⟩
 have I1:=QN (qual:=qual) (f:=f) (cv:=cv) (tk:=s.toks+1) S hr2.hd I hy hσ hvis hc rx hns hk₁
 show codeAny _ _ (.expr body (d5 qual scope s.heap.objs.size f cv [(y,c)])) _ _
 refine PySem.W.kla_codeExpr (wpAny_mono (hb [] _ _ H Q I1 h) (fun v s' hv=>?_) fun _ _ z=>False.elim z)
 obtain⟨w',H',J,rw',q⟩:=hv
 exact I.after ⟨w',H',J.os,J.bare,J.base,J.hok,rw',q⟩
end
end L3
namespace L3
noncomputable def cdE(c':Addr)(q:Str):HO:=.ext fun h=>h.CodeRec (.ref c') q
noncomputable def fnE(f:Addr)(o:Obj):HO:=.ext fun h=>h.get? f=some o
noncomputable def TabOk(H:Hp)(P:Addr)(pos:Pos)(q:Str):Prop :=
 ∃ ps:Array Value,H P=some (.tbl ps)/\TriplesOk ps.toList/\(codeAmong pos ps.toList=none\/∃ c',codeAmong pos ps.toList=some (.ref c')/\H c'=some (cdE c' q))
noncomputable def SamT(P:Addr)(H H':Hp):Prop:=∀ b o,b≠P->H b=some o->H' b=some o
noncomputable def LamAt(H:Hp)(f:Addr)(name qual:Str)(params:Arguments)(body:Expr)(scope:Scope)(cl:List (Str × Addr)):Prop :=
 ∃(c':Addr) (pm ctv:Value),H c'=some (cdE c' qual)/\H f=some (fnE f { cls:=.type "function",data:=.func (bP name qual params body scope cl pm (.ref c') ctv) })
theorem zaA{P:Program}{w:World}{H:Hp}{h:Heap}{c':Addr}{q:Str}(x:h.CodeRec (.ref c') q):ObjOk P w H h c' (cdE c' q):=by
 refine⟨x,?_,fun h1 h2 a k=>?_⟩
 ·obtain⟨c,o,vs,t,e,g,_⟩:=x
  cases e
  exact⟨o,g⟩
 ·obtain⟨c,o,vs,t,e,g,r⟩:=a
  cases e
  exact⟨_,o,vs,t,rfl,k o g,r⟩
theorem Qe{P:Program}{w:World}{H:Hp}{h:Heap}{f:Addr}{o:Obj}(x:h.get? f=some o):ObjOk P w H h f (fnE f o) :=
 ⟨x,⟨o,x⟩,fun h1 h2 a k=>k o a⟩
section
variable{X:Cx}{pins:List (Addr × Obj)}{σ:L2.St}{H:Hp}{s:Shared}
theorem Inv.grow{P c' f:Addr}{ps more:Array Value}{o:Obj}{q:Str}{h':Heap}{tk:Nat}(I:Inv X pins σ H s)(hP:H P=some (.tbl ps))(hk:∀ b u,b≠P->s.heap.get? b=some u->h'.get? b=some u)(hP':h'.get? P=some { cls:=.none,data:=.fields (ps ++ more) })
  (hc:s.heap.objs.size<=c') (hf:s.heap.objs.size<=f) (hcf:c'≠f) (hcr:h'.CodeRec (.ref c') q) (hfo:h'.get? f=some o) :
  Inv X pins σ (upd (upd (upd H P (.tbl (ps ++ more))) c' (cdE c' q)) f (fnE f o)) { s with heap:=h',toks:=tk }:=by
 have Pl:P<s.heap.objs.size:=I.hok.lt hP
 have hPc:P≠c':=aA (az Pl hc)
 have hPf:P≠f:=aA (az Pl hf)
 have old:∀ b,b<s.heap.objs.size->b≠P->(upd (upd (upd H P (.tbl (ps ++ more))) c' (cdE c' q)) f (fnE f o)) b=H b:=fun b hb hbP=>by
  rw[zq (aA (az hb hf)),zq (aA (az hb hc)),zq hbP]
 have atP:(upd (upd (upd H P (.tbl (ps ++ more))) c' (cdE c' q)) f (fnE f o)) P=some (.tbl (ps ++ more)):=by
  rw[zq hPf,zq hPc,ze]
 have neP:∀ b,H b=none->b≠P:=fun b e z=>by rw[z,hP] at e;cases e
 refine I.un ⟨fun b u e n _ _=>hk b u (neP b n) e,fun b u e n _ _=>⟨u.slots,hk b u (neP b n) e⟩,fun b u e n _=>?_,fun b u e _=>?_,fun b xs e=>?_,fun b ob u e=>?_,fun b qs e=>?_⟩ fun b u e=>?_
 ·rw[old b (av e) (neP b n)]
  exact n
 ·by_cases hb:b=P
  ·subst hb;exact⟨_,hP'⟩
  ·exact⟨u,hk b u hb e⟩
 ·rw[old b (I.hok.lt e) (fun z=>by rw[z,hP] at e;cases e)]
  exact e
 ·rw[old b (I.hok.lt e) (fun z=>by rw[z,hP] at e;cases e)]
  exact e
 ·by_cases hb:b=P
  ·subst hb
   rw[hP] at e
   cases e
   exact⟨more,atP⟩
  ·rw[old b (I.hok.lt e) hb]
   exact⟨#[],by rw[e];simp⟩
 ·by_cases hbf:b=f
  ·subst hbf
   rw[ze] at e
   cases e
   exact Qe hfo
  ·rw[zq hbf] at e
   by_cases hbc:b=c'
   ·subst hbc
    rw[ze] at e
    cases e
    exact zaA hcr
   ·rw[zq hbc] at e
    by_cases hbP:b=P
    ·subst hbP
     rw[ze] at e
     cases e
     exact hP'
    ·rw[zq hbP] at e
     refine (I.hok b u e).stay (fun d v hd g=>hk d v ?_ g) (fun d g=>?_) fun d xs g=>?_
     ·rcases hd with z | z
      ·rw[z];exact hbP
      ·intro z';rw[z',hP] at z;cases z
     ·rw[old d (I.hok.lt g) (fun z=>by rw[z,hP] at g;cases g)]
      exact g
     ·rw[old d (I.hok.lt g) (fun z=>by rw[z,hP] at g;cases g)]
      exact g
end
end L3
namespace L3
theorem ud{a b:Int}{v:Value}:∀(l:List Value),TriplesOk l->TriplesOk (l ++ [rawInt a,rawInt b,v])
 | [],_=>trivial
 | .int _ _::.int _ _::_::rest,h=>ud rest h
theorem kP{h h':Heap}{mg:Str->Option Value}{T:Addr}(x:h.BuiltinsAt mg T)(k:∀ b o,h.get? b=some o->h'.get? b=some o):h'.BuiltinsAt mg T:=by
 obtain⟨bm,o,b1,b2,b3,b4,b5,b6⟩:=x
 exact⟨bm,o,b1,b2,b3,b4,k _ _ b5,b6⟩
section
variable{X:Cx}{pins:List (Addr × Obj)}{σ:L2.St}{H:Hp}{s:Shared}{cc P c:Addr}{y:Str}{params:Arguments}{body:Expr}{scope:Scope}{pos:Pos}{Q:VK}
theorem Uq(hcode:X.env.code=.ref cc)(hC:PySem.W.CodeHd X.base cc P)(hB:X.base.BuiltinsAt X.mg P)(hgP:om≠P)(hcl:closureFor scope X.env=pure [(y,c)])(hdef:defaultsOf params X.env=([],[]))(I:Inv X pins σ H s)
  (hT:TabOk H P pos (X.env.qual ++ "<lambda>"))
  (h:∀ f H',H f=none->LamAt H' f "<lambda>" (X.env.qual ++ "<lambda>") params body scope [(y,c)]->TabOk H' P pos (X.env.qual ++ "<lambda>")->SamT P H H'->Q (.ref f) H') :
  wpAny (model X.prog X.w) X.A (eval (.Lambda params body scope pos) X.env) (EP X pins σ Q) X.xe s:=by
 refine PySem.W.kla_eval hdef ?_
 obtain⟨ps,hP,ht,hh⟩:=hT
 have hPo:s.heap.get? P=some (PySem.W.tabObj ps):=I.hok _ _ hP
 have hg:=I.mod.glob.keeps I.bk
 have Pl:P<s.heap.objs.size:=I.hok.lt hP
 rcases hh with hn | ⟨c',hit,hc'⟩
 ·refine PySem.W.kla_makeFunction (mg:=X.mg) hcl I.ok.glob hg hcode (hC.keeps I.bk) hPo ht hn hgP (kP hB I.bk) fun c' ctv h' tk hx hge hlt hrec htb=>?_
  have hsz:s.heap.objs.size<=h'.objs.size:=cS (bY hge hlt)
  have I1:=Inv.grow (P:=P) (c':=c') (f:=h'.objs.size) (more:=#[rawInt pos.line,rawInt pos.col,.ref c']) (tk:=tk) (o:={ cls:=.type "function",data:=.func (bP "<lambda>" (X.env.qual ++ "<lambda>") params body scope [(y,c)] ((X.mg "__name__").getD .none) (.ref c') ctv) }) I hP
   (fun b u hb e=>aa _ (hx b u hb e)) (aa _ htb) hge hsz (aA hlt) (hrec.push _) (aF _ rfl)
  have hPc:P≠c':=aA (az Pl hge)
  have hPf:P≠h'.objs.size:=aA (az Pl hsz)
  have atc:(upd (upd (upd H P (.tbl (ps ++ #[rawInt pos.line,rawInt pos.col,.ref c']))) c' (cdE c' (X.env.qual ++ "<lambda>"))) h'.objs.size (fnE h'.objs.size { cls:=.type "function",data:=.func (bP "<lambda>" (X.env.qual ++ "<lambda>") params body scope [(y,c)] ((X.mg "__name__").getD .none) (.ref c') ctv) })) c'=some (cdE c' (X.env.qual ++ "<lambda>")):=by
   rw[zq (aA hlt),ze]
  refine⟨.ref h'.objs.size,_,I1,rfl,h _ _ (I.hok.fresh hsz) ⟨c',_,ctv,atc,ze⟩ ⟨ps ++ #[rawInt pos.line,rawInt pos.col,.ref c'],?_,?_,.inr ⟨c',?_,atc⟩⟩ fun b o hb e=>?_⟩
  ·rw[zq hPf,zq hPc,ze]
  ·rw[eQ]
   exact ud _ ht
  ·rw[eQ]
   exact codeAmong_snoc _ ht hn
  ·have hl:=I.hok.lt e
   rw[zq (aA (az hl hsz)),zq (aA (az hl hge)),zq hb]
   exact e
 ·refine PySem.W.kla_makeFunctionHit (mg:=X.mg) hcl I.ok.glob hg hcode (hC.keeps I.bk) hPo ht hit (kP hB I.bk) fun ctv h' tk hk hsz=>?_
  have hfr:H h'.objs.size=none:=I.hok.fresh hsz
  have I1:=I.laid (a:=h'.objs.size) (t':=tk) (h':=h'.push { cls:=.type "function",data:=.func (bP "<lambda>" (X.env.qual ++ "<lambda>") params body scope [(y,c)] ((X.mg "__name__").getD .none) (.ref c') ctv) })
   (o:=fnE h'.objs.size { cls:=.type "function",data:=.func (bP "<lambda>" (X.env.qual ++ "<lambda>") params body scope [(y,c)] ((X.mg "__name__").getD .none) (.ref c') ctv) })
   (fun b u e=>aa _ (hk b u e)) hsz (Qe (aF _ rfl))
  have sm:=zf (o:=fnE h'.objs.size { cls:=.type "function",data:=.func (bP "<lambda>" (X.env.qual ++ "<lambda>") params body scope [(y,c)] ((X.mg "__name__").getD .none) (.ref c') ctv) }) hfr
  exact⟨.ref h'.objs.size,_,I1,rfl,h _ _ hfr ⟨c',_,ctv,sm _ _ hc',ze⟩ ⟨ps,sm _ _ hP,ht,.inr ⟨c',hit,sm _ _ hc'⟩⟩ fun b o _ e=>sm _ _ e⟩
end
end L3
namespace L3
noncomputable def zbz(R:V->Hp->Prop):List V->Hp->Prop
 | [v],H=>R v H
 | _,_=>False
theorem Vx{R:V->Hp->Prop}:∀{vs:List V} {H:Hp},zbz R vs H->∃ v,vs=[v]/\R v H
 | [v],_,h=>⟨v,rfl,h⟩
noncomputable def zb3(P:Addr)(pos:Pos)(q:Str)(LA:Hp->Addr->Prop):TE:=fun σ H Q=>TabOk H P pos q/\∀ f H',H f=none->LA H' f->TabOk H' P pos q->SamT P H H'->Q (.ref f) H'
noncomputable def Qq{α:Type}(K:ot)(F:KeyFam α)(P:Addr)(pos:Pos)(q:Str)(LA:Hp->Addr->Prop)(iy:Nat)(te tb:TE):TE:=fun σ H Q=>te σ H fun v H1=>TabOk H1 P pos q /\
 ∀ f H2,H1 f=none->LA H2 f->TabOk H2 P pos q->SamT P H1 H2->∃ l xs vy,v=.ref l/\SqL K H2 l xs/\xs.length<64/\σ[iy]? = some (some vy)/\uj (fun x H Q=>LA H f/\tb [some x,some vy] H Q) xs [] H2 (XD K F xs Q)
section
variable{X:Cx}{cc P c:Addr}{x p y:Str}{params:Arguments}{body e:Expr}{scope:Scope}{lpos kpos pos pp:Pos}{k iy:Nat}{te tb:TE}
theorem zab(hcode:X.env.code=.ref cc)(hC:PySem.W.CodeHd X.base cc P)(hB:X.base.BuiltinsAt X.mg P)(hgP:om≠P)(hcl:closureFor scope X.env=pure [(y,c)])(hdef:defaultsOf params X.env=([],[])) :
  PE X (.Lambda params body scope lpos) (zb3 P lpos (X.env.qual ++ "<lambda>") fun H f=>LamAt H f "<lambda>" (X.env.qual ++ "<lambda>") params body scope [(y,c)]):=by
 intro pins s σ H Q I h
 exact Uq hcode hC hB hgP hcl hdef I h.1 h.2
theorem Ud{α:Type}{F:KeyFam α}(FO:F.Ok)(S:Q6 p y scope)(hr:Room (k+3) X.A)(hg:Gl X x)(hm:X.mg x=none)(hv:bootBuiltins x=some (.builtin "sorted"))(ha:PA X [e] (zN te wq))
  (hcode:X.env.code=.ref cc) (hC:PySem.W.CodeHd X.base cc P) (hB:X.base.BuiltinsAt X.mg P) (hgP:om≠P) (hcl:closureFor scope X.env=pure [(y,c)]) (hdef:defaultsOf params X.env=([],[]))
  (hbind:∀(cv pm ctv u:Value),bindArgs (bP "<lambda>" (X.env.qual ++ "<lambda>") params body scope [(y,c)] pm cv ctv) ⟨[u],[]⟩=pure [(p,u)]) (hy:X.N[iy]? = some y) (hvis:X.env.scope.names.lookup y=some .cell) (hc:X.env.cells.lookup y=some c)
  (hb:∀(s:Shared) (H:Hp) (f:Addr) (cv:Value),Room k (WN X [p,y] s H (X.env.qual ++ "<lambda>") scope f cv [(y,c)]).A->PE (WN X [p,y] s H (X.env.qual ++ "<lambda>") scope f cv [(y,c)]) body tb)
  (hn:x≠"__name__":=by decide) (hdb:(x == ("__debug__" : Str))=false:=by decide)
  (hks:(backToKw pos (keywordEach [⟨some "key",.Lambda params body scope lpos,kpos⟩] X.env)).filterMap (·.1)=[bv "key"]:=by rfl)
  (hst:backTo pos (oo [e] X.env)=(false,eval e X.env)::backTo pos (oo [] X.env):=by rfl) (hpl:(backTo pos (oo [e] X.env)).any (·.1)=false:=by rfl)
  (hall:(backToKw pos (keywordEach [⟨some "key",.Lambda params body scope lpos,kpos⟩] X.env)).all (·.1.isSome)=true:=by rfl) (hkw:(backToKw pos (keywordEach [⟨some "key",.Lambda params body scope lpos,kpos⟩] X.env)).any (·.1.isNone)=false:=by rfl) :
  PE X (.Call (.Name x pp) [e] [⟨some "key",.Lambda params body scope lpos,kpos⟩] pos) (Qq X.K F P lpos (X.env.qual ++ "<lambda>") (fun H f=>LamAt H f "<lambda>" (X.env.qual ++ "<lambda>") params body scope [(y,c)]) iy te tb):=by
 intro pins s σ H Q I h
 have hlam:PE X (.Lambda params body scope lpos) (zb3 P lpos (X.env.qual ++ "<lambda>") fun H f=>LamAt H f "<lambda>" (X.env.qual ++ "<lambda>") params body scope [(y,c)]):=zab hcode hC hB hgP hcl hdef
 refine wpAny_Call_Name_kw (w4 I hg hm hv ?_ hn hdb)
 have h':(zN te wq) σ H (zbz fun v H1=>TabOk H1 P lpos (X.env.qual ++ "<lambda>")/\∀ f H2,H1 f=none->LamAt H2 f "<lambda>" (X.env.qual ++ "<lambda>") params body scope [(y,c)]->TabOk H2 P lpos (X.env.qual ++ "<lambda>")->SamT P H1 H2 ->
   ∃ l xs vy,v=.ref l/\SqL X.K H2 l xs/\xs.length<64/\σ[iy]? = some (some vy)/\uj (fun x H Q=>LamAt H f "<lambda>" (X.env.qual ++ "<lambda>") params body scope [(y,c)]/\tb [some x,some vy] H Q) xs [] H2 (XD X.K F xs Q)):=h
 refine callWith_kw (thn (ha pos pins s σ H _ I h') fun us s1 ⟨vs,H1,I1,r1,q1⟩=>?_) hst hpl hall hkw
 obtain⟨v,rfl,hT,q1⟩:=Vx q1
 obtain⟨u,rfl,ru⟩:=wf r1
 refine thn ((XV hlam Qx:PK X [⟨some "key",.Lambda params body scope lpos,kpos⟩] _) pos pins s1 σ H1 (zbz fun kv H2=>∃ f,kv=.ref f/\LamAt H2 f "<lambda>" (X.env.qual ++ "<lambda>") params body scope [(y,c)] /\
   ∃ l xs vy,v=.ref l/\SqL X.K H2 l xs/\xs.length<64/\σ[iy]? = some (some vy)/\uj (fun x H Q=>LamAt H f "<lambda>" (X.env.qual ++ "<lambda>") params body scope [(y,c)]/\tb [some x,some vy] H Q) xs [] H2 (XD X.K F xs Q)) I1 ⟨hT,fun f H2 a1 a2 a3 a4=>⟨f,rfl,a2,q1 f H2 a1 a2 a3 a4⟩⟩) fun ws s2 ⟨zs,H2,I2,r2,q2⟩=>?_
 obtain⟨kv,rfl,f,rfl,hLA,l,xs,vy,rfl,hS,hz,hσ,hk⟩:=Vx q2
 obtain⟨w',rfl,rw'⟩:=wf r2
 cases rw'
 cases ru
 rw[hks]
 show wpAny _ _ (call (.builtin "sorted") [.ref l] [(bv "key",.ref f)]) _ _ _
 refine WI FO (k:=k+1) hr (fun pins' s3 H3 x3 u3 Q3 I3 r3 h3=>?_) I2 hS hz hk
 obtain⟨⟨c',pm,ctv,e1,e2⟩,h4⟩:=h3
 have hcd:s3.heap.CodeRec (.ref c') (X.env.qual ++ "<lambda>"):=(I3.hok _ _ e1).1
 have ho:=(I3.hok _ _ e2).1
 exact Ur (k:=k) S hr (hbind _ _ _ _) I3 ho hcd hy hσ hvis hc r3 (hb s3 H3 f (.ref c') (hr.in1.in1.deeper _)) h4
end
end L3
namespace L3
section
variable{K:ot}
theorem SamT.of{T:Addr}{H H':Hp}(s:Same H H'):SamT T H H':=fun b o _ e=>s b o e
theorem SamT.trans{T:Addr}{H H' H'':Hp}(s:SamT T H H')(s':SamT T H' H''):SamT T H H'':=fun b o n e=>s' b o n (s b o n e)
theorem SamT.at{T b:Addr}{H H':Hp}{ps:Array Value}{o:HO}(s:SamT T H H')(hT:H T=some (.tbl ps))(e:H b=some o)(ho:∀ qs,o≠.tbl qs):H' b=some o:=s b o (fun z=>by rw[z,hT] at e;cases e;exact ho _ rfl) e
theorem SamT.free{T b:Addr}{H H':Hp}{o:HO}(s:SamT T H H')(hT:H' T=some o)(h:H' b=none):H b=none:=by
 cases e:H b with
 | none=>rfl
 | some u =>
  by_cases hb:b=T
  ·rw[hb,hT] at h;cases h
  ·rw[s b u hb e] at h;cases h
theorem SamT.seqL{T a:Addr}{H H':Hp}{ps:Array Value}{xs:List V}(s:SamT T H H')(hT:H T=some (.tbl ps))(h:SqL K H a xs):SqL K H' a xs:=by
 rcases h with (h | ⟨o,h⟩) | h
 ·exact .inl (.inl (s.at hT h fun _ z=>by cases z))
 ·exact .inl (.inr ⟨o,s.at hT h fun _ z=>by cases z⟩)
 ·exact .inr h
theorem SamT.seqT{T a:Addr}{H H':Hp}{ps:Array Value}{xs:List V}(s:SamT T H H')(hT:H T=some (.tbl ps))(h:SqT K H a xs):SqT K H' a xs:=by
 rcases h with (h | ⟨o,h⟩) | h
 ·exact .inl (.inl (s.at hT h fun _ z=>by cases z))
 ·exact .inl (.inr ⟨o,s.at hT h fun _ z=>by cases z⟩)
 ·exact .inr h
mutual
theorem Is.samT{T:Addr}{H H':Hp}{ps:Array Value}(s:SamT T H H')(hT:H T=some (.tbl ps)):∀(d:D) (v:V),Is K H d v->Is K H' d v
 | .non,v,h=>by simp only[Is] at h ⊢;exact h
 | .bl b,v,h=>by simp only[Is] at h ⊢;exact h
 | .int b,v,h=>by simp only[Is] at h ⊢;exact h
 | .str b,v,h=>by simp only[Is] at h ⊢;exact h
 | .lst l,v,h=>by
  simp only[Is] at h ⊢
  obtain⟨a,xs,e1,e2,e3⟩:=h
  exact⟨a,xs,e1,s.seqL hT e2,Iss.samT s hT l xs e3⟩
 | .tup l,v,h=>by
  simp only[Is] at h ⊢
  obtain⟨a,xs,e1,e2,e3⟩:=h
  exact⟨a,xs,e1,s.seqT hT e2,Iss.samT s hT l xs e3⟩
theorem Iss.samT{T:Addr}{H H':Hp}{ps:Array Value}(s:SamT T H H')(hT:H T=some (.tbl ps)):∀(l:List D) (vs:List V),Iss K H l vs->Iss K H' l vs
 | [],vs,h=>by simp only[Iss] at h ⊢;exact h
 | d::l,vs,h=>by
  simp only[Iss] at h ⊢
  obtain⟨v,r,e1,e2,e3⟩:=h
  exact⟨v,r,e1,Is.samT s hT d v e2,Iss.samT s hT l r e3⟩
end
theorem LsA.samT{T a:Addr}{H H':Hp}{ps:Array Value}{ds:List D}(h:LsA K H a ds)(s:SamT T H H')(hT:H T=some (.tbl ps)):LsA K H' a ds:=by
 obtain⟨xs,h1,h2⟩:=h
 exact⟨xs,s.at hT h1 (fun _ z=>by cases z),Iss.samT s hT _ _ h2⟩
theorem TabOk.same{H H':Hp}{T:Addr}{pos:Pos}{q:Str}(h:TabOk H T pos q)(s:Same H H'):TabOk H' T pos q:=by
 obtain⟨ps,h1,h2,h3⟩:=h
 refine⟨ps,s _ _ h1,h2,?_⟩
 rcases h3 with h3 | ⟨c',h4,h5⟩
 ·exact .inl h3
 ·exact .inr ⟨c',h4,s _ _ h5⟩
theorem LamAt.same{H H':Hp}{f:Addr}{name qual:Str}{params:Arguments}{body:Expr}{scope:Scope}{cl:List (Str × Addr)}(h:LamAt H f name qual params body scope cl)(s:Same H H'):LamAt H' f name qual params body scope cl:=by
 obtain⟨c',pm,ctv,h1,h2⟩:=h
 exact⟨c',pm,ctv,s _ _ h1,s _ _ h2⟩
end
end L3
namespace L3
section
variable{P:Program}{w:World}{K:ot}{mg mb:Str->Option Value}{CX:CXT}{k:Nat}{fa a T cc:Addr}{fd:FuncData}{x:Str}{sp:Sp}{s₁:Shared}{vs:List Value}{ns:List Int}{ps:Array Value}
theorem ZE(KX:K.In s₁.heap)(hKT:K.lookup T=none)(hT:s₁.heap.get? T=some { cls:=.none,data:=.fields ps })(hTc:isCodeTable s₁.heap T)(hns:s₁.heap.Ns om mg)(hb:s₁.heap.Ns builtinsNs mb)(hbb:∀ x:Str,x≠"__name__"->mb x=bootBuiltins x)(hlim:s₁.heap.NoLimit)(hg:s₁.gens=#[])
  (ha:s₁.heap.get? a=some { cls:=.type "list",data:=.seq vs.toArray }) (hr:Room k callerA)
  (hbm:s₁.heap.BuiltinsAt mg T) (hcd:PySem.W.CodeHd s₁.heap cc T) (F:∀ base:Heap,K.In base->base.Ns om mg->base.BuiltinsAt mg T->PySem.W.CodeHd base cc T->ye P w K mg base CX k fa fd [x] sp) (hbind:∀(s:Shared) (u:Value),BindsTo s fd ⟨[u],[]⟩ [(x,u)])
  (hCX:∀ H e s',CX [] H s₁ (fun _ _ _=>False) e s'->False) (H:Hp) (h1:H T=some (.tbl ps)) (h2:∀ b u,H b=some u->b=T\/(b=a/\K.lookup a=none/\u=.frz { cls:=.type "list",data:=.seq vs.toArray } (.lst (ns.map V.int))))
  (hok:HOk P w H s₁.heap) (hsp:sp [.ref a] H (fun v _=>v=.bl true) fun _ _ _=>False) :
  codeAny (model P w) callerA (.call (.ref fa) ⟨[.ref a],[]⟩) (fun r s'=>r=.ok (.ret (.bool true))/\OldK s₁.heap s'.heap/\s'.os=s₁.os/\AllBare s'.gens) s₁:=by
 have stay:∀ b o,s₁.heap.get? b=some o->(b≠T)->(b≠a)->(WU s₁.heap H).get? b=some o:=fun b o e n1 n2=>YT e (by
  cases q:H b with
  | none=>rfl
  | some u =>
   rcases h2 b u q with z | z
   ·exact absurd z n1
   ·exact absurd z.1 n2)
 have nsStay:∀(b:Addr) (m:Str->Option Value),s₁.heap.Ns b m->(WU s₁.heap H).Ns b m:=fun b m hN=>by
  obtain⟨o,es,ep,e,d,rest⟩:=hN
  refine⟨o,es,ep,stay b o e (fun z=>?_) (fun z=>?_),d,rest⟩
  ·rw[z,hT] at e
   cases e
   cases d
  ·rw[z,ha] at e
   cases e
   cases d
 have kStay:K.In (WU s₁.heap H):=fun b o e=>by
  have g:=KX b o e
  refine YT g ?_
  cases q:H b with
  | none=>rfl
  | some u =>
   rcases h2 b u q with z | z
   ·rw[z,hKT] at e
    cases e
   ·rw[z.1,z.2.1] at e
    cases e
 have bStay:(WU s₁.heap H).BuiltinsAt mg T:=by
  obtain⟨bm,o,b1,b2,b3,b4,b5,b6,b7,b8⟩:=hbm
  refine⟨bm,o,b1,b2,b3,b4,stay bm o b5 b4 (fun z=>?_),b6,b7,b8⟩
  rw[z,ha] at b5
  cases b5
  simp at b6
 have cStay:PySem.W.CodeHd (WU s₁.heap H) cc T:=by
  obtain⟨o,vs',file,tf,flags,tg,inF,text,tt,c1,c2,c3,c4,c5,c6,c7,c8,c9,c10⟩:=hcd
  refine⟨o,vs',file,tf,flags,tg,inF,text,tt,stay cc o c1 c10 (fun z=>?_),c2,c3,c4,c5,c6,c7,c8,c9,c10⟩
  rw[z,ha] at c1
  cases c1
  simp at c2
 obtain⟨mc,l1,l2⟩:=hlim
 have M0:Mod K mg (WU s₁.heap H):={ kin:=kStay,glob:=nsStay _ _ hns,blt:=⟨mb,nsStay _ _ hb,hbb⟩,nolimit:=⟨mc,nsStay _ _ l1,l2⟩ }
 have E0:Env0 P w K mg (WU s₁.heap H) callerA [] s₁ H:={ frames:=rfl,mod:=M0,bs:=fun b o e=>J9 e,bsz:=Nat.le_of_eq (WA _ _),funs:=trivial,frf:=fun b z=>(nomatch (show b ∈ ([]:List Addr) from z)),hok:=hok,bare:=.of_eq hg }
 refine codeAny_mono ((F _ kStay (nsStay _ _ hns) bStay cStay).run callerA [] s₁ H ⟨[.ref a],[]⟩ [.ref a] [.ref a] (fun v _=>v=.bl true) (fun _ _ _=>False) hr E0 (hbind s₁ (.ref a)) (.cons rfl .nil) hsp) fun r s' hq=>?_
 rcases r with e | fl
 ·exact (hCX H e s' hq).elim
 rcases fl with _ | _ | _ | u
 all_goals first | exact False.elim hq | skip
 obtain⟨v,H',e1,e2,un,hok',rv,ev⟩:=hq
 have ev':v=V.bl true:=ev
 subst ev'
 have eu:u=Value.bool true:=rv
 subst eu
 obtain⟨more,hT2⟩:=un.tbls T ps h1
 have hT3:s'.heap.get? T=some { cls:=.none,data:=.fields (ps ++ more) }:=hok' T _ hT2
 have each:∀ b o,s₁.heap.get? b=some o->b≠T->s'.heap.get? b=some o:=fun b o e n=>by
  cases q:H b with
  | none=>exact un.keep b o e q (fun z=>(nomatch (show b ∈ ([]:List Addr) from z))) (fun z=>(nomatch z))
  | some ob =>
   rcases h2 b ob q with z | ⟨z,_,zz⟩
   ·exact absurd z n
   ·subst zz
    have g:=(hok' b _ (un.frzs b _ _ q)).1
    rw[z,ha] at e
    cases e
    exact g
 refine⟨rfl,⟨fun b o e=>?_,fun b o e=>?_⟩,e1,e2⟩
 ·by_cases hbT:b=T
  ·subst hbT
   rw[hT] at e
   cases e
   exact .inr (.inl ⟨hTc,rfl,ps,more,rfl,hT3⟩)
  ·exact .inl (each b o e hbT)
 ·by_cases hbT:b=T
  ·subst hbT
   exact⟨_,hT3⟩
  ·exact⟨o,each b o e hbT⟩
theorem VB(KX:K.In s₁.heap)(hKT:K.lookup T=none)(hT:s₁.heap.get? T=some { cls:=.none,data:=.fields ps })(hTc:isCodeTable s₁.heap T)(hns:s₁.heap.Ns om mg)(hb:s₁.heap.Ns builtinsNs mb)(hbb:∀ x:Str,x≠"__name__"->mb x=bootBuiltins x)(hlim:s₁.heap.NoLimit)(hg:s₁.gens=#[])
  (ha:s₁.heap.get? a=some { cls:=.type "list",data:=.seq vs.toArray }) (hi:IntsAre vs ns) (hl:ns.length<=oq) (hr:Room k callerA)
  (hbm:s₁.heap.BuiltinsAt mg T) (hcd:PySem.W.CodeHd s₁.heap cc T) (F:∀ base:Heap,K.In base->base.Ns om mg->base.BuiltinsAt mg T->PySem.W.CodeHd base cc T->ye P w K mg base CX k fa fd [x] sp) (hbind:∀(s:Shared) (u:Value),BindsTo s fd ⟨[u],[]⟩ [(x,u)])
  (hCX:∀ H e s',CX [] H s₁ (fun _ _ _=>False) e s'->False) (hsp:∀ H:Hp,H T=some (.tbl ps)->SqL K H a (ns.map V.int)->sp [.ref a] H (fun v _=>v=.bl true) fun _ _ _=>False) :
  codeAny (model P w) callerA (.call (.ref fa) ⟨[.ref a],[]⟩) (fun r s'=>r=.ok (.ret (.bool true))/\OldK s₁.heap s'.heap/\s'.os=s₁.os/\AllBare s'.gens) s₁:=by
 have rv:=Zd hi
 have hlv:=hi.length
 have hTa:a≠T:=fun z=>by
  rw[z,hT] at ha
  cases ha
 rcases hk:K.lookup a with _ | o
 ·refine ZE (ns:=ns) KX hKT hT hTc hns hb hbb hlim hg ha hr hbm hcd F hbind hCX (upd (upd (fun _=>none) T (.tbl ps)) a (.frz { cls:=.type "list",data:=.seq vs.toArray } (.lst (ns.map V.int)))) ?_ (fun b u e=>?_) (fun b u e=>?_) ?_
  ·rw[zq (Ne.symm hTa),ze]
  ·by_cases hba:b=a
   ·subst hba
    rw[ze] at e
    cases e
    exact .inr ⟨rfl,hk,rfl⟩
   ·rw[zq hba] at e
    by_cases hbT:b=T
    ·exact .inl hbT
    ·rw[zq hbT] at e
     cases e
  ·by_cases hba:b=a
   ·subst hba
    rw[ze] at e
    cases e
    exact⟨ha,by rw[ag];exact hl,vs,_,rv,ha⟩
   ·rw[zq hba] at e
    by_cases hbT:b=T
    ·subst hbT
     rw[ze] at e
     cases e
     exact hT
    ·rw[zq hbT] at e
     cases e
  ·exact hsp _ (by rw[zq (Ne.symm hTa),ze]) (.inl (.inr ⟨_,ze⟩))
 ·have e:=KX a o hk
  rw[ha] at e
  cases e
  refine ZE (ns:=ns) KX hKT hT hTc hns hb hbb hlim hg ha hr hbm hcd F hbind hCX (upd (fun _=>none) T (.tbl ps)) ze (fun b u e=>?_) (fun b u e=>?_) (hsp _ ze (.inr ⟨_,vs.toArray,_,hk,rfl,rfl,rfl,by rw[al,hlv];exact hl,by simpa using rv⟩))
  ·by_cases hbT:b=T
   ·exact .inl hbT
   ·rw[zq hbT] at e
    cases e
  ·by_cases hbT:b=T
   ·subst hbT
    rw[ze] at e
    cases e
    exact hT
   ·rw[zq hbT] at e
    cases e
end
noncomputable def JM(K:ot):Bool:=K.all fun p=>match p.2 with
 | ⟨.none,_,.fields _,_⟩=>false
 | _=>true
theorem Ys{T:Addr}{o:Obj}:∀{K:ot},K.lookup T=some o->(T,o) ∈ K
 | [],h=>by cases h
 | p::K,h=>by
  rw[aT] at h
  by_cases hp:T=p.1
  ·rw[show (T == p.1)=true by simpa using hp] at h
   cases h
   rw[hp]
   exact aI
  ·rw[show (T == p.1)=false by simpa using hp] at h
   exact aw _ (Ys h)
theorem V9{K:ot}{T:Addr}{ps:Array Value}{h:Heap}(e:JM K=true)(X:K.In h)(hT:h.get? T=some { cls:=.none,data:=.fields ps }):K.lookup T=none:=by
 cases q:K.lookup T with
 | none=>rfl
 | some o =>
  have g:=X _ _ q
  rw[hT] at g
  cases g
  have:=List.all_eq_true.mp e _ (Ys q)
  simp at this
theorem walk_ofT{l:PySem.W.OpenLaw}{n k:Nat}{q:Program}{loose:List Str}{XP:(Str->Option Value)->Heap->Prop}{YP:World->Heap->Prop}{d din:DefRec}{K:Params->ot}{CX:World->CXT}{sp:World->Addr->Sp}{x:Str}
  (hn:l.most=some n) (hn2:n<=oq) (hdf:d.params.defaults=[]) (hr:Room k callerA) (hdin:din ∈ recsOf q)
  (hY:∀(w:World) (h:Heap),YP w h->(K w.params).In h) (hno:∀ w:World,JM (K w.params)=true)
  (F:∀(w:World) (mg:Str->Option Value) (fa:Addr) (h:Heap) (cc T:Addr),(K w.params).In h->h.Ns om mg->mg d.name=some (.ref fa)->(∃ a o fd,mg din.name=some (.ref a)/\h.get? a=some o/\o.data=.func fd/\fd.code=.ref cc)->om≠T ->
   ∃ fd:FuncData,(∀(s:Shared) (u:Value),BindsTo s fd ⟨[u],[]⟩ [(x,u)]) /\
    ∀ base:Heap,(K w.params).In base->base.Ns om mg->base.BuiltinsAt mg T->PySem.W.CodeHd base cc T->ye l.prog w (K w.params) mg base (CX w) k fa fd [x] (sp w T))
  (hsp:∀(w:World) (H:Hp) (a:Addr) (ns:List Int) (T:Addr),ns.length<=n->(∀ z ∈ ns,qd z)->H T=some (.tbl #[])->SqL (K w.params) H a (ns.map V.int)->sp w T [.ref a] H (fun v _=>v=.bl true) fun _ _ _=>False)
  (hCX:∀(w:World) (H:Hp) (s:Shared) (e:Value) (s':Shared),CX w [] H s (fun _ _ _=>False) e s'->False) :
  PySem.W.WalkO q loose XP YP l.row.toRowW d [] (fun f vs=>fj f vs):=by
 refine Zc hn hdf fun w s₀ s₁ mg mb fa o pm cd doc a vs ns G Y ho hd hcd hmg hobj hints hlen hb' hg=>?_
 have X0:=hY w _ Y
 obtain⟨ai,oi,fdi,cc,T,m1,m2,m3,m4,m5,m6⟩:=G.T.tab din hdin
 have hcd':PySem.W.CodeHd s₁.heap cc T:=PySem.W.CodeHd.of m5 m6
 have hTo:s₁.heap.get? T=some { cls:=.none,data:=.fields #[] }:=m6.2
 have hTc:isCodeTable s₁.heap T:=m6.isCodeTable
 have hgT:om≠T:=fun z=>by
  obtain⟨o,es,ep,e,hd',_⟩:=G.T.g
  rw[z,hTo] at e
  cases e
  cases hd'
 have hbm:s₁.heap.BuiltinsAt mg T:=by
  obtain⟨bm,ob,b1,b2,b3,b4,b5,b6⟩:=G.T.bmain
  refine⟨bm,ob,b1,b2,fun z=>?_,fun z=>?_,b3,b4,b5,b6⟩
  ·obtain⟨o,es,ep,e,hd',_⟩:=G.T.g
   rw[z,e] at b3
   cases b3
   rw[hd'] at b6
   cases b6
  ·rw[z,hTo] at b3
   cases b3
   cases b4
 obtain⟨fd,hbd,hF⟩:=F w mg fa _ cc T X0 G.T.g hmg ⟨ai,oi,fdi,m1,m2,m3,m4⟩ hgT
 exact VB (T:=T) (ps:=#[]) X0 (V9 (hno w) X0 hTo) hTo hTc G.T.g G.T.b G.T.builtins G.T.nolimit hg hobj hints (aQ hlen hn2) hr hbm hcd' hF hbd (fun H e s'=>hCX w H s₁ e s') fun H h1 h2=>hsp w H a ns T hlen hb' h1 h2
theorem Q1{P:Program}{w:World}{K:ot}{mg:Str->Option Value}{base:Heap}{x qual:Str}{st:Stmt}{f cc:Addr}{fd:FuncData}{N ps:List Str}{k:Nat}{sp:Sp}(F:Fun K x qual st f fd)(hcc:fd.code=.ref cc)(S:zr N ps (zb st))(len:∀ vs H Q E,sp vs H Q E->vs.length=ps.length)
  (hbody:∀(A:Around) (outer:List Env) (s:Shared) (H:Hp) (vs:List V) (Q:VK) (E:XK),Room k (A.deeper (envOfC qual (zb st) s.heap.objs.size f (.ref cc)))->sp vs H Q E ->
   ∃ t,PSs (uA CX0 P w K mg base N qual (zb st) f (.ref cc) A outer s H E).nox (zl st) t/\t { nx:=fun _ H'=>Q .non H',rt:=Q } (start N vs) H):ye P w K mg base CX0 (k+1) f fd ps sp:=by
 obtain⟨oc,od,kV,doc,pm,an,cdv,ct,osl,rfl,lk,hcd⟩:=F.ex
 have e:cdv=.ref cc:=hcc
 subst e
 refine U5 lk hcd S len fun A outer s H vs Q E hr hsp=>?_
 obtain⟨t,h,q⟩:=hbody A outer s H vs Q E hr hsp
 exact⟨t,h.nox,q⟩
end L3
namespace PySem
namespace F
end F
section
variable{prog:Program}{w:World}{A:Around}{E:Value->Shared->Prop}{s:Shared}
noncomputable def Heap.IsRevS(h:Heap)(a:Addr)(x:Str)(t:Tok)(i:Int):Prop:=∃ o,h.get? a=some o/\o.cls=.type "reversed"/\o.data=.fields #[.str x t,rawInt i]
theorem Heap.IsRevS.typeIs{a:Addr}{x:Str}{t:Tok}{i:Int}(z:s.heap.IsRevS a x t i):s.TypeIs (.ref a) "reversed":=let ⟨o,ho,hc,_⟩:=z; ⟨o,ho,hc⟩
theorem Heap.IsRevS.at{h h':Heap}{a:Addr}{x:Str}{t:Tok}{i:Int}(z:h.IsRevS a x t i)(e:∀ o,h.get? a=some o->h'.get? a=some o):h'.IsRevS a x t i:=let ⟨o,ho,r⟩:=z; ⟨o,e _ ho,r⟩
end
section
variable{prog:Program}{w:World}{A:Around}{E:Value->Shared->Prop}{s:Shared}
end
end PySem
namespace L3
section
variable{X:Cx}{o a:Expr}{to:TE}{ta:TA}{apos cpos p pos2:Pos}
end
end L3
namespace L2
section
variable{X:Cx}{tg:Expr}
end
end L2
namespace L3
open PySem L2
section
variable{g:TG}{tt:TT}{te:TE}{own:Nat}{ix:List Nat}{σ:L2.St}{H1:Hp}{Q:VK}{D:Addr}
end
end L3
namespace L3
open PySem.AutoSeq1 (wpAny_loadPart')
open MeetsSeq MeetsSeq2 MeetsSeq3 SeqRoads2 SeqAt
section
variable{X:Cx}{pins:List (Addr × Obj)}{σ:St}{H:Hp}{s:Shared}
end
end L3
namespace L3
section
variable{prog:Program}{w:World}{A:Around}{R:Result->Shared->Prop}{I:Addr}{fp wr:List Addr}{G:Array GenState->Array GenState->Prop}{n:Nat}{P:Nat->Value->Prop}{St:Nat->Shared->Prop}
end
section
variable{prog:Program}{w:World}{A:Around}{E:Value->Shared->Prop}{s:Shared}
end
end L3
namespace L3
section
variable{X:Cx}
end
end L3
namespace L3
section
variable{g:TG}{tt:TT}{te:TE}{own:Nat}{ix:List Nat}{σ:L2.St}{H1:Hp}{Q:VK}{D:Addr}
end
end L3
namespace L3
theorem YH{α:Type}[DecidableEq α](k:α)(v:Value)(x:α):∀ kvs:List (α × Value),(kvs.map fun kv=>if kv.1=k then (kv.1,v) else kv).find? (fun kv=>kv.1=x)=(kvs.find? fun kv=>kv.1=x).map fun kv=>if kv.1=k then (kv.1,v) else kv
 | []=>rfl
 | p::kvs=>by
  have e:(if p.1=k then (p.1,v) else p).1=p.1:=by split <;> rfl
  rw[ax,List.find?_cons,List.find?_cons,YH k v x kvs]
  simp only[e]
  by_cases h:p.1=x
  ·simp [h]
  ·simp [h]
theorem Xs{α:Type}[DecidableEq α](kvs:List (α × Value))(k:α)(v:Value)(x:α):valueAt (stored kvs k v) x=if x=k then some v else valueAt kvs x:=by
 unfold stored valueAt
 split
 ·rename_i h
  rw[YH]
  by_cases e:x=k
  ·subst e
   rw[if_pos rfl]
   obtain⟨p,hp,hk⟩:=List.any_eq_true.mp h
   cases hf:kvs.find? fun kv=>kv.1=x with
   | none =>
    have:=List.find?_eq_none.mp hf p hp
    exact absurd hk this
   | some q =>
    have hq:=du hf
    have hq':q.1=x:=by simpa using hq
    simp [hq']
  ·rw[if_neg e]
   cases hf:kvs.find? fun kv=>kv.1=x with
   | none=>rfl
   | some q =>
    have hq:=du hf
    have hq':q.1=x:=by simpa using hq
    have:¬ q.1=k:=fun z=>e (hq'.symm.trans z)
    simp [this]
 ·rename_i h
  rw[List.find?_append]
  by_cases e:x=k
  ·subst e
   rw[if_pos rfl]
   have:kvs.find? (fun kv=>kv.1=x)=none:=by
    rw[List.find?_eq_none]
    intro p hp hk
    exact h (List.any_eq_true.mpr ⟨p,hp,hk⟩)
   rw[this]
   simp
  ·have e':¬ k=x:=fun z=>e z.symm
   rw[if_neg e]
   simp [e']
section
variable{X:Cx}{pos:Pos}
end
end L3
namespace L3
noncomputable def qV(P:Program)(w:World)(a:Addr)(m:Str->Option V)(n:Nat):HO:=.ext fun h=>(a == sysModules)=false/\∃ kvs:List (Str × Value),h.DictOf (cF P w) a kvs/\kvs.length<=n/\∀ k,RelO (m k) (valueAt kvs k)
theorem VG{P:Program}{w:World}{H:Hp}{h:Heap}{a:Addr}{m:Str->Option V}{n:Nat}{kvs:List (Str × Value)}(hs:(a == sysModules)=false)(d:h.DictOf (cF P w) a kvs)(hl:kvs.length<=n)(r:∀ k,RelO (m k) (valueAt kvs k)):ObjOk P w H h a (qV P w a m n) :=
 ⟨⟨hs,kvs,d,hl,r⟩,(let ⟨o,es,ep,ho,_⟩:=d; ⟨o,ho⟩),fun h1 h2 ⟨hs,kvs,⟨o,es,ep,ho,rest⟩,z⟩ k=>⟨hs,kvs,⟨o,es,ep,k _ ho,rest⟩,z⟩⟩
section
variable{X:Cx}{pos:Pos}
theorem Inv.beyond{pins:List (Addr × Obj)}{σ:L2.St}{H:Hp}{s:Shared}(I:Inv X pins σ H s):(s.heap.objs.size == sysModules)=false:=by
 obtain⟨o,es,ep,e,_⟩:=I.ok.mod.glob
 have h1:=av e
 have h2:=I.ok.bsz
 have h3:=I.sz
 have h4:1<=om:=by decide
 have h5:1<s.heap.objs.size:=az (bY h4 h1) (aQ h2 h3)
 rw[beq_eq_false_iff_ne]
 intro z
 exact bR h5 z
noncomputable def Kz(P:Program)(w:World):TE:=fun _ H Q=>∀ p,H p=none->Q (.ref p) (upd H p (qV P w p (fun _=>none) 0))
theorem Jr:PE X (.Dict [] [] pos) (Kz X.prog X.w):=fun pins s σ H Q I h =>
 wpAny_Dict_empty ⟨.ref s.heap.objs.size,_,I.laid (a:=s.heap.objs.size) (t':=s.toks) (fun _ _ q=>aa _ q) (aq _) (VG (m:=fun _=>none) (Inv.beyond I) (Heap.DictOf.new s.heap) (aq _) fun _=>trivial),rfl,h _ (I.hok.fresh (aq _))⟩
theorem Inv.tdic{pins:List (Addr × Obj)}{σ:L2.St}{H:Hp}{s:Shared}{a:Addr}{m:Str->Option V}{n:Nat}(I:Inv X pins σ H s)(h:H a=some (qV X.prog X.w a m n)):(a == sysModules)=false/\∃ kvs:List (Str × Value),s.heap.DictOf (cF X.prog X.w) a kvs/\kvs.length<=n/\∀ k,RelO (m k) (valueAt kvs k):=(I.hok _ _ h).1
noncomputable def za0(P:Program)(w:World):R2:=fun x y H Q=>∃ a m n k v,x=.ref a/\y=.str k/\H a=some (qV P w a m n)/\m k=some v/\Q v H
theorem JF:IxR X (za0 X.prog X.w):=by
 intro value slice pins s σ H x y v u Q I rx ry h hs
 obtain⟨a,m,n,k,z,rfl,rfl,ha,hk,q⟩:=h
 cases rx
 obtain⟨t,rfl⟩:=ry
 obtain⟨_,kvs,dd,hl,r⟩:=Inv.tdic I ha
 obtain⟨w',hw,rw'⟩:=RelO.some_of (v:=z) (o:=valueAt kvs k) (by rw[<- hk];exact r k)
 exact tail_any dd.typeIs slot_dict_getitem.lookup (wpAny_getItem_of (knd:=cF X.prog X.w) (strKind_is _ _ _ _) dd.mapOf hw ⟨z,H,I.tok _,rw',q⟩) hs
noncomputable def KO(P:Program)(w:World):V->V->V->Hp->(Hp->Prop)->Prop:=fun o i v H Q=>∃ a m n k,o=.ref a/\i=.str k/\H a=some (qV P w a m n)/\n<=100000/\Q (upd H a (qV P w a (fun x=>if x=k then some v else m x) (n+1)))
theorem V5:zcc X (KO X.prog X.w):=by
 intro pins s σ H o i v ov iv u Q I ro ri rv h
 obtain⟨a,m,n,k,rfl,rfl,ha,hn,q⟩:=h
 cases ro
 obtain⟨t,rfl⟩:=ri
 obtain⟨hsm,kvs,dd,hl,r⟩:=Inv.tdic I ha
 have s16:=yf
 refine wpAny_setItem_pairs (knd:=cF X.prog X.w) (hsz:=by lia) (strKind_is _ _ _ _) dd fun h' dd' hs=>⟨_,?_,q⟩
 have he:∃ q,h'.get? a=some q:=let ⟨q,_,_,hq,_⟩:=dd'; ⟨q,hq⟩
 refine I.write (x:=a) (e:=a) (by rw[ha];exact True.intro) (.inl rfl) (fun b q hb z=>(hs.2 b hb).trans z) he (VG hsm dd' (aQ (stored_length_le _ _ _) (by lia)) fun x=>?_)
 rw[Xs]
 by_cases e:x=k
 ·rw[if_pos e,if_pos e]
  exact rv
 ·rw[if_neg e,if_neg e]
  exact r x
noncomputable def KC(P:Program)(w:World):R2:=fun x y H Q=>∃ a m n k,x=.str k/\y=.ref a/\H a=some (qV P w a m n)/\Q (.bl (m k).isNone) H
theorem UW:OpR X (compareOp .NotIn) (KC X.prog X.w):=by
 intro pins s σ H x y v u Q I rx ry h
 obtain⟨a,m,n,k,rfl,rfl,ha,q⟩:=h
 obtain⟨t,rfl⟩:=rx
 cases ry
 obtain⟨hsm,kvs,dd,hl,r⟩:=Inv.tdic I ha
 refine wpAny_notIn_of (knd:=cF X.prog X.w) (strKind_is _ _ _ _) hsm dd.mapOf ?_
 have e:(!(valueAt kvs k).isSome)=(m k).isNone:=by
  have:=r k
  cases hm:m k with
  | none =>
   cases hv:valueAt kvs k with
   | none=>rfl
   | some z=>rw[hm,hv] at this;exact this.elim
  | some z0 =>
   cases hv:valueAt kvs k with
   | none=>rw[hm,hv] at this;exact this.elim
   | some z=>rfl
 rw[e]
 exact⟨.bl _,H,I.tok _,rfl,q⟩
end
end L3
namespace L3
section
variable{X:Cx}{scope:Scope}{own caps:List Str}{ix:List Nat}{elt tg iter:Expr}{ifs:List Expr}{pos:Pos}{wi:TI}{g:TG}{tt:TT}{te:TE}
theorem Zu{EX:XK}(hc:X.calm=true)(S:uY X scope own caps ix)
  (hg:∀ cl C pins s3 H3 fp,PG (yd X scope cl C (own ++ caps) pins s3 H3 fp fun _ _=>False) tg g)
  (ht:∀ cl C pins s3 H3 fp xe,XE (yd X scope cl C (own ++ caps) pins s3 H3 fp xe) EX->PTs (yd X scope cl C (own ++ caps) pins s3 H3 fp xe) ifs tt)
  (hst:X.stack=X.env::X.outer/\X.env.frame=some X.env.locals) (hxe:XE X EX) (he:∀ cl C pins s3 H3 fp xe,XE (yd X scope cl C (own ++ caps) pins s3 H3 fp xe) EX->PE (yd X scope cl C (own ++ caps) pins s3 H3 fp xe) elt te)
  {cl:List (Str × Addr)} (hc1:∀ y c,cl.lookup y=some c->X.env.cells.lookup y=some c) (hc2:∀ y,(y,NameKind.free) ∈ scope.names->∃ c,cl.lookup y=some c)
  {pins:List (Addr × Obj)} {σ:St} {H2:Hp} {s2:Shared} {Q:VK} {it:Addr} {fp:List Addr} {tn:Nat->Heap->Prop} {J:It} (I2:Inv X pins σ H2 s2) (T:Us X.prog X.w X.K tg J fp it tn) (st2:tn 0 s2.heap) (f2:∀ b ∈ fp,xH X pins H2 b)
  (q:∀ D,H2 D=none->∃ W:Nat->Nat->List V->Hp->Prop,(∃ m,W 0 m [] (upd H2 D (.lst []))) /\
   ∀ i m acc H',W i m acc H'->(J.stop i H'/\Q (.ref D) H')\/(J.go i H'/\∀ x H2,J.yld i H' x H2->g x (va σ own.length ix) H2 fun σ3 H3=>xf (va σ own.length ix) σ3/\tt σ3 H3 fun b H4=>if b=true then
    te σ3 H4 fun v H5=>H5 D=some (.lst acc)/\acc.length<oq/\∃ m',m'<m/\W (i+1) m' (acc ++ [v]) (upd H5 D (.lst (acc ++ [v])))
    else ∃ m',m'<m/\W (i+1) m' acc H4))
  {RR:Value->Addr->Result->Shared->Prop} {E:Value->Shared->Prop}
  (hRR:∀ D C m s' H',H2 D=none->s'.heap.Ns C m->xH X pins H' C->Inv X pins σ H' s'->Q (.ref D) H'->RR (.ref D) C (.ok .next) s')
  (hRE:∀ D C m s' x,s'.heap.Ns C m->(∀ h',Heap.SameBut C s'.heap h'->∀ cenv:Env,cenv.locals=C->wpAny (model X.prog X.w) X.A (eS "comprehension.variables-let-go" x cenv:Sem Value) (fun _ _=>False) X.xe { s' with heap:=h' })->RR (.ref D) C (.error x) s') :
  wpAny (model X.prog X.w) X.A (newList []) (fun acc s3=>wpAny (model X.prog X.w) X.A (newFunctionEnv scope X.env.globals cl [] X.env.qual none .none (some X.env)) (fun cenv s4 =>
   codeAny (model X.prog X.w) X.A (.compStart (.ListComp elt [⟨tg,iter,ifs,0⟩] scope pos) 0 (.ref it) acc { cenv with scope:=relabel scope X.env }) (RR acc cenv.locals) s4) E s3) E s2:=by
 have hD:H2 s2.heap.objs.size=none:=I2.hok.fresh (aq _)
 obtain⟨W,⟨m0,w0⟩,turn⟩:=q _ hD
 refine wpAny_newObj_type (wpAny_newFunctionEnv S.nocell (by intro y hy;simp at hy) (fun h1 hns1 hsb1=>?_) S.kind)
 dsimp only at hns1 hsb1 ⊢
 have I3:Inv X pins σ (upd H2 s2.heap.objs.size (.lst [])) { s2 with heap:=s2.heap.push { cls:=.type "list",dict:=none,data:=.seq ([]:List Value).toArray } } :=
  I2.lnew (its:=[]) (t':=s2.toks) .nil (aG _)
 generalize hs3:({ s2 with heap:=s2.heap.push { cls:=.type "list",dict:=none,data:=.seq ([]:List Value).toArray } }:Shared)=s3 at I3
 have e3:s2.heap.push { cls:=.type "list",dict:=none,data:=.seq ([]:List Value).toArray }=s3.heap:=by rw[<- hs3]
 rw[e3] at hns1 hsb1 ⊢
 have k1:∀ b o,s3.heap.get? b=some o->h1.get? b=some o:=fun b o e=>(hsb1.2 b (aA (av e))).trans (aa _ e)
 have k23:∀ b o,s2.heap.get? b=some o->s3.heap.get? b=some o:=fun b o e=>by rw[<- e3];exact aa _ e
 have hz:s3.heap.objs.size=s2.heap.objs.size+1:=by rw[<- e3,bw]
 have fpObj:∀ b ∈ fp,∃ o,s2.heap.get? b=some o:=fun b hb=>let ⟨o,e,_⟩:=T.obj 0 _ st2 b hb; ⟨o,e⟩
 have fplt:∀ b ∈ fp,b<s2.heap.objs.size:=fun b hb=>let ⟨o,e⟩:=fpObj b hb;av e
 have f3:∀ b ∈ fp,xH X pins (upd H2 s2.heap.objs.size (.lst [])) b:=fun b hb=>⟨by rw[zq (aA (fplt b hb))];exact (f2 b hb).1,(f2 b hb).2⟩
 have I4:Inv (yd X scope cl s3.heap.objs.size (own ++ caps) pins s3 (upd H2 s2.heap.objs.size (.lst [])) fp fun _ _=>False) [] (va σ own.length ix) (upd H2 s2.heap.objs.size (.lst [])) { s3 with heap:=h1,toks:=s3.toks+([]:List (Str × Value)).length } :=
  jE S hc1 hc2 I3 f3 (fun b hb=>by rw[hz];exact bU (fplt b hb)) hns1 k1
 have st4:tn 0 h1:=T.keep 0 _ _ st2 fun b hb o e=>k1 b o (k23 b o e)
 generalize hs4:({ s3 with heap:=h1,toks:=s3.toks+([]:List (Str × Value)).length }:Shared)=s4 at I4
 have es4:({ s2 with heap:=h1,toks:=s2.toks+([]:List (Str × Value)).length }:Shared)=s4:=by rw[<- hs4,<- hs3]
 have e4:h1=s4.heap:=by rw[<- hs4]
 have loop:codeAny (model X.prog X.w) X.A (.compLoop (.ListComp elt [⟨tg,iter,ifs,0⟩] scope pos) 0 (.ref it) (.ref s2.heap.objs.size) (compEnvC scope cl s3.heap.objs.size X.env)) (RR (.ref s2.heap.objs.size) s3.heap.objs.size) s4:=by
  let X':=yd X scope cl s3.heap.objs.size (own ++ caps) pins s3 (upd H2 s2.heap.objs.size (.lst [])) fp fun _ _=>False
  have fp':∀{H':Hp},(∀ b ∈ fp,H' b=none)->∀ b ∈ fp,xH X' [] H' b:=fun {H'} hn b hb=>by
   obtain⟨_,a1,a2,a3,a4,a5⟩:=f3 b hb
   refine⟨hn b hb,aA (show b<s3.heap.objs.size from by rw[hz];exact bU (fplt b hb)),fun z=>?_,.inl hb,fun x c e=>a4 x c (hc1 x c e),fun p hp=>?_⟩
   ·rcases List.mem_cons.mp (I3.stkSub b z) with e | e
    ·exact a1 e
    ·exact a2 e
   ·have:p ∈ (X.pn ++ pins) ++ []:=hp
    rw[aU] at this
    exact a5 p this
  refine Zb (fun n s'=>∃ i acc H',Inv X' [] (va σ own.length ix) H' s'/\tn i s'.heap/\(∀ b ∈ fp,H' b=none)/\W i n acc H') rfl ?_ m0 ⟨0,[],_,I4,by rw[<- e4];exact st4,fun b hb=>(f3 b hb).1,w0⟩
  rintro n s5 ⟨i,acc,H5,I5,st5,fr5,w5⟩
  refine wpAny_noRaise ?_
  rcases turn i n acc H5 w5 with ⟨stop,qn⟩ | ⟨go,step⟩
  ·refine thn (T.done X' rfl rfl rfl hc i [] s5 _ H5 _ I5 (fp' fr5) st5 stop) fun r s6 ⟨hr,I6⟩=>?_
   subst hr
   obtain⟨m,hm,_⟩:=I6.loc
   refine hRR _ _ m s6 H5 hD hm (I3.fpOk (aq _) I6.free) (I3.call' (s':=s6) I6.os I6.base I6.hok I6.bare fun b hb=>?_) qn
   obtain⟨_,a1,a2,a3,a4,a5⟩:=f3 b hb
   exact⟨a3,a1,a4,a5⟩
  ·refine thn (T.item X' rfl rfl rfl hc i [] s5 _ H5 (fun _ _=>False) I5 (fp' fr5) st5 go) fun r s6 ⟨u,hr,h6⟩=>?_
   subst hr
   refine wpAny_noRaise (thn h6 fun _ s7 ⟨x,H7,I7,r7,y7,st7,fr7⟩=>?_)
   have I7':=I7.pinned (fp' fr7) (T.obj _ _ st7)
   refine wpAny_noRaise (thn (hg _ _ _ _ _ _ _ s7 _ H7 x u _ I7' r7 (step x H7 y7)) fun _ s8 ⟨σ8,H8,I8,ks,q8⟩=>?_)
   refine thn (ht cl _ pins s3 (upd H2 s2.heap.objs.size (.lst [])) fp _ (fun e s hfl=>Ws (RE:=fun e s'=>RR (.ref s2.heap.objs.size) s3.heap.objs.size (.error e) s') hst hxe hc1 I3 f3 hfl fun m s' x a b=>hRE _ _ m s' x a b) _ s8 σ8 H8 _ (I8.wish _) q8) fun b s9 ⟨H9,I9',q9⟩=>?_
   have I9:=Inv.unwish (X:=X') I9'
   have back:∀{s':Shared} {H':Hp} {acc':List V} {m':Nat},Inv X' ([] ++ jf fp s7.heap) σ8 H' s'->m'<n->W (i+1) m' acc' H'->∃ m,m<n/\∃ i acc H',Inv X' [] (va σ own.length ix) H' s'/\tn i s'.heap/\(∀ b ∈ fp,H' b=none)/\W i m acc H':=fun {s' H' acc' m'} J' hm w'=>by
    refine⟨m',hm,i+1,acc',H',(J'.unpinned).weak ks.1 ks.2,T.keep _ _ _ st7 fun b hb o e=>(J'.pin (b,o) (aB _ (aB _ (xp hb e)))).1,fun b hb=>?_,w'⟩
    obtain⟨o,e,d⟩:=T.obj _ _ st7 b hb
    exact (J'.pin (b,o) (aB _ (aB _ (xp hb e)))).2.1
   cases b with
   | false =>
    rw[if_neg aC] at q9 ⊢
    obtain⟨m',hm,w'⟩:=q9
    exact back I9 hm w'
   | true =>
    rw[if_pos rfl] at q9 ⊢
    refine thn (he cl _ pins s3 (upd H2 s2.heap.objs.size (.lst [])) fp _ (fun e s hfl=>Ws (RE:=fun e s'=>RR (.ref s2.heap.objs.size) s3.heap.objs.size (.error e) s') hst hxe hc1 I3 f3 hfl fun m s' x a b=>hRE _ _ m s' x a b) _ s9 σ8 H9 _ (I9.wish _) q9) fun v s10 ⟨y,H10,I10',r10,hD10,hsz,m',hm,w'⟩=>?_
    have I10:=Inv.unwish (X:=X') I10'
    refine wpAny_noRaise ?_
    have:=wx (X:=X') _ s10 σ8 H10 (.ref s2.heap.objs.size) [y] (.ref s2.heap.objs.size) [v] (fun _ H'=>H'=upd H10 s2.heap.objs.size (.lst (acc ++ [y]))) I10 rfl (.cons r10 .nil) ⟨_,acc,y,rfl,rfl,hD10,hsz,rfl⟩
    refine thn this fun _ s11 ⟨_,H11,I11,_,eH⟩=>?_
    subst eH
    exact back I11 hm w'
 have goal:codeAny (model X.prog X.w) X.A (.compStart (.ListComp elt [⟨tg,iter,ifs,0⟩] scope pos) 0 (.ref it) (.ref s2.heap.objs.size) (compEnvC scope cl s3.heap.objs.size X.env)) (RR (.ref s2.heap.objs.size) s3.heap.objs.size) s4 :=
  codeAny_compStart_list loop (T.self _ 0 s4 _ _ (by rw[<- e4];exact st4) loop)
 rw[<- es4] at goal
 exact goal
theorem Wb{EX:XK}(hc:X.calm=true)(S:uY X scope own caps ix)(hst:X.stack=X.env::X.outer/\X.env.frame=some X.env.locals)(hxe:XE X EX)(hi:PI X tg iter wi)
  (hg:∀ cl C pins s3 H3 fp,PG (yd X scope cl C (own ++ caps) pins s3 H3 fp fun _ _=>False) tg g)
  (ht:∀ cl C pins s3 H3 fp xe,XE (yd X scope cl C (own ++ caps) pins s3 H3 fp xe) EX->PTs (yd X scope cl C (own ++ caps) pins s3 H3 fp xe) ifs tt)
  (he:∀ cl C pins s3 H3 fp xe,XE (yd X scope cl C (own ++ caps) pins s3 H3 fp xe) EX->PE (yd X scope cl C (own ++ caps) pins s3 H3 fp xe) elt te)
  (hs:∀ x,foldedSetIterable iter X.env x=pure x:=by intro _;rfl) :
  PE X (.ListComp elt [⟨tg,iter,ifs,0⟩] scope pos) (jU wi g tt te own.length ix):=by
 intro pins s σ H Q I h
 obtain⟨cl,hclos,hc1,hc2⟩:=we (scope:=scope) (env:=X.env) fun y hy=>I.ok.has y (.inl (S.free y hy))
 rw[eval_ListComp]
 refine wpAny_comprehension_free (use:=none) rfl hs hclos S.kind S.names (thn (hi pins s σ H _ I h) fun v s1 h1=>thn h1 fun itv s2 h2=>?_)
 obtain⟨it,fp,tn,J,H2,e,I2,T,st2,f2,q⟩:=h2
 subst e
 refine Zu (RR:=fun acc C=>compPost (model X.prog X.w) X.A X.xe none (EP X pins σ Q) acc C) hc S hg ht hst hxe he hc1 hc2 I2 T st2 f2 q ?_ ?_
 ·intro D C m s' H' _ hn fc I' qn
  obtain⟨a0,a1,a2,a3,a4,a5⟩:=fc
  exact⟨m,hn,fun h' sb=>⟨.ref D,H',I'.turned (t':=s'.toks) (fun b o hb e=>(sb.2 b hb).trans e) a0 a1 a3 a4 a5,rfl,qn⟩⟩
 ·intro D C m s' x hn hp
  exact⟨m,hn,hp⟩
end
end L3
namespace L3
section
variable{X:Cx}{scope:Scope}{own caps:List Str}{ix:List Nat}{cl:List (Str × Addr)}{pins:List (Addr × Obj)}{σ:St}{H:Hp}{s:Shared}{fp:List Addr}{E:Value->Shared->Prop}
end
section
variable{X:Cx}{scope:Scope}{own caps:List Str}{ix:List Nat}{elt tg iter:Expr}{ifs:List Expr}{pos:Pos}{wi:TI}{g:TG}{tt:TT}{te:TE}
end
end L3
namespace L3
section
variable{X:Cx}
end
end L3
namespace LL
open PySem L2 L3
noncomputable def top(i:Nat):Stmt:=PySem.Challenge.pw_letterlaw_k55_completed_papers.main.body.getD i (.Pass ⟨0,0,0,0⟩)
noncomputable abbrev yM:Stmt:=xg (top 5) 0
noncomputable abbrev z6:Stmt:=xg (top 6) 0
noncomputable abbrev zX:Stmt:=top 10
noncomputable abbrev yJ:Stmt:=top 11
noncomputable abbrev yY:Stmt:=top 12
noncomputable abbrev Xq:Stmt:=top 13
noncomputable abbrev yk:Stmt:=top 16
noncomputable abbrev yN:Stmt:=top 17
noncomputable abbrev w6:Stmt:=top 18
noncomputable abbrev yB:Stmt:=xg (top 19) 0
noncomputable abbrev zP:Stmt:=xg (top 19) 1
noncomputable abbrev vS:Stmt:=top 21
noncomputable abbrev xu:Stmt:=top 22
noncomputable abbrev je:Stmt:=top 23
noncomputable abbrev xZ:Stmt:=top 24
noncomputable abbrev wN:Stmt:=top 25
noncomputable abbrev xI:Stmt:=top 26
noncomputable abbrev qg:Stmt:=top 28
noncomputable abbrev vg:Stmt:=top 29
noncomputable abbrev xo:Stmt:=top 35
noncomputable abbrev yW:Stmt:=top 36
noncomputable abbrev yX:Stmt:=top 37
noncomputable abbrev xT:Stmt:=top 38
noncomputable abbrev yP:Stmt:=top 39
noncomputable abbrev ym:Stmt:=top 40
noncomputable abbrev yc:Stmt:=top 41
noncomputable abbrev yL:Stmt:=top 42
noncomputable abbrev xS:Stmt:=top 43
noncomputable abbrev zY:Stmt:=top 49
noncomputable abbrev yH:Stmt:=top 50
noncomputable abbrev z8:Stmt:=top 51
noncomputable abbrev yh:Stmt:=top 52
noncomputable abbrev xt:Stmt:=top 53
noncomputable abbrev yG:Stmt:=top 54
noncomputable abbrev yQ:Stmt:=xg (top 57) 0
noncomputable abbrev yl:Stmt:=xg (top 57) 1
noncomputable abbrev yO:Stmt:=xg (top 57) 2
noncomputable abbrev yv:Stmt:=xg (top 57) 3
noncomputable abbrev yj:Stmt:=xg (top 57) 4
noncomputable abbrev z9:Stmt:=xg (top 58) 0
noncomputable abbrev z7:Stmt:=xg (top 59) 0
noncomputable abbrev zL:Stmt:=xg (top 59) 1
noncomputable abbrev jr:Stmt:=top 61
noncomputable abbrev vN:Stmt:=top 62
noncomputable abbrev xQ:Stmt:=top 63
noncomputable abbrev jn:Stmt:=top 64
noncomputable abbrev jm:Stmt:=top 65
noncomputable abbrev jo:Stmt:=top 66
noncomputable abbrev vI:Stmt:=top 67
noncomputable abbrev vT:Stmt:=top 68
noncomputable abbrev jk:Stmt:=top 69
noncomputable abbrev XB:Stmt:=top 70
noncomputable abbrev vK:Stmt:=top 71
noncomputable abbrev vC:Stmt:=top 72
noncomputable abbrev xY:Stmt:=top 73
noncomputable abbrev qr:Stmt:=top 74
noncomputable abbrev jw:Stmt:=top 75
noncomputable abbrev uu:Stmt:=top 76
section
variable{P:Program}{w:World}{K:ot}{mg:Str->Option Value}{base:Heap}
seal L2.PE L2.PS L2.PA L2.PT L2.PSs L2.PI L2.PG L2.PW L2.PGs
local macro_rules | `(tactic| rfl')=>`(tactic| simp only[zbS,WL,zcC,va,Option.join_some,Option.join_none,rU,Yo,Kn,zaR,za5,Ky,zaF,zbT,JQ,tOp,tUn,yK,tC,qv,zN,wq,tCB,zaZ,xK,Kt,zaG,zbZ,tOr,zal,zbm,Ji,Vh,tIf,rI,rI0,Uv,Q4,zcj,zbR,KU,rEq,rNe,rIx,zbv,ub,zbF,zb2,zaX,zbN,zbC,tSl,W6,K3,zaU,zco,zb8,Kx,Jg,rGe,zbK,decide_false,decide_true,Prod.mk.injEq,Uw,zbj,zbs,Vg,UT,VD,tyV,tBM,zcg,if_true,if_false,bD,decide_eq_true_eq,decide_eq_false_iff_not,dO,Bool.not_true,Bool.not_false,lt1,QD,zbM,Kf,jS,Kh,KI,zbp,zbu,Vl,X2,zcI,tHs,Kb,zbi,zaT,zbH,zbA,zbt,Value.ref.injEq,L2.start,zaS,za8,zcA,zcx,zcr,zbr,zcs,zbL,za3,zcF,zck,Je,zbq,zar,zbW,Zh,UR,Zw,wC,Xk,zQ,zcB,Ko,zaP,cxK,cxP,cxW,ax,aN,aL,cM,cG,List.replicate_zero,Nat.reduceAdd,Nat.reduceSub,and_assoc,zbd,exists_eq,exists_eq',exists_eq_left',exists_eq_left,exists_eq_right,exists_eq_right',exists_and_left,exists_and_right,V.int.injEq,V.ref.injEq,V.str.injEq,V.bl.injEq,V.ty.injEq,reduceCtorEq,false_and,and_false,true_and,and_true,or_false,false_or,exists_false,exists_const,d9,List.getElem?_cons_succ,Option.some.injEq,bo,bp,List.cons.injEq,aU,bT,bt])
theorem xe0{X:Cx}:XE X E0:=fun e s h=>by
 obtain⟨_,_,_,_,_,_,_,_,_,_,_,_,_,_,h⟩:=h
 exact h.elim
noncomputable def Ya(l:List Nat):Prop:=∀ c ∈ l,97<=c/\c<=122
instance (l:List Nat):Decidable (Ya l):=by unfold Ya;infer_instance
noncomputable def uq(l:List Nat):Bool:=decide (1<=l.length/\l.length<=6/\Ya l/\l.Nodup)
noncomputable def uW:Sp:=fun vs H Q _=>∃ c:Nat,vs=[.str (tx [c])]/\Q (.bl (decide (97<=c/\c<=122))) H
theorem V2:zr ["sign"] ["sign"] (zb zX):=⟨rfl,rfl,rfl,by decide +kernel,rfl,by decide +kernel,by decide +kernel⟩
theorem UH{f:Addr}{fd:FuncData}(F:Fun K "is_small_letter" "is_small_letter" zX f fd):ye P w K mg base CX0 1 f fd ["sign"] uW:=by
 refine F.ok V2 (fun vs H Q E h=>?_) (fun cdv A outer s H vs Q E hr h=>?_)
 ·obtain⟨a,rfl,_⟩:=h
  rfl
 ·obtain⟨c,rfl,q⟩:=h
  refine⟨_,(zh (zu (Ui uo uo xy (pv 0) xy))),?_⟩
  have ea:cs (("a" : Str))=[97]:=rfl
  have ez:cs (("z" : Str))=[122]:=rfl
  rfl'
  simp only[ea,ez,Xk,lt1]
  refine xa (fun h=>?_) fun h=>?_
  ·have e:decide (97<=c/\c<=122)=!decide (122<c):=by
    by_cases h2:122<c
    ·rw[decide_eq_true h2,decide_eq_false (by lia)];rfl
    ·rw[decide_eq_false h2,decide_eq_true (by lia)];rfl
   rw[e] at q
   exact q
  ·rw[decide_eq_false (by lia)] at q
   exact q
structure zbY(K:ot)(mg:Str->Option Value)(C:Addr):Prop where
 xi:XI K C
 ini:af K (.ref C) "__init__" = some (some (.builtin "ValueError.__init__"))
 g:mg "NoLetters" = some (.ref C)
 most:∃ t,mg "MOST_LETTERS" = some (.int 6 t)
noncomputable def wj(C:Addr):Sp:=fun vs H Q E=>∃ l:List Nat,vs=[.str (tx l)]/\l.length<=1000/\(uq l=true->Q (.str (tx l)) H)/\(uq l=false->E (.ref C) none H)
theorem lH:zr ["text","sign"] ["text"] (zb yJ):=⟨rfl,rfl,rfl,by decide +kernel,rfl,by decide +kernel,by decide +kernel⟩
theorem kA{f C:Addr}{fd:FuncData}(B:Bt mg)(T:zbY K mg C)(F:Fun K "letters_of" "letters_of" yJ f fd)(Ds:Df P w K mg base CX0 1 "is_small_letter" ["sign"] [] uW):ye P w K mg base (CXx P w) 2 f fd ["text"] (wj C):=by
 refine Fun.okX F lH (fun vs H Q E h=>?_) (fun cdv A outer s H vs Q E hr hx h=>?_)
 ·obtain⟨a,rfl,_⟩:=h
  rfl
 ·obtain⟨l,rfl,hl,q1,q2⟩:=h
  obtain⟨t6,g6⟩:=T.most
  refine⟨_,(zM (zZ (yn (jN uo uo zg (zm yb rfl B.len ay (za (pv 0) zc)) (yZ (v:=.int 6) rfl g6 ⟨t6,rfl⟩)))
    (zh (yS hx rfl T.xi.toXC T.ini rfl T.g (za xy zc)))
    zC)
   (zM (yV PassesOwn.leaving rfl (Zj (pv 0)) (zA (i:=1) lH.nd rfl (Or.inl rfl))
    (zM (zZ (yn (YI (cl0 Ds hr .nil rfl (za (pv 1) zc)) (fun _=>rfl)))
     (zh (yS hx rfl T.xi.toXC T.ini rfl T.g (za xy zc)))
     zC)
    (zh (zZ (zE Zn (qF bz eC eD WQ (pv 0) (za (pv 1) zc)) zg (zJ _))
     (zh (yS hx rfl T.xi.toXC T.ini rfl T.g (za xy zc)))
     zC))))
   (zh (zu (pv 0))))),?_⟩
  have s16:=yf
  rfl'
  have bad:(¬ (1<=l.length/\l.length<=6/\Ya l/\l.Nodup))->∀ H':Hp,H'=H->E (.ref C) none H':=fun h H' e=>by
   rw[e]
   exact q2 (decide_eq_false h)
  refine⟨by lia,xa (fun c=>xa (fun c2=>⟨by lia,bad (fun h=>by have:=h.2.1;lia) H rfl⟩) (fun c2=>?_)) (fun c=>⟨by lia,bad (fun h=>by have:=h.1;lia) H rfl⟩)⟩
  refine ForS.by (fun i σ H'=>H'=H/\∃ v,σ=[some (.str (tx l)),v]/\Ya (l.take i)/\∀ c ∈ l.take i,l.count c<=1) ⟨rfl,none,rfl,fun c h=>absurd h (by simp),fun c h=>absurd h (by simp)⟩ ?_ ?_
  ·rintro i c σ H' hg ⟨eH,v,rfl,hs,hn⟩
   have hc:=ac hg
   rfl'
   simp only[uW]
   rfl'
   refine xa (fun h=>⟨by lia,bad (fun z=>by have:=z.2.2.1 c hc;lia) _ eH⟩) (fun h=>xa (fun h2=>⟨by lia,bad (fun z=>?_) _ eH⟩) (fun h2=>⟨eH,?_,?_⟩))
   ·have:=List.nodup_iff_count.mp z.2.2.2 c
    lia
   ·rw[zV hg]
    intro x hx
    rcases List.mem_append.mp hx with q | q
    ·exact hs x q
    ·have:x=c:=by simpa using q
     subst this
     lia
   ·rw[zV hg]
    intro x hx
    rcases List.mem_append.mp hx with q | q
    ·exact hn x q
    ·have:x=c:=by simpa using q
     subst this
     lia
  ·rintro σ H' ⟨eH,v,rfl,hs,hn⟩
   rw[aM] at hs hn
   rfl'
   rw[eH]
   refine q1 (decide_eq_true ⟨by lia,by lia,hs,List.nodup_iff_count.mpr fun c=>?_⟩)
   by_cases hc:c ∈ l
   ·exact hn c hc
   ·rw[List.count_eq_zero.mpr hc];lia
noncomputable def zy(l:List Nat)(k:Int)(p:List Nat):Bool:=decide (0<=k/\k+p.length<=l.length/\(l.drop k.toNat).take p.length=p)
noncomputable def xF:Sp:=fun vs H Q _=>∃(l p:List Nat) (k:Int),vs=[.str (tx l),.int k,.str (tx p)]/\l.length<=10000/\p.length<=10000/\Q (.bl (zy l k p)) H
theorem jR{l p:List Nat}{k:Int}{H:Hp}{Q:VK}{E:XK}(h1:l.length<=10000)(h2:p.length<=10000)(h:Q (.bl (zy l k p)) H):xF [.str (tx l),.int k,.str (tx p)] H Q E:=⟨l,p,k,rfl,h1,h2,h⟩
theorem kE:zr ["word","place","part"] ["word","place","part"] (zb yY):=⟨rfl,rfl,rfl,by decide +kernel,rfl,by decide +kernel,by decide +kernel⟩
theorem Za{f:Addr}{fd:FuncData}(B:Bt mg)(F:Fun K "stands_at" "stands_at" yY f fd):ye P w K mg base CX0 1 f fd ["word","place","part"] xF:=by
 refine F.ok kE (fun vs H Q E h=>?_) (fun cdv A outer s H vs Q E hr h=>?_)
 ·obtain⟨l,p,k,rfl,_⟩:=h
  rfl
 ·obtain⟨l,p,k,rfl,hl,hp,q⟩:=h
  refine⟨_,(zM (zZ (yn (jN uo uo zg (pv 1) (zI vA (zm yb rfl B.len ay (za (pv 0) zc)) (zm yb rfl B.len ay (za (pv 2) zc)))))
    (zh (zu y0))
    zC)
   (zh (zu (wo qo (yA wB (pv 0) (yC (pv 1)) (yC (zI op_add (pv 1) (zm yb rfl B.len ay (za (pv 2) zc))))) (pv 2) (zJ _))))),?_⟩
  have s16:=yf
  rfl'
  have no:¬ (0<=k/\k+p.length<=l.length/\(l.drop k.toNat).take p.length=p)->Q (.bl false) H:=fun h=>by
   have e:zy l k p=false:=decide_eq_false h
   rw[e] at q
   exact q
  refine xa (fun h0=>⟨by lia,by lia,xa (fun h1=>no fun h=>absurd h.2.1 (by lia)) fun h1=>⟨by lia,by lia,?_⟩⟩) fun h0=>no fun h=>h0 h.1
  rw[ZO _ h0 (by lia) (by lia)]
  have e:(k+(p.length:Int) - k).toNat=p.length:=by lia
  rw[e]
  have e2:zy l k p=decide ((l.drop k.toNat).take p.length=p):=by
   unfold zy
   exact decide_eq_decide.mpr ⟨fun h=>h.2.2,fun h=>⟨h0,by lia,h⟩⟩
  rw[<- e2]
  exact q
noncomputable def xh(l:List Nat)(k:Int)(o n:List Nat):List Nat:=l.take k.toNat ++ n ++ l.drop (k.toNat+o.length)
theorem yR{l o:List Nat}{k:Int}(h:zy l k o=true):l.take k.toNat ++ o ++ l.drop (k.toNat+o.length)=l/\(l.take k.toNat).length=k.toNat/\0<=k/\k+o.length<=l.length:=by
 unfold zy at h
 rw[decide_eq_true_eq] at h
 obtain⟨h0,h1,h2⟩:=h
 refine⟨?_,by rw[aJ];lia,h0,h1⟩
 have e:l.drop k.toNat=o ++ l.drop (k.toNat+o.length):=by
  have:=bZ o.length (l.drop k.toNat)
  rw[h2,eG] at this
  exact this.symm
 rw[aV,<- e,bZ]
theorem Yp{l o:List Nat}{k:Int}(n:List Nat)(h:zy l k o=true):zy (xh l k o n) k n=true/\xh (xh l k o n) k n o=l:=by
 obtain⟨e,hl,h0,h1⟩:=yR h
 have e1:(xh l k o n).take k.toNat=l.take k.toNat:=by
  unfold xh
  rw[aV,bg (by lia),bh (by lia)]
 have e2:(xh l k o n).drop k.toNat=n ++ l.drop (k.toNat+o.length):=by
  unfold xh
  rw[aV,bV (by lia),aX (by lia),bT]
 have e3:(xh l k o n).length=l.length - o.length+n.length:=by
  unfold xh
  simp only[au,be,hl]
  lia
 refine⟨?_,?_⟩
 ·unfold zy
  refine decide_eq_true ⟨h0,by lia,?_⟩
  rw[e2,bg (by lia),bh (by lia)]
 ·show (xh l k o n).take k.toNat ++ o ++ (xh l k o n).drop (k.toNat+n.length)=l
  rw[e1,<- eG,e2,bV (by lia),aX (by lia),bT]
  exact e
theorem QX{l o n:List Nat}{k:Int}(h0:0<=k):cut l none (some k) ++ n ++ cut l (some (k + ↑o.length)) none=xh l k o n:=by
 rw[kJ _ h0,uK _ (by lia)]
 have:(k+(o.length:Int)).toNat=k.toNat+o.length:=by lia
 rw[this]
 rfl
structure TNU(K:ot)(mg:Str->Option Value)(C:Addr):Prop where
 xi:XI K C
 g:mg "NoUse" = some (.ref C)
 na:NoAttr K C "at"
theorem j3:zr ["self","at"] ["self","at"] (zb yM):=⟨rfl,rfl,rfl,by decide +kernel,rfl,by decide +kernel,by decide +kernel⟩
theorem jY{f C:Addr}{fd:FuncData}(T:TNU K mg C)(F:Fun K "__init__" "NoUse.__init__" yM f fd):ye P w K mg base CX0 1 f fd ["self","at"] (vk C "at"):=by
 refine F.ok j3 (fun vs H Q E h=>?_) (fun cdv A outer s H vs Q E hr h=>?_)
 ·obtain⟨x,v,rfl,_⟩:=h
  rfl
 ·obtain⟨x,v,rfl,hx,q⟩:=h
  refine⟨_,(zh (WP (pv 0) (pv 1) rfl)),?_⟩
  simp only[QO]
  rfl'
  exact⟨C,hx,T.xi.toXC,T.na,q⟩
structure DNU(P:Program)(w:World)(K:ot)(mg:Str->Option Value)(base:Heap)(C:Addr):Prop extends TNU K mg C where
 ini:∃ f fd,af K (.ref C) "__init__" = some (some (.ref f))/\aY K (.ref f)=true/\ye P w K mg base CX0 1 f fd ["self","at"] (vk C "at")/\Binds K fd ["self","at"] []
noncomputable def Zf(C:Addr):Sp:=fun vs H Q E=>∃(l o n:List Nat) (k:Int),vs=[.str (tx l),.int k,.str (tx o),.str (tx n)]/\l.length<=10000/\o.length<=10000/\n.length<=10000/\(zy l k o=true->Q (.str (tx (xh l k o n))) H)/\(zy l k o=false->∀ d H',zbB H d "at" (.int 0) H'->E (.ref C) (some d) H')
theorem Kv:zr ["word","place","old","new"] ["word","place","old","new"] (zb Xq):=⟨rfl,rfl,rfl,by decide +kernel,rfl,by decide +kernel,by decide +kernel⟩
theorem Km{f C:Addr}{fd:FuncData}(B:Bt mg)(T:DNU P w K mg base C)(F:Fun K "put" "put" Xq f fd)(nB:Df P w K mg base CX0 1 "stands_at" ["word","place","part"] [] xF):ye P w K mg base (CXx P w) 3 f fd ["word","place","old","new"] (Zf C):=by
 obtain⟨fi,fdi,hi,hfn,Fi,Bi⟩:=T.ini
 refine Fun.okX F Kv (fun vs H Q E h=>?_) (fun cdv A outer s H vs Q E hr hx h=>?_)
 ·obtain⟨l,o,n,k,rfl,_⟩:=h
  rfl
 ·obtain⟨l,o,n,k,rfl,hl,ho,hn,q1,q2⟩:=h
  refine⟨_,(zM (zZ (yn (YI (cl0 nB hr .nil rfl (za (pv 0) (za (pv 1) (za (pv 2) zc)))) (fun _=>rfl)))
    (zh (Zg hx rfl T.xi.toXC hi hfn Fi hr Bi rfl T.g (za zg zc)))
    zC)
   (zh (zu (zI op_add_str (zI op_add_str (yA wB (pv 0) xN (yC (pv 1))) (pv 3)) (yA wB (pv 0) (yC (zI op_add (pv 1) (zm yb rfl B.len ay (za (pv 2) zc)))) xN))))),?_⟩
  have s16:=yf
  rfl'
  refine jR hl ho ?_
  rfl'
  refine xa (fun hb=>⟨by lia,VL (q2 hb)⟩) fun hb=>?_
  have hb':zy l k o=true:=by simpa using hb
  obtain⟨_,_,h0,h1⟩:=yR hb'
  have c1:=ww l none (some k)
  have c2:=ww l (some (k + ↑o.length)) none
  refine⟨by lia,by lia,by lia,by lia,?_,?_⟩
  ·simp only[au]
   lia
  ·have e:cut l none (some k) ++ n ++ cut l (some (k + ↑o.length)) none=xh l k o n:=by
    rw[kJ _ h0,uK _ (by lia)]
    have:(k+(o.length:Int)).toNat=k.toNat+o.length:=by lia
    rw[this]
    rfl
   rw[e]
   exact q1 hb'
structure TOrd(K:ot)(mg:Str->Option Value)(CO CR CW:Addr):Prop where
 cO:Cls K CO
 cR:Cls K CR
 cW:Cls K CW
 gO:mg "Order" = some (.ref CO)
 gR:mg "FromRight" = some (.ref CR)
 gW:mg "ByWeights" = some (.ref CW)
 lO:NoAttr K CO "letters"
 lR:NoAttr K CR "letters"
 lW:NoAttr K CW "letters"
 wW:NoAttr K CW "weights"
noncomputable def OrdAt(CO CR CW:Addr)(H:Hp)(o:Addr)(k:Nat)(l:List Nat)(ns:List Int):Prop:=∃ dx,(k=0/\H o=some (.ins CO dx [("letters",.str (tx l))]))\/(k=1/\H o=some (.ins CR dx [("letters",.str (tx l))])) \/
 (k=2/\ns.length=l.length/\∃ w,H o=some (.ins CW dx [("letters",.str (tx l)),("weights",.ref w)])/\H w=some (.tup (ns.map V.int)))
theorem OrdAt.same{CO CR CW:Addr}{H H':Hp}{o:Addr}{k:Nat}{l:List Nat}{ns:List Int}(h:OrdAt CO CR CW H o k l ns)(e:Same H H'):OrdAt CO CR CW H' o k l ns:=by
 obtain⟨dx,⟨h1,h2⟩ | ⟨h1,h2⟩ | ⟨h1,h2,w,h3,h4⟩⟩:=h
 ·exact⟨dx,.inl ⟨h1,e _ _ h2⟩⟩
 ·exact⟨dx,.inr (.inl ⟨h1,e _ _ h2⟩)⟩
 ·exact⟨dx,.inr (.inr ⟨h1,h2,w,e _ _ h3,e _ _ h4⟩)⟩
noncomputable def XO(l:List Nat)(ns:List Int)(w:List Nat):Int:=((l.zip ns).map fun p=>(w.count p.1:Int) * p.2).sum
noncomputable def zt(k:Nat)(l:List Nat)(ns:List Int)(w:List Nat):Int:=if k=2 then XO l ns w else (w.length:Int)
noncomputable def yx(k:Nat)(w:List Nat):List Nat:=if k=1 then w.reverse else w
noncomputable def uF(K:ot):Sp:=fun vs H Q _=>∃(x C dx:Addr) (l:List Nat),vs=[.ref x,.str (tx l)]/\uq l=true/\Cls K C/\NoAttr K C "letters"/\H x=some (.ins C dx [])/\Q .non (upd H x (.ins C dx [("letters",.str (tx l))]))
theorem j5:zr ["self","letters"] ["self","letters"] (zb yQ):=⟨rfl,rfl,rfl,by decide +kernel,rfl,by decide +kernel,by decide +kernel⟩
theorem wn{f:Addr}{fd:FuncData}(B:Bt mg)(F:Fun K "__init__" "Order.__init__" yQ f fd)(nj:Df P w K mg base (CXx P w) 2 "letters_of" ["text"] [] (wj C)):ye P w K mg base CX0 3 f fd ["self","letters"] (uF K):=by
 refine F.ok j5 (fun vs H Q E h=>?_) (fun cdv A outer s H vs Q E hr h=>?_)
 ·obtain⟨x,C,dx,l,rfl,_⟩:=h
  rfl
 ·obtain⟨x,C,dx,l,rfl,hg,hC,hN,hx,q⟩:=h
  refine⟨_,(zh (Yl (pv 0) (clP xe0 nj hr .nil rfl (za (pv 1) zc)) rfl)),?_⟩
  have s16:=yf
  rfl'
  exact⟨l,rfl,by have:=of_decide_eq_true hg;lia,fun _=>⟨_,_,_,hx,hC,hN,by decide,q⟩,fun e=>by rw[hg] at e;cases e⟩
noncomputable def ke:Sp:=fun vs H Q _=>∃(o:Addr) (w:List Nat),vs=[.ref o,.str (tx w)]/\w.length<=1000/\Q (.int (w.length:Nat)) H
theorem qS:zr ["self","word"] ["self","word"] (zb yl):=⟨rfl,rfl,rfl,by decide +kernel,rfl,by decide +kernel,by decide +kernel⟩
theorem wG{f:Addr}{fd:FuncData}(B:Bt mg)(F:Fun K "weight" "Order.weight" yl f fd) : ye P w K mg base CX0 1 f fd ["self","word"] ke:=by
 refine F.ok qS (fun vs H Q E h=>?_) (fun cdv A outer s H vs Q E hr h=>?_)
 ·obtain⟨o,w,rfl,_⟩:=h
  rfl
 ·obtain⟨o,w,rfl,hw,q⟩:=h
  refine⟨_,(zh (zu (zm yb rfl B.len ay (za (pv 1) zc)))),?_⟩
  have s16:=yf
  rfl'
  exact⟨by lia,q⟩
noncomputable def YD:Sp:=fun vs H Q _=>∃(o:Addr) (w:List Nat),vs=[.ref o,.str (tx w)]/\Q (.str (tx w)) H
theorem jF:zr ["self","word"] ["self","word"] (zb yO):=⟨rfl,rfl,rfl,by decide +kernel,rfl,by decide +kernel,by decide +kernel⟩
theorem vv{f:Addr}{fd:FuncData}(B:Bt mg)(F:Fun K "seen" "Order.seen" yO f fd) : ye P w K mg base CX0 1 f fd ["self","word"] YD:=by
 refine F.ok jF (fun vs H Q E h=>?_) (fun cdv A outer s H vs Q E hr h=>?_)
 ·obtain⟨o,w,rfl,_⟩:=h
  rfl
 ·obtain⟨o,w,rfl,q⟩:=h
  refine⟨_,(zh (zu (pv 1))),?_⟩
  have s16:=yf
  rfl'
  exact q
noncomputable def ZY:Sp:=fun vs H Q _=>∃(o:Addr) (w:List Nat),vs=[.ref o,.str (tx w)]/\w.length<=1000/\Q (.str (tx w.reverse)) H
theorem vQ:zr ["self","word"] ["self","word"] (zb z9):=⟨rfl,rfl,rfl,by decide +kernel,rfl,by decide +kernel,by decide +kernel⟩
theorem vP{f:Addr}{fd:FuncData}(B:Bt mg)(F:Fun K "seen" "FromRight.seen" z9 f fd) : ye P w K mg base CX0 1 f fd ["self","word"] ZY:=by
 refine F.ok vQ (fun vs H Q E h=>?_) (fun cdv A outer s H vs Q E hr h=>?_)
 ·obtain⟨o,w,rfl,_⟩:=h
  rfl
 ·obtain⟨o,w,rfl,hw,q⟩:=h
  refine⟨_,(zh (zu (JZ (pv 1) (zbJ zaw zg)))),?_⟩
  have s16:=yf
  repeat (first | rfl' | simp only[yq,zw,zH,yy,yw,zv])
  exact⟨by lia,q⟩
structure zb5(K:ot)(mg:Str->Option Value)(C:Addr):Prop where
 xi:XI K C
 ini:af K (.ref C) "__init__" = some (some (.builtin "ValueError.__init__"))
 g:mg "NoOrder" = some (.ref C)
 most:∃ t,mg "MOST_WEIGHT" = some (.int 1000000 t)
noncomputable abbrev DOI(P:Program)(w:World)(K:ot)(mg:Str->Option Value)(base:Heap)(CO:Addr):Prop:=DC P w K mg base CX0 3 CO "__init__" ["self","letters"] (uF K)
noncomputable def jL(K:ot)(CW:Addr):Sp:=fun vs H Q _=>∃(x dx a:Addr) (l:List Nat) (ns:List Int),vs=[.ref x,.str (tx l),.ref a]/\uq l=true/\SqL K H a (ns.map V.int)/\ns.length=l.length/\(∀ n ∈ ns,1<=n/\n<=1000000)/\H x=some (.ins CW dx []) /\
 ∀ w H',H w=none->w≠x->(∀ b o,b≠x->H b=some o->H' b=some o)->H' w=some (.tup (ns.map V.int))->H' x=some (.ins CW dx [("letters",.str (tx l)),("weights",.ref w)])->Q .non H'
theorem iN:zr ["self","letters","weights","weight"] ["self","letters","weights"] (zb z7):=⟨rfl,rfl,rfl,by decide +kernel,rfl,by decide +kernel,by decide +kernel⟩
theorem vO{f CO CR CW CN:Addr}{fd:FuncData}(B:Bt mg)(T:TOrd K mg CO CR CW)(TN:zb5 K mg CN)(DI:DOI P w K mg base CO)(F:Fun K "__init__" "ByWeights.__init__" z7 f fd) : ye P w K mg base (CXx P w) 4 f fd ["self","letters","weights"] (jL K CW):=by
 obtain⟨t6,g6⟩:=TN.most
 refine Fun.okX F iN (fun vs H Q E h=>?_) (fun cdv A outer s H vs Q E hr hx h=>?_)
 ·obtain⟨x,dx,a,l,ns,rfl,_⟩:=h
  rfl
 ·obtain⟨x,dx,a,l,ns,rfl,hg,hS,hl,hb,hX,q⟩:=h
  refine⟨_,(zi (vJ (JK DI hr rfl T.gO (za (pv 0) (za (pv 1) zc))))
   (zi (zZ (zE ZU (zm yb rfl B.len ay (za (pv 2) zc)) (zm yb rfl B.len ay (za (pv 1) zc)) (zJ _))
    (zh (yS hx rfl TN.xi.toXC TN.ini rfl TN.g (za xy zc)))
    zC)
   (zi (yV PassesOwn.leaving rfl (yI (pv 2)) (zA (i:=3) iN.nd rfl (Or.inl rfl))
    (zh (zZ (yn (jN uo uo zg (pv 3) (yZ (v:=.int 1000000) rfl g6 ⟨t6,rfl⟩)))
     (zh (yS hx rfl TN.xi.toXC TN.ini rfl TN.g (za xy zc)))
     zC)))
   (zh (Yl (pv 0) (xW kd rfl B.tuple PySem.Pv.boot_tuple (za (pv 2) zc)) rfl))))),?_⟩
  have s16:=yf
  have hbx:∀ b o,b≠x->H b=some o->upd H x (.ins CW dx [("letters",.str (tx l))]) b=some o:=fun b o hb e=>by rw[zq hb];exact e
  have hS1:SqL K (upd H x (.ins CW dx [("letters",.str (tx l))])) a (ns.map V.int):=by
   rcases hS with (h | ⟨o,h⟩) | h
   ·exact .inl (.inl (hbx _ _ (fun e=>by rw[e,hX] at h;cases h) h))
   ·exact .inl (.inr ⟨o,hbx _ _ (fun e=>by rw[e,hX] at h;cases h) h⟩)
   ·exact .inr h
  refine zj (fun σ H'=>H'=upd H x (.ins CW dx [("letters",.str (tx l))])/\σ=[some (.ref x),some (.str (tx l)),some (.ref a),none]) ?_ ?_
  ·repeat (first | rfl' | simp only[yq,zw,zH,yy,yw,zv])
   exact⟨x,CW,dx,l,rfl,hg,T.cW,T.lW,hX,rfl⟩
  rintro σ H1 ⟨rfl,rfl⟩
  refine zj (fun σ H'=>H'=upd H x (.ins CW dx [("letters",.str (tx l))])/\σ=[some (.ref x),some (.str (tx l)),some (.ref a),none]) ?_ ?_
  ·have hl6:l.length<=6:=by have:=of_decide_eq_true hg;lia
   repeat (first | rfl' | simp only[yq,zw,zH,yy,yw,zv])
   refine⟨ns.length,.inl ⟨_,hS1,by rw[ag]⟩,by lia,xa (fun h=>absurd (by lia) h) fun _=>trivial⟩
  rintro σ H1 ⟨rfl,rfl⟩
  refine zj (fun σ H'=>H'=upd H x (.ins CW dx [("letters",.str (tx l))])/\∃ v3,σ=[some (.ref x),some (.str (tx l)),some (.ref a),v3]) ?_ ?_
  ·repeat (first | rfl' | simp only[yq,zw,zH,yy,yw,zv])
   refine⟨⟨_,hS1⟩,ForL.by (xs:=ns.map V.int) (fun i σ H'=>H'=upd H x (.ins CW dx [("letters",.str (tx l))])/\∃ v3,σ=[some (.ref x),some (.str (tx l)),some (.ref a),v3]) ⟨rfl,none,rfl⟩ (fun i σ H' _ h=>by rw[h.1];exact hS1) ?_ fun σ H' h=>h⟩
   rintro i y σ H' hy ⟨rfl,v3,rfl⟩
   rw[aE] at hy
   obtain⟨n,hn,rfl⟩:=Option.map_eq_some_iff.mp hy
   obtain⟨n1,n2⟩:=hb n (ac hn)
   repeat (first | rfl' | simp only[yq,zw,zH,yy,yw,zv])
   exact xa (fun _=>xa (fun h=>absurd n2 h) fun _=>trivial) fun h=>absurd n1 h
  rintro σ H1 ⟨rfl,v3,rfl⟩
  repeat (first | rfl' | simp only[yq,zw,zH,yy,yw,zv])
  refine⟨_,.inl ⟨hS1,fun w hw=>?_⟩⟩
  have hwx:w≠x:=fun e=>by rw[e,ze] at hw;cases hw
  have hwH:H w=none:=by rw[zq hwx] at hw;exact hw
  have hX2:=zf (o:=.tup (ns.map V.int)) hw _ _ (ze (H:=H) (a:=x) (o:=.ins CW dx [("letters",.str (tx l))]))
  refine⟨_,_,_,hX2,T.cW,T.wW,by show 1<1000;decide,q w _ hwH hwx (fun b o hb' e=>?_) ?_ ze⟩
  ·rw[zq hb']
   exact zf hw _ _ (hbx b o hb' e)
  ·rw[zq hwx]
   exact ze
theorem Qg{x y:V}{r:L2.St}:xf (none::none::r) (some x::some y::r):=⟨rfl,fun i v h=>by
 cases i with
 | zero=>cases h
 | succ i =>
  cases i with
  | zero=>cases h
  | succ i=>exact h⟩
noncomputable def Ye(CW:Addr):Sp:=fun vs H Q _=>∃(o dx t:Addr) (w l:List Nat) (ns:List Int),vs=[.ref o,.str (tx w)]/\w.length<=1000/\l.length<=6/\ns.length=l.length/\(∀ n ∈ ns,1<=n/\n<=1000000)/\H o=some (.ins CW dx [("letters",.str (tx l)),("weights",.ref t)])/\H t=some (.tup (ns.map V.int))/\∀ H',Same H H'->Q (.int (XO l ns w)) H'
theorem vc:zr ["self","word"] ["self","word"] (zb zL):=⟨rfl,rfl,rfl,by decide +kernel,rfl,by decide +kernel,by decide +kernel⟩
theorem vd{f CO CR CW:Addr}{fd:FuncData}(B:Bt mg)(T:TOrd K mg CO CR CW)(F:Fun K "weight" "ByWeights.weight" zL f fd) : ye P w K mg base CX0 1 f fd ["self","word"] (Ye CW):=by
 refine F.ok vc (fun vs H Q E h=>?_) (fun cdv A outer s H vs Q E hr h=>?_)
 ·obtain⟨o,dx,t,w,l,ns,rfl,_⟩:=h
  rfl
 ·obtain⟨o,dx,t,w,l,ns,rfl,hw,hl,hn,hb,ho,ht,q⟩:=h
  refine⟨_,(zh (zu (zm (Kq rfl) rfl B.sum eI (za (yD (g:=Kf K 2 (jS (xK 0) (jS (xK 1) Kh))) (own:=["letter","weight"]) (caps:=["word"]) (ix:=[1]) (tt:=wu) (te:=(tOp Q4 (tBM K "str" Vg (yK 2) (zN (yK 0) wq)) (yK 1))) rfl (zO (sc:=zb zL) rfl (by decide +kernel) (by decide +kernel) (by decide +kernel) rfl (by decide +kernel) (by decide +kernel) rfl) (zas rfl B.zip (za (Yt (pv 0) rfl) (za (Yt (pv 0) rfl) zc))) (fun _ _ _ _ _ _=>vD (n:=2) rfl (zU (zA (i:=0) (show List.Nodup [_,_,_] by decide) rfl (Or.inl rfl)) (zU (zA (i:=1) (show List.Nodup [_,_,_] by decide) rfl (Or.inl rfl)) wd))) (fun _ _ _ _ _ _=>yE) (fun _ _ _ _ _ _=>(zI Q8 (qF bz eC eD WQ (pv 2) (za (pv 0) zc)) (pv 1)))) zc)))),?_⟩
  have s16:=yf
  repeat (first | rfl' | simp only[yq,zw,zH,yy,yw,zv])
  refine⟨_,_,_,ho,T.cW,T.lW,_,rfl,_,_,_,ho,T.cW,T.wW,_,rfl,l,rfl,t,rfl,⟨_,SqT.of ht⟩,fun D hD=>CompZ.by (ys:=ns.map V.int) (fun i acc H'=>Same H H'/\H' D=some (.lst acc)/\acc=((((l.zip ns).map fun p=>(w.count p.1:Int) * p.2).take i).map V.int)) (by rw[ag];lia) ⟨zf hD,ze,rfl⟩ (fun i acc H' _ h=>SqT.of (h.1 _ _ ht)) ?_ ?_⟩
  ·rintro i c y acc H' p hc hy ⟨hs,hH,rfl⟩ hp
   have hi:=(List.getElem?_eq_some_iff.mp hc).1
   rw[aE] at hy
   obtain⟨n,hn',rfl⟩:=Option.map_eq_some_iff.mp hy
   have hz:((l.zip ns).map fun p=>(w.count p.1:Int) * p.2)[i]? = some ((w.count c:Int) * n):=by
    rw[aE,(List.getElem?_zip_eq_some (z:=(c,n))).mpr ⟨hc,hn'⟩]
    rfl
   obtain⟨n1,n2⟩:=hb n (ac hn')
   have hcl:w.count c<=w.length:=List.count_le_length
   have hcn:(w.count c:Int) * n=(w.count c:Int) * n:=rfl
   simp only[wu]
   repeat (first | rfl' | simp only[yq,zw,zH,yy,yw,zv])
   refine⟨_,SqT.of ze,rfl,_,_,rfl,_,_,rfl,rfl,Qg,_,rfl,_,rfl,?_,zf hp _ _ hH,by rw[ag,aJ];lia,?_⟩
   ·exact .inr ⟨by lia,by lia⟩
   ·rw[VD]
    refine CNx.mk hi ⟨zK (hs.trans (zf hp)) hD,ze,?_⟩
    rw[zV hz,aD]
    rfl
  ·rintro acc H' ⟨hs,hH,rfl⟩
   have e:l.length=((l.zip ns).map fun p=>(w.count p.1:Int) * p.2).length:=by rw[ag,List.length_zip];lia
   refine⟨D,rfl,_,SqL.of hH,?_⟩
   rw[e,aM]
   exact q _ hs
theorem za4(l:List Nat)(c e:Nat):StrLaws.At (tx l) (tx [c]) (tx l).length e ↔ l[e]? = some c:=by
 unfold StrLaws.At Builtin.Str.subAt
 rw[zQ,zQ]
 have h1:[c].length=1:=rfl
 rw[h1,beq_iff_eq]
 have e1:((tx l).cps.extract e (e+1)).toList=(l.drop e).take 1:=by
  show (l.toArray.extract e (e+1)).toList=_
  simp [dQ]
 have e2:((tx l).cps.extract e (e+1)=(tx [c]).cps) ↔ (l.drop e).take 1=[c]:=by
  constructor
  ·intro h
   rw[<- e1,h]
  ·intro h
   apply Array.toList_inj.mp
   rw[e1,h]
 constructor
 ·rintro⟨h2,h3⟩
  have:=e2.mp h3
  rw[aR (by lia),dC,bG] at this
  rw[ak (by lia)]
  injection this with h _
  rw[h]
 ·intro h
  obtain⟨he,hx⟩:=List.getElem?_eq_some_iff.mp h
  refine⟨by lia,e2.mpr ?_⟩
  rw[aR he,dC,bG,hx]
theorem Wg{l:List Nat}{c:Nat}(h:c ∈ l):Txt.find (tx l) (tx [c])=((l.idxOf c:Nat):Int):=by
 have hlt:=bI h
 have hg:l[l.idxOf c]? = some c:=by rw[ak hlt,dI]
 rcases PyProof.Rows.find_whole (tx l) (tx [c]) with ⟨h1,h2⟩ | ⟨e,h1,h2,h3⟩
 ·exact absurd ((za4 l c _).mpr hg) (h2 _)
 ·have he:=(za4 l c e).mp h2
  have:e=l.idxOf c:=by
   rcases dP e (l.idxOf c) with q | q | q
   ·have:=List.not_of_lt_findIdx (p:=(· == c)) q
    obtain⟨h4,h5⟩:=List.getElem?_eq_some_iff.mp he
    simp [h5] at this
   ·exact q
   ·exact absurd ((za4 l c _).mpr hg) (h3 _ q)
  rw[h1,this]
noncomputable abbrev MkO(P:Program)(w:World)(K:ot)(mg:Str->Option Value)(base:Heap)(C:Addr):Prop:=DMk P w K mg base CX0 3 C ["self","letters"] (uF K)
noncomputable abbrev MkW(P:Program)(w:World)(K:ot)(mg:Str->Option Value)(base:Heap)(C:Addr):Prop:=DMk P w K mg base (CXx P w) 4 C ["self","letters","weights"] (jL K C)
noncomputable abbrev MW(P:Program)(w:World)(K:ot)(mg:Str->Option Value)(base:Heap)(C:Addr)(m:Str)(sp:Sp):Prop:=DM P w K mg base CX0 1 C m ["self","word"] sp
structure TWS(P:Program)(w:World)(K:ot)(mg:Str->Option Value)(base:Heap)(CO CR CW:Addr):Prop extends TOrd K mg CO CR CW where
 mO:MkO P w K mg base CO
 mR:MkO P w K mg base CR
 mW:MkW P w K mg base CW
 wO:MW P w K mg base CO "weight" ke
 wR:MW P w K mg base CR "weight" ke
 wW':MW P w K mg base CW "weight" (Ye CW)
 sO:MW P w K mg base CO "seen" YD
 sR:MW P w K mg base CR "seen" ZY
 sW:MW P w K mg base CW "seen" YD
structure OG(l:List Nat)(ns:List Int)(k:Nat):Prop where
 g:uq l=true
 k3:k<3
 nl:ns.length=l.length
 nb:∀ n ∈ ns,1<=n/\n<=1000000
noncomputable def uz(l:List Nat)(w:List Nat):List Int:=w.map fun c=>((l.idxOf c:Nat):Int)
noncomputable def wX(k:Nat)(l:List Nat)(w:List Nat):List Int:=uz l (yx k w)
noncomputable def K6(CO CR CW:Addr):Addr->Prop:=fun C=>C=CO\/C=CR\/C=CW
theorem OrdAt.fam{CO CR CW:Addr}{H:Hp}{o:Addr}{k:Nat}{l:List Nat}{ns:List Int}(h:OrdAt CO CR CW H o k l ns):∃ C dx fs,K6 CO CR CW C/\H o=some (.ins C dx fs)/\(∀ m:Str,m≠"letters"->m≠"weights"->fs.lookup m=none)/\fs.lookup ("letters" : Str)=some (V.str (tx l)):=by
 have e1:∀ m:Str,m≠"letters"->(m == ("letters" : Str))=false:=fun m hm=>by simpa using hm
 have e2:∀ m:Str,m≠"weights"->(m == ("weights" : Str))=false:=fun m hm=>by simpa using hm
 obtain⟨dx,⟨h1,h2⟩ | ⟨h1,h2⟩ | ⟨h1,h2,w,h3,h4⟩⟩:=h
 ·exact⟨_,_,_,.inl rfl,h2,fun m hm _=>by simp [bc,e1 m hm],rfl⟩
 ·exact⟨_,_,_,.inr (.inl rfl),h2,fun m hm _=>by simp [bc,e1 m hm],rfl⟩
 ·exact⟨_,_,_,.inr (.inr rfl),h3,fun m hm hm2=>by simp [bc,e1 m hm,e2 m hm2],rfl⟩
noncomputable def qw(CO CR CW:Addr):Sp:=fun vs H Q _=>∃(o:Addr) (k:Nat) (l:List Nat) (ns:List Int) (w:List Nat),vs=[.ref o,.str (tx w)]/\OrdAt CO CR CW H o k l ns/\OG l ns k/\w.length<=1000/\(∀ c ∈ w,c ∈ l)/\∀(p q:Addr) (H':Hp),Same H H'->H' p=some (.tup [.int (zt k l ns w),.ref q])->H' q=some (.lst ((wX k l w).map V.int))->Q (.ref p) H'
theorem UL{H:Hp}{CO CR CW o D:Addr}{k:Nat}{l:List Nat}{ns:List Int}{v:List Nat}{a1:Option V}{Q:VK}(T:TOrd K mg CO CR CW)(ho:OrdAt CO CR CW H o k l ns)(hl:v.length<=1000)(hm:∀ c ∈ v,c ∈ l)(hD:H D=none)(q:∀ H',Same H H'->H' D=some (.lst ((uz l v).map V.int))->Q (.ref D) H') :
  CompS (tx v) (xK 0) wu (tBM K "str" zv (zar K (yK 1) "letters") (zN (yK 0) wq)) 1 [0] [some (.ref o),a1] H Q D:=by
 have s16:=yf
 refine CompS.by (fun i acc H'=>Same H H'/\H' D=some (.lst acc)/\acc=(uz l (v.take i)).map V.int) ⟨zf hD,ze,rfl⟩ ?_ ?_
 ·rintro i c acc H' hc ⟨hs,hH,rfl⟩
  have hci:=(List.getElem?_eq_some_iff.mp hc).1
  have hcl:=hm c (ac hc)
  obtain⟨C,dx,fs,hf,ho',_,hlk⟩:=(ho.same hs).fam
  have hC:Cls K C/\NoAttr K C "letters":=by
   rcases hf with rfl | rfl | rfl
   ·exact⟨T.cO,T.lO⟩
   ·exact⟨T.cR,T.lR⟩
   ·exact⟨T.cW,T.lW⟩
  simp only[wu]
  repeat (first | rfl' | simp only[yq,zw,zH,yy,yw,zv])
  refine⟨xj,_,_,_,ho',hC.1,hC.2,_,hlk,trivial,_,rfl,_,Wg hcl,hH,by rw[ag];unfold uz;rw[ag,aJ];lia,CNx.mk hci ⟨zK hs hD,ze,?_⟩⟩
  unfold uz
  rw[zV hc,aD,aD]
  rfl
 ·rintro acc H' ⟨hs,hH,rfl⟩
  rw[aM] at hH
  exact q H' hs hH
theorem km:zr ["self","word"] ["self","word"] (zb yv):=⟨rfl,rfl,rfl,by decide +kernel,rfl,by decide +kernel,by decide +kernel⟩
theorem wc{f CO CR CW:Addr}{fd:FuncData}(B:Bt mg)(T:TWS P w K mg base CO CR CW)(F:Fun K "rank" "Order.rank" yv f fd) : ye P w K mg base CX0 2 f fd ["self","word"] (qw CO CR CW):=by
 refine F.ok km (fun vs H Q E h=>?_) (fun cdv A outer s H vs Q E hr h=>?_)
 ·obtain⟨o,k,l,ns,w,rfl,_⟩:=h
  rfl
 ·obtain⟨o,k,l,ns,w,rfl,ho,hG,hw,hm,q⟩:=h
  refine⟨_,(zh (zu (yo (za (Kj T.wO T.wR T.wW' T.cO T.cR T.cW hr (pv 0) (za (pv 1) zc)) (za (yD (own:=["letter"]) (caps:=["self"]) (ix:=[0]) (tt:=wu) (te:=(tBM K "str" zv (zar K (yK 1) "letters") (zN (yK 0) wq))) rfl (zO (sc:=zb yv) rfl (by decide +kernel) (by decide +kernel) (by decide +kernel) rfl (by decide +kernel) (by decide +kernel) rfl) (Zj (Kj T.sO T.sR T.sW T.cO T.cR T.cW hr (pv 0) (za (pv 1) zc))) (fun _ _ _ _ _ _=>zA (i:=0) (show List.Nodup [_,_] by decide) rfl (Or.inl rfl)) (fun _ _ _ _ _ _=>yE) (fun _ _ _ _ _ _=>(qF bz PySem.F.slot_str_index PySem.F.type_str_index JI (Yt (pv 1) rfl) (za (pv 0) zc)))) zc))))),?_⟩
  have s16:=yf
  have hsl:(yx k w).length<=1000:=by
   unfold yx
   split
   ·rw[bW]
    exact hw
   ·exact hw
  have hsm:∀ c ∈ yx k w,c ∈ l:=fun c hc=>by
   unfold yx at hc
   split at hc
   ·exact hm c (List.mem_reverse.mp hc)
   ·exact hm c hc
  have l6:l.length<=6:=(of_decide_eq_true hG.g).2.1
  have fin:∀ H1,Same H H1->∀ D,H1 D=none->CompS (tx (yx k w)) (xK 0) wu (tBM K "str" zv (zar K (yK 1) "letters") (zN (yK 0) wq)) 1 [0] [some (.ref o),some (.str (tx w))] H1 (fun x5 H1=>2<=oq/\∀ p,H1 p=none->Q (.ref p) (upd H1 p (.tup [.int (zt k l ns w),x5]))) D:=fun H1 s1 D hD=>UL T.toTOrd (ho.same s1) hsl hsm hD fun H' s' hH=>⟨by lia,fun p hp=>q p D _ (s1.trans (s'.trans (zf hp))) ze (zf hp _ _ hH)⟩
  repeat (first | rfl' | simp only[yq,zw,zH,yy,yw,zv])
  obtain⟨dx',⟨h1,h2⟩ | ⟨h1,h2⟩ | ⟨h1,h2,t',h3,h4⟩⟩:=id ho
  ·have e1:zt k l ns w=(w.length:Int):=by unfold zt;rw[if_neg (by lia)]
   have e2:yx k w=w:=by unfold yx;rw[if_neg (by lia)]
   rw[e1,e2] at fin
   exact .inl ⟨_,_,h2,rfl,o,w,rfl,hw,.inl ⟨_,_,h2,rfl,o,w,rfl,_,rfl,fin H (Same.refl _)⟩⟩
  ·have e1:zt k l ns w=(w.length:Int):=by unfold zt;rw[if_neg (by lia)]
   have e2:yx k w=w.reverse:=by unfold yx;rw[if_pos h1]
   rw[e1,e2] at fin
   exact .inr (.inl ⟨_,_,h2,rfl,o,w,rfl,hw,.inr (.inl ⟨_,_,h2,rfl,o,w,rfl,hw,_,rfl,fin H (Same.refl _)⟩)⟩)
  ·have e1:zt k l ns w=XO l ns w:=by unfold zt;rw[if_pos h1]
   have e2:yx k w=w:=by unfold yx;rw[if_neg (by lia)]
   rw[e1,e2] at fin
   exact .inr (.inr ⟨_,_,h3,rfl,o,dx',t',w,l,ns,rfl,hw,l6,hG.nl,hG.nb,h3,h4,fun H' s'=>.inr (.inr ⟨_,_,s' _ _ h3,rfl,o,w,rfl,_,rfl,fin H' s'⟩)⟩)
noncomputable def zR(k:Nat)(l:List Nat)(ns:List Int)(u v:List Nat):Bool:=if zt k l ns u=zt k l ns v then ltI (wX k l u) (wX k l v) else decide (zt k l ns u<zt k l ns v)
noncomputable abbrev DR(P:Program)(w:World)(K:ot)(mg:Str->Option Value)(base:Heap)(CO CR CW:Addr):Prop:=DMF P w K mg base CX0 2 (K6 CO CR CW) "rank" ["self","word"] (fun _=>qw CO CR CW)
theorem vL{H:Hp}{p q:Addr}{z:Int}{ns:List Int}(hp:H p=some (.tup [.int z,.ref q]))(hq:H q=some (.lst (ns.map V.int))):Is K H (.tup [.int z,.lst (ns.map L3.D.int)]) (.ref p):=by
 simp only[Is,Iss]
 exact⟨p,_,rfl,SqT.of hp,_,_,rfl,rfl,_,_,rfl,⟨q,_,rfl,SqL.of hq,Iss.ints ns⟩,rfl⟩
theorem xn:∀ x:List Int,ltI x x=false
 | []=>rfl
 | a::x=>by
  rw[ltI,if_pos rfl]
  exact xn x
theorem Z9(a b:Int)(x y:List Int):ltD (.tup [.int a,.lst (x.map L3.D.int)]) (.tup [.int b,.lst (y.map L3.D.int)])=if a=b then ltI x y else decide (a<b):=by
 simp only[ltD,vV,eqD,ZD,kN]
 by_cases h:a=b
 ·subst h
  by_cases h2:x=y
  ·subst h2
   simp [xn]
  ·simp [h2]
 ·simp [h]
noncomputable def X3(CO CR CW:Addr):Sp:=fun vs H Q _=>∃(o:Addr) (k:Nat) (l:List Nat) (ns:List Int) (u v:List Nat),vs=[.ref o,.str (tx u),.str (tx v)]/\OrdAt CO CR CW H o k l ns/\OG l ns k/\u.length<=1000/\v.length<=1000/\(∀ c ∈ u,c ∈ l)/\(∀ c ∈ v,c ∈ l)/\∀ H':Hp,Same H H'->Q (.bl (zR k l ns u v)) H'
theorem qk:zr ["self","one","other"] ["self","one","other"] (zb yj):=⟨rfl,rfl,rfl,by decide +kernel,rfl,by decide +kernel,by decide +kernel⟩
theorem xw{f CO CR CW:Addr}{fd:FuncData}(B:Bt mg)(DRk:DR P w K mg base CO CR CW)(F:Fun K "before" "Order.before" yj f fd) : ye P w K mg base CX0 3 f fd ["self","one","other"] (X3 CO CR CW):=by
 refine F.ok qk (fun vs H Q E h=>?_) (fun cdv A outer s H vs Q E hr h=>?_)
 ·obtain⟨o,k,l,ns,u,v,rfl,_⟩:=h
  rfl
 ·obtain⟨o,k,l,ns,u,v,rfl,ho,hG,hu,hv,hmu,hmv,q⟩:=h
  refine⟨_,(zh (zu (wo (Ww (qG hr)) (Kc DRk hr (pv 0) (za (pv 1) zc)) (Kc DRk hr (pv 0) (za (pv 2) zc)) (zJ _)))),?_⟩
  have s16:=yf
  repeat (first | rfl' | simp only[yq,zw,zH,yy,yw,zv])
  obtain⟨C,dx,fs,hf,ho1,hn,_⟩:=ho.fam
  have h1:fs.lookup ("rank" : Str)=none:=hn _ (by decide) (by decide)
  refine⟨C,hf,dx,fs,ho1,h1,o,k,l,ns,u,rfl,ho,hG,hu,hmu,fun p x H1 s1 hp hx=>⟨C,hf,dx,fs,s1 _ _ ho1,h1,o,k,l,ns,v,rfl,ho.same s1,hG,hv,hmv,fun p' x' H2 s2 hp' hx'=>?_⟩⟩
  refine Vr (vL (s2 _ _ hp) (s2 _ _ hx)) (vL hp' hx') (by simp only[dpD,v0,jX];decide) (by simp only[okD,jB];exact⟨trivial,vw _ _,trivial⟩) ?_
  rw[Z9]
  exact q H2 (s1.trans s2)
noncomputable abbrev DB(P:Program)(w:World)(K:ot)(mg:Str->Option Value)(base:Heap)(CO CR CW:Addr):Prop:=DMF P w K mg base CX0 3 (K6 CO CR CW) "before" ["self","one","other"] (fun _=>X3 CO CR CW)
noncomputable def V3(k:Int)(ls:List Nat)(ns:List Int)(w:List Nat):Int:=(w.map fun c=>if k=2 then ns.getD (ls.idxOf c) 0 else 1).sum
theorem VX{k:Int}{ls:List Nat}{ns:List Int}{w:List Nat}(h:k≠2):V3 k ls ns w=(w.length:Int):=by
 unfold V3
 induction w with
 | nil=>rfl
 | cons c w ih =>
  rw[ax,bf,ih,if_neg h,aL]
  lia
theorem qR{ls:List Nat}{ns:List Int}(f g:Nat->Int):((ls.zip ns).map fun p=>(f p.1+g p.1) * p.2).sum=((ls.zip ns).map fun p=>f p.1 * p.2).sum+((ls.zip ns).map fun p=>g p.1 * p.2).sum:=by
 induction ls.zip ns with
 | nil=>rfl
 | cons p r ih =>
  rw[ax,ax,ax,bf,bf,bf,ih,Int.add_mul]
  lia
theorem WV:∀{ls:List Nat} {ns:List Int} {c:Nat},ls.Nodup->ns.length=ls.length->c ∈ ls->((ls.zip ns).map fun p=>(if p.1=c then (1:Int) else 0) * p.2).sum=ns.getD (ls.idxOf c) 0
 | [],ns,c,_,_,hc=>(nomatch hc)
 | d::ls,[],c,_,hl,_=>by cases hl
 | d::ls,n::ns,c,hn,hl,hc=>by
  rw[cX,ax,bf]
  have hnd:=List.nodup_cons.mp hn
  by_cases h:d=c
  ·subst h
   have h0:∀(l:List Nat) (m:List Int),d ∉ l->((l.zip m).map fun p=>(if p.1=d then (1:Int) else 0) * p.2).sum=0:=by
    intro l
    induction l with
    | nil=>intro m _;rfl
    | cons x l ih =>
     intro m hx
     cases m with
     | nil=>rfl
     | cons y m =>
      rw[cX,ax,bf,ih m (fun q=>hx (aw _ q)),if_neg (show ¬ x=d from fun e=>hx (by rw[e];exact aI))]
      lia
   rw[h0 ls ns hnd.1,if_pos rfl,List.idxOf_cons_self]
   simp
  ·have hc':c ∈ ls:=by
    rcases List.mem_cons.mp hc with e | e
    ·exact absurd e.symm h
    ·exact e
   rw[WV hnd.2 (by simpa using hl) hc',if_neg h,List.idxOf_cons,show (d == c)=false by simpa using h]
   simp
theorem jK{ls:List Nat}{ns:List Int}(hn:ls.Nodup)(hl:ns.length=ls.length):∀{w:List Nat},(∀ x ∈ w,x ∈ ls)->V3 2 ls ns w=XO ls ns w
 | [],_=>by
  have h0:∀ r:List (Nat × Int),(r.map fun p=>((([]:List Nat).count p.1:Nat):Int) * p.2).sum=0:=by
   intro r
   induction r with
   | nil=>rfl
   | cons p r ih=>rw[ax,bf,ih];simp
  exact (h0 _).symm
 | c::w,h=>by
  have ih:=jK hn hl (w:=w) fun x hx=>h x (aw _ hx)
  have e1:V3 2 ls ns (c::w)=ns.getD (ls.idxOf c) 0+V3 2 ls ns w:=by
   unfold V3
   rw[ax,bf,if_pos rfl]
  rw[e1,ih,<- WV hn hl (h c aI)]
  unfold XO
  rw[<- qR (fun x=>if x=c then 1 else 0) (fun x=>(w.count x:Int))]
  refine congrArg List.sum (cp fun p _=>?_)
  rw[List.count_cons]
  by_cases e:c=p.1
  ·rw[if_pos e.symm,if_pos (by simpa using e)]
   simp [Int.add_comm]
  ·rw[if_neg (fun z=>e z.symm),if_neg (by simpa using e)]
   simp
noncomputable def wt(k:Nat)(ns:List Int)(i:Int):Int:=if k=2 then ns.getD i.toNat 0 else 1
theorem wa{g:Int->Int}:∀{x:List Int},(∀ i ∈ x,0<g i)->0<=(x.map g).sum
 | [],_=>by simp
 | a::x,h=>by
  have h1:=h a aI
  have h2:=wa (x:=x) fun i hi=>h i (aw _ hi)
  rw[ax,bf]
  lia
theorem wz:∀{x y:List Int},x≠y->ltI x y=!ltI y x
 | [],[],h=>absurd rfl h
 | [],_::_,_=>rfl
 | _::_,[],_=>rfl
 | a::x,b::y,h=>by
  rw[ltI,ltI]
  by_cases e:a=b
  ·rw[if_pos e,if_pos e.symm]
   exact wz fun q=>h (by rw[e,q])
  ·rw[if_neg e,if_neg fun q=>e q.symm]
   by_cases c:a<b
   ·rw[decide_eq_true c,decide_eq_false (by lia)]
    rfl
   ·rw[decide_eq_false c,decide_eq_true (by lia)]
    rfl
theorem u8:∀{x y z:List Int},ltI x y=true->ltI y z=true->ltI x z=true
 | [],[],_,h,_=>by cases h
 | [],_::_,[],_,h=>by cases h
 | [],_::_,_::_,_,_=>rfl
 | _::_,[],_,h,_=>by cases h
 | _::_,_::_,[],_,h=>by cases h
 | a::x,b::y,c::z,h1,h2=>by
  rw[ltI] at h1 h2 ⊢
  by_cases e:a=b
  ·subst e
   rw[if_pos rfl] at h1
   by_cases f:a=c
   ·rw[if_pos f] at h2 ⊢
    exact u8 h1 h2
   ·rw[if_neg f] at h2 ⊢
    exact h2
  ·rw[if_neg e] at h1
   have h1':=of_decide_eq_true h1
   by_cases f:b=c
   ·subst f
    rw[if_neg e]
    exact h1
   ·rw[if_neg f] at h2
    have h2':=of_decide_eq_true h2
    rw[if_neg (by lia)]
    exact decide_eq_true (by lia)
theorem ZQ:∀(c x y:List Int),ltI (c ++ x) (c ++ y)=ltI x y
 | [],_,_=>rfl
 | a::c,x,y=>by
  rw[bt,bt,ltI,if_pos rfl]
  exact ZQ c x y
theorem YM{g:Int->Int}{c:List Int}:∀{x y:List Int},(∀ i ∈ x,0<g i)->(∀ i ∈ y,0<g i)->(x.map g).sum=(y.map g).sum->ltI (x ++ c) (y ++ c)=ltI x y
 | [],[],_,_,_=>xn c
 | [],b::y,_,hy,h=>by
  have h1:=hy b aI
  have h2:=wa (x:=y) fun i hi=>hy i (aw _ hi)
  rw[ax,bf,aN,List.sum_nil] at h
  lia
 | a::x,[],hx,_,h=>by
  have h1:=hx a aI
  have h2:=wa (x:=x) fun i hi=>hx i (aw _ hi)
  rw[ax,bf,aN,List.sum_nil] at h
  lia
 | a::x,b::y,hx,hy,h=>by
  rw[bt,bt,ltI,ltI]
  by_cases e:a=b
  ·rw[if_pos e,if_pos e]
   rw[ax,bf,ax,bf,e] at h
   exact YM (fun i hi=>hx i (aw _ hi)) (fun i hi=>hy i (aw _ hi)) (by lia)
  ·rw[if_neg e,if_neg e]
section
variable{k:Nat}{l:List Nat}{ns:List Int}{t u v:List Nat}
theorem UO(a b:List Nat):XO l ns (a ++ b)=XO l ns a+XO l ns b:=by
 unfold XO
 rw[<- qR (fun x=>(a.count x:Int)) (fun x=>(b.count x:Int))]
 refine congrArg List.sum (cp fun p _=>?_)
 rw[List.count_append]
 simp
theorem xm(a b:List Nat):zt k l ns (a ++ b)=zt k l ns a+zt k l ns b:=by
 unfold zt
 by_cases h:k=2
 ·rw[if_pos h,if_pos h,if_pos h,UO]
 ·rw[if_neg h,if_neg h,if_neg h,au]
  lia
theorem xq(G:OG l ns k):∀{w:List Nat},(∀ c ∈ w,c ∈ l)->zt k l ns w=((uz l w).map (wt k ns)).sum:=by
 intro w hm
 have hn:l.Nodup:=(of_decide_eq_true G.g).2.2.2
 have e:((uz l w).map (wt k ns)).sum=V3 (k:Int) l ns w:=by
  unfold uz V3
  rw[dq]
  refine congrArg List.sum (cp fun c _=>?_)
  show wt k ns _=_
  unfold wt
  by_cases h:k=2
  ·rw[if_pos h,if_pos (by lia),aW]
  ·rw[if_neg h,if_neg (by lia)]
 rw[e]
 unfold zt
 by_cases h:k=2
 ·rw[if_pos h,h]
  exact (jK hn G.nl hm).symm
 ·rw[if_neg h,VX (by lia)]
theorem Zp(G:OG l ns k)(hm:∀ c ∈ u,c ∈ l):∀ i ∈ uz l u,0<wt k ns i:=by
 intro i hi
 obtain⟨c,hc,rfl⟩:=List.mem_map.mp hi
 have hlt:=bI (hm c hc)
 have hl:=G.nl
 unfold wt
 split
 ·rw[aW,ae,ak (by lia)]
  have:=(G.nb _ (List.getElem_mem (l:=ns) (n:=l.idxOf c) (by lia))).1
  show 0<ns[l.idxOf c]
  lia
 ·decide
theorem vm(G:OG l ns k)(hm:∀ c ∈ u,c ∈ l):0<=zt k l ns u:=by
 rw[xq G hm]
 exact wa (Zp G hm)
theorem jv(G:OG l ns k)(hm:∀ c ∈ u,c ∈ l)(h:u≠[]):0<zt k l ns u:=by
 cases u with
 | nil=>exact absurd rfl h
 | cons a u =>
  have h1:=Zp G hm (l.idxOf a:Nat) (List.mem_map.mpr ⟨a,aI,rfl⟩)
  have h2:0<=((uz l u).map (wt k ns)).sum:=wa (Zp (u:=u) G fun c hc=>hm c (aw _ hc))
  rw[xq G hm]
  show 0<((((l.idxOf a:Nat):Int)::uz l u).map (wt k ns)).sum
  rw[ax,bf]
  lia
theorem jO:∀{u v:List Nat},(∀ c ∈ u,c ∈ l)->(∀ c ∈ v,c ∈ l)->uz l u=uz l v->u=v
 | [],[],_,_,_=>rfl
 | [],_::_,_,_,h=>by cases h
 | _::_,[],_,_,h=>by cases h
 | a::u,b::v,hu,hv,h=>by
  unfold uz at h
  rw[ax,ax] at h
  injection h with h1 h2
  have h3:l.idxOf a=l.idxOf b:=by lia
  have ha:=dI (bI (hu a aI))
  have hb:=dI (bI (hv b aI))
  have:a=b:=by
   rw[<- ha,<- hb]
   simp only[h3]
  rw[this,jO (fun c hc=>hu c (aw _ hc)) (fun c hc=>hv c (aw _ hc)) h2]
theorem xB:zR k l ns u u=false:=by
 unfold zR
 rw[if_pos rfl,xn]
theorem YS(hu:∀ c ∈ u,c ∈ l)(hv:∀ c ∈ v,c ∈ l)(h:wX k l u=wX k l v):u=v:=by
 unfold wX yx at h
 by_cases e:k=1
 ·rw[if_pos e,if_pos e] at h
  exact List.reverse_inj.mp (jO (fun c hc=>hu c (List.mem_reverse.mp hc)) (fun c hc=>hv c (List.mem_reverse.mp hc)) h)
 ·rw[if_neg e,if_neg e] at h
  exact jO hu hv h
theorem qh(hu:∀ c ∈ u,c ∈ l)(hv:∀ c ∈ v,c ∈ l)(h:u≠v):zR k l ns u v=!zR k l ns v u:=by
 unfold zR
 by_cases e:zt k l ns u=zt k l ns v
 ·rw[if_pos e,if_pos e.symm]
  exact wz fun q=>h (YS hu hv q)
 ·rw[if_neg e,if_neg fun q=>e q.symm]
  by_cases c:zt k l ns u<zt k l ns v
  ·rw[decide_eq_true c,decide_eq_false (by lia)]
   rfl
  ·rw[decide_eq_false c,decide_eq_true (by lia)]
   rfl
theorem qz(h1:zR k l ns t u=true)(h2:zR k l ns u v=true):zR k l ns t v=true:=by
 unfold zR at h1 h2 ⊢
 generalize zt k l ns t=a at *
 generalize zt k l ns u=b at *
 generalize zt k l ns v=c at *
 by_cases e:a=b
 ·subst e
  rw[if_pos rfl] at h1
  by_cases f:a=c
  ·rw[if_pos f] at h2 ⊢
   exact u8 h1 h2
  ·rw[if_neg f] at h2 ⊢
   exact h2
 ·rw[if_neg e] at h1
  have h1':=of_decide_eq_true h1
  by_cases f:b=c
  ·subst f
   rw[if_neg e]
   exact h1
  ·rw[if_neg f] at h2
   have h2':=of_decide_eq_true h2
   rw[if_neg (by lia)]
   exact decide_eq_true (by lia)
theorem Yq(a b:List Nat):uz l (a ++ b)=uz l a ++ uz l b:=aD
theorem Zk(G:OG l ns k)(hu:∀ c ∈ u,c ∈ l)(hv:∀ c ∈ v,c ∈ l)(e:zt k l ns u=zt k l ns v)(c:List Int):ltI (uz l u ++ c) (uz l v ++ c)=ltI (uz l u) (uz l v):=by
 rw[xq G hu,xq G hv] at e
 exact YM (Zp G hu) (Zp G hv) e
theorem jg(G:OG l ns k)(hu:∀ c ∈ u,c ∈ l):zt k l ns u.reverse=zt k l ns u:=by
 rw[xq G hu,xq G fun c hc=>hu c (List.mem_reverse.mp hc)]
 unfold uz
 rw[List.map_reverse,List.map_reverse,List.sum_reverse]
theorem kH(G:OG l ns k)(ht:∀ c ∈ t,c ∈ l)(hu:∀ c ∈ u,c ∈ l)(hv:∀ c ∈ v,c ∈ l):zR k l ns (t ++ u) (t ++ v)=zR k l ns u v/\zR k l ns (u ++ t) (v ++ t)=zR k l ns u v:=by
 have hur:∀ c ∈ u.reverse,c ∈ l:=fun c hc=>hu c (List.mem_reverse.mp hc)
 have hvr:∀ c ∈ v.reverse,c ∈ l:=fun c hc=>hv c (List.mem_reverse.mp hc)
 unfold zR
 rw[xm,xm,xm,xm]
 by_cases e:zt k l ns u=zt k l ns v
 ·rw[if_pos (by lia),if_pos e,if_pos (by lia)]
  unfold wX yx
  by_cases f:k=1
  ·simp only[if_pos f,List.reverse_append,Yq]
   exact⟨Zk G hur hvr (by rw[jg G hu,jg G hv,e]) _,ZQ _ _ _⟩
  ·simp only[if_neg f,Yq]
   exact⟨ZQ _ _ _,Zk G hu hv e _⟩
 ·rw[if_neg (by lia),if_neg e,if_neg (by lia)]
  exact⟨by congr 1;exact propext (by lia),by congr 1;exact propext (by lia)⟩
theorem V7(G:OG l ns k)(ht:∀ c ∈ t,c ∈ l)(hu:∀ c ∈ u,c ∈ l)(hv:∀ c ∈ v,c ∈ l)(h:t ++ u ++ v≠u):zR k l ns u (t ++ u ++ v)=true/\zR k l ns (t ++ u ++ v) u=false:=by
 have h0:0<zt k l ns t+zt k l ns v:=by
  have h1:=vm G ht
  have h2:=vm G hv
  by_cases e:t=[]
  ·by_cases f:v=[]
   ·subst e f
    simp at h
   ·have:=jv G hv f
    lia
  ·have:=jv G ht e
   lia
 unfold zR
 rw[xm,xm,if_neg (by lia),if_neg (by lia)]
 exact⟨decide_eq_true (by lia),decide_eq_false (by lia)⟩
end
theorem kL:∀ x y:List Int,ltI x y=true->ltI y x=false
 | [],[],h=>by cases h
 | [],_::_,_=>rfl
 | _::_,[],h=>by cases h
 | a::x,b::y,h=>by
  rw[ltI] at h ⊢
  by_cases e:a=b
  ·rw[if_pos e] at h
   rw[if_pos e.symm]
   exact kL x y h
  ·rw[if_neg e] at h
   rw[if_neg (fun q=>e q.symm)]
   have:=of_decide_eq_true h
   exact decide_eq_false (by lia)
theorem ZK{k:Nat}{l:List Nat}{ns:List Int}{u v:List Nat}(h:zR k l ns u v=true):zR k l ns v u=false:=by
 unfold zR at h ⊢
 by_cases e:zt k l ns u=zt k l ns v
 ·rw[if_pos e] at h
  rw[if_pos e.symm]
  exact kL _ _ h
 ·rw[if_neg e] at h
  rw[if_neg (fun q=>e q.symm)]
  have:=of_decide_eq_true h
  exact decide_eq_false (by lia)
noncomputable def stJ(l:List Nat)(ps:List zB)(q j:Nat):Bool:=((ps[j]?).map fun p=>zy l (q:Int) p.1).getD false
theorem jq{l:List Nat}{ps:List zB}{q j:Nat}{p:zB}(h:ps[j]? = some p):stJ l ps q j=zy l (q:Int) p.1:=by
 unfold stJ
 rw[h]
 rfl
theorem wY{l:List Nat}{ps:List zB}{q j:Nat}(h:stJ l ps q j=true):j<ps.length/\∃ p,ps[j]? = some p/\zy l (q:Int) p.1=true:=by
 unfold stJ at h
 cases e:ps[j]? with
 | none=>rw[e] at h;cases h
 | some p =>
  rw[e] at h
  exact⟨(List.getElem?_eq_some_iff.mp e).1,p,rfl,h⟩
noncomputable def uX(l:List Nat)(ps:List zB)(q i:Nat):List (Nat × Nat):=((aS i).filter (stJ l ps q)).map fun j=>(j,q)
noncomputable def xL(l:List Nat)(ps:List zB)(k:Nat):List (Nat × Nat):=(aS k).flatMap fun q=>uX l ps q ps.length
theorem Xn(l:List Nat)(ps:List zB)(q i:Nat):uX l ps q (i+1)=uX l ps q i ++ (if stJ l ps q i=true then [(i,q)] else []):=by
 unfold uX
 rw[cy,cz,aD]
 congr 1
 by_cases h:stJ l ps q i=true
 ·rw[if_pos h,ee h]
  rfl
 ·rw[if_neg h,ef h]
  rfl
theorem jA(l:List Nat)(ps:List zB)(k:Nat):xL l ps (k+1)=xL l ps k ++ uX l ps k ps.length:=by
 unfold xL
 rw[cy,cH]
 simp
theorem Wl(l:List Nat)(ps:List zB)(q i:Nat):(uX l ps q i).length<=i:=by
 unfold uX
 rw[ag]
 have:=cC (stJ l ps q) (aS i)
 rw[db] at this
 exact this
theorem W9(l:List Nat)(ps:List zB):∀ k,(xL l ps k).length<=k * ps.length
 | 0=>by simp [xL]
 | k+1=>by
  rw[jA,au,dW]
  have:=W9 l ps k
  have:=Wl l ps k ps.length
  lia
theorem usesN_mem{l:List Nat}{ps:List zB}{q i:Nat}{u:Nat × Nat}:u ∈ uX l ps q i ↔ u.2=q/\u.1<i/\stJ l ps q u.1=true:=by
 unfold uX
 rw[List.mem_map]
 constructor
 ·rintro⟨j,hj,rfl⟩
  rw[List.mem_filter,eJ] at hj
  exact⟨rfl,hj.1,hj.2⟩
 ·rintro⟨h1,h2,h3⟩
  exact⟨u.1,List.mem_filter.mpr ⟨List.mem_range.mpr h2,h3⟩,by rw[<- h1]⟩
theorem usesK_mem{l:List Nat}{ps:List zB}{k:Nat}{u:Nat × Nat}:u ∈ xL l ps k ↔ u.2<k/\stJ l ps u.2 u.1=true:=by
 unfold xL
 rw[List.mem_flatMap]
 constructor
 ·rintro⟨q,hq,hu⟩
  obtain⟨h1,h2,h3⟩:=usesN_mem.mp hu
  rw[eJ] at hq
  rw[h1]
  exact⟨hq,h3⟩
 ·rintro⟨h1,h2⟩
  exact⟨u.2,List.mem_range.mpr h1,usesN_mem.mpr ⟨rfl,(wY h2).1,h2⟩⟩
noncomputable def uLt(a b:Nat × Nat):Prop:=a.2<b.2\/(a.2=b.2/\a.1<b.1)
theorem uc(l:List Nat)(ps:List zB)(q:Nat):∀ i,(uX l ps q i).Pairwise uLt
 | 0=>by simp [uX]
 | i+1=>by
  rw[Xn]
  refine List.pairwise_append.mpr ⟨uc l ps q i,?_,fun a ha b hb=>?_⟩
  ·split
   ·exact d8 _ _
   ·exact List.Pairwise.nil
  ·obtain⟨h1,h2,_⟩:=usesN_mem.mp ha
   split at hb
   ·rw[List.mem_singleton.mp hb]
    exact .inr ⟨h1,h2⟩
   ·cases hb
theorem wK(l:List Nat)(ps:List zB):∀ k,(xL l ps k).Pairwise uLt
 | 0=>by simp [xL]
 | k+1=>by
  rw[jA]
  refine List.pairwise_append.mpr ⟨wK l ps k,uc l ps k _,fun a ha b hb=>?_⟩
  have h1:=(usesK_mem.mp ha).1
  have h2:=(usesN_mem.mp hb).1
  exact .inl (by lia)
noncomputable def FirstN(l:List Nat)(ps:List zB)(lo hi n:Nat)(r:Option (Nat × Nat)):Prop :=
 (r=none/\∀ j q,j<n->lo<=q->q<hi->stJ l ps q j=false) \/
 ∃ n0 q0,r=some (n0,q0)/\n0<n/\lo<=q0/\q0<hi/\stJ l ps q0 n0=true/\∀ j q,j<n->lo<=q->stJ l ps q j=true->q0<q\/(q0=q/\n0<=j)
theorem FirstN.uniq{l:List Nat}{ps:List zB}{lo hi n:Nat}{r r':Option (Nat × Nat)}(h:FirstN l ps lo hi n r)(h':FirstN l ps lo hi n r'):r=r':=by
 rcases h with ⟨rfl,h⟩ | ⟨n0,q0,rfl,a1,a2,a3,a4,a5⟩
 ·rcases h' with ⟨rfl,_⟩ | ⟨n0,q0,rfl,a1,a2,a3,a4,a5⟩
  ·rfl
  ·rw[h n0 q0 a1 a2 a3] at a4
   cases a4
 ·rcases h' with ⟨rfl,h⟩ | ⟨n1,q1,rfl,b1,b2,b3,b4,b5⟩
  ·rw[h n0 q0 a1 a2 a3] at a4
   cases a4
  ·have x1:=a5 n1 q1 b1 b2 b4
   have x2:=b5 n0 q0 a1 a2 a4
   have e1:q0=q1:=by lia
   have e2:n0=n1:=by lia
   rw[e1,e2]
theorem Xy{l:List Nat}{ps:List zB}{r:Option (Nat × Nat)}(h:FirstN l ps 0 l.length ps.length r):r=(xL l ps l.length).head?:=by
 have hs:=wK l ps l.length
 refine h.uniq ?_
 cases e:xL l ps l.length with
 | nil =>
  refine .inl ⟨rfl,fun j q _ _ hq=>?_⟩
  cases hb:stJ l ps q j with
  | false=>rfl
  | true =>
   have:(j,q) ∈ xL l ps l.length:=usesK_mem.mpr ⟨hq,hb⟩
   rw[e] at this
   cases this
 | cons u us =>
  rw[e] at hs
  have hu:u ∈ xL l ps l.length:=by rw[e];exact aI
  obtain⟨h1,h2⟩:=usesK_mem.mp hu
  refine .inr ⟨u.1,u.2,rfl,(wY h2).1,aG _,h1,h2,fun j q hj _ hb=>?_⟩
  by_cases hq:q<l.length
  ·have:(j,q) ∈ xL l ps l.length:=usesK_mem.mpr ⟨hq,hb⟩
   rw[e] at this
   rcases List.mem_cons.mp this with e2 | e2
   ·rw[<- e2]
    exact .inr ⟨rfl,aq _⟩
   ·rcases (List.pairwise_cons.mp hs).1 _ e2 with h | ⟨h,h'⟩
    ·exact .inl h
    ·exact .inr ⟨h,cS h'⟩
  ·exact .inl (by lia)
theorem qK{l p:List Nat}{q:Nat}(hp:p≠[])(h:zy l (q:Int) p=true):q<l.length:=by
 obtain⟨h0,h1,_⟩:=of_decide_eq_true h
 have:0<p.length:=List.length_pos_iff.mpr hp
 lia
theorem FirstN.keep{l:List Nat}{ps:List zB}{lo hi n:Nat}{r:Option (Nat × Nat)}{p:zB}(h:FirstN l ps lo hi n r)(hp:ps[n]? = some p)(hn:∀ q:Nat,lo<=q->q<(r.map Prod.snd).getD hi->zy l (q:Int) p.1=false):FirstN l ps lo hi (n+1) r:=by
 rcases h with ⟨rfl,h⟩ | ⟨n0,q0,rfl,a1,a2,a3,a4,a5⟩
 ·refine .inl ⟨rfl,fun j q hj h1 h2=>?_⟩
  by_cases e:j<n
  ·exact h j q e h1 h2
  ·have:j=n:=by lia
   subst this
   rw[jq hp]
   exact hn q h1 h2
 ·refine .inr ⟨n0,q0,rfl,by lia,a2,a3,a4,fun j q hj h1 h2=>?_⟩
  by_cases e:j<n
  ·exact a5 j q e h1 h2
  ·have:j=n:=by lia
   subst this
   rw[jq hp] at h2
   by_cases hq:q<q0
   ·rw[hn q h1 hq] at h2
    cases h2
   ·lia
theorem FirstN.take{l:List Nat}{ps:List zB}{lo hi n k:Nat}{r:Option (Nat × Nat)}{p:zB}(h:FirstN l ps lo hi n r)(hp:ps[n]? = some p)(h1:lo<=k)(h2:k<(r.map Prod.snd).getD hi)(h3:zy l (k:Int) p.1=true)(hn:∀ q:Nat,lo<=q->q<k->zy l (q:Int) p.1=false):FirstN l ps lo hi (n+1) (some (n,k)):=by
 have hk:k<hi/\∀ j q,j<n->lo<=q->stJ l ps q j=true->k<q:=by
  rcases h with ⟨rfl,h⟩ | ⟨n0,q0,rfl,a1,a2,a3,a4,a5⟩
  ·refine⟨h2,fun j q hj hl hb=>?_⟩
   by_cases hq:q<hi
   ·rw[h j q hj hl hq] at hb
    cases hb
   ·have h2':k<hi:=h2
    lia
  ·have h2':k<q0:=h2
   refine⟨by lia,fun j q hj hl hb=>?_⟩
   have:=a5 j q hj hl hb
   lia
 refine .inr ⟨n,k,rfl,by lia,h1,hk.1,by rw[jq hp];exact h3,fun j q hj hl hb=>?_⟩
 by_cases e:j<n
 ·exact .inl (hk.2 j q e hl hb)
 ·have:j=n:=by lia
  subst this
  rw[jq hp] at hb
  by_cases hq:q<k
  ·rw[hn q hl hq] at hb
   cases hb
  ·lia
theorem FirstN.window{l:List Nat}{ps:List zB}{lo mid hi n:Nat}{r:Option (Nat × Nat)}(h0:FirstN l ps lo mid n none)(hm:lo<=mid)(h:FirstN l ps mid hi n r):FirstN l ps lo hi n r:=by
 have h0':∀ j q,j<n->lo<=q->q<mid->stJ l ps q j=false:=by
  rcases h0 with ⟨_,h⟩ | ⟨_,_,h,_⟩
  ·exact h
  ·cases h
 rcases h with ⟨rfl,h⟩ | ⟨n0,q0,rfl,a1,a2,a3,a4,a5⟩
 ·refine .inl ⟨rfl,fun j q hj h1 h2=>?_⟩
  by_cases e:q<mid
  ·exact h0' j q hj h1 e
  ·exact h j q hj (by lia) h2
 ·refine .inr ⟨n0,q0,rfl,a1,by lia,a3,a4,fun j q hj h1 h2=>?_⟩
  by_cases e:q<mid
  ·rw[h0' j q hj h1 e] at h2
   cases h2
  ·exact a5 j q hj (by lia) h2
noncomputable def NeL(ps:List zB):Prop:=∀ p ∈ ps,p.1≠[]
theorem FirstN.toEnd{l:List Nat}{ps:List zB}{lo hi n:Nat}{r:Option (Nat × Nat)}(hN:NeL ps)(h:FirstN l ps lo hi n r)(hl:r=none->l.length<=hi):FirstN l ps lo l.length n r:=by
 have hlt:∀ j q,stJ l ps q j=true->q<l.length:=fun j q hb=>by
  obtain⟨_,p,hp,hs⟩:=wY hb
  exact qK (hN p (ac hp)) hs
 rcases h with ⟨rfl,h⟩ | ⟨n0,q0,rfl,a1,a2,a3,a4,a5⟩
 ·exact .inl ⟨rfl,fun j q hj h1 h2=>h j q hj h1 (by have:=hl rfl;lia)⟩
 ·exact .inr ⟨n0,q0,rfl,a1,a2,hlt _ _ a4,a4,a5⟩
noncomputable def zG(l:List Nat)(ps:List zB):Option (Nat × Nat):=(xL l ps l.length).head?
theorem YK{l:List Nat}{ps:List zB}{r:Option (Nat × Nat)}(h:FirstN l ps 0 l.length ps.length r):r=zG l ps:=Xy h
theorem YC(l:List Nat)(ps:List zB)(hN:NeL ps):FirstN l ps 0 l.length ps.length (zG l ps):=by
 have hs:=wK l ps l.length
 unfold zG
 cases e:xL l ps l.length with
 | nil =>
  refine .inl ⟨rfl,fun j q _ _ hq=>?_⟩
  cases hb:stJ l ps q j with
  | false=>rfl
  | true =>
   have:(j,q) ∈ xL l ps l.length:=usesK_mem.mpr ⟨hq,hb⟩
   rw[e] at this
   cases this
 | cons u us =>
  rw[e] at hs
  have hu:u ∈ xL l ps l.length:=by rw[e];exact aI
  obtain⟨h1,h2⟩:=usesK_mem.mp hu
  refine .inr ⟨u.1,u.2,rfl,(wY h2).1,aG _,h1,h2,fun j q hj _ hb=>?_⟩
  have hq:q<l.length:=by
   obtain⟨_,p,hp,hs⟩:=wY hb
   exact qK (hN p (ac hp)) hs
  have:(j,q) ∈ xL l ps l.length:=usesK_mem.mpr ⟨hq,hb⟩
  rw[e] at this
  rcases List.mem_cons.mp this with e2 | e2
  ·rw[<- e2]
   exact .inr ⟨rfl,aq _⟩
  ·rcases (List.pairwise_cons.mp hs).1 _ e2 with h | ⟨h,h'⟩
   ·exact .inl h
   ·exact .inr ⟨h,cS h'⟩
noncomputable def YO(ps:List zB)(n:Nat):zB:=ps.getD n ([],[])
theorem xR{ps:List zB}{n:Nat}{p:zB}(h:ps[n]? = some p):YO ps n=p:=by
 unfold YO
 rw[ae,h]
 rfl
noncomputable def Yz(l:List Nat)(ps:List zB)(u:Nat × Nat):List Nat:=xh l (u.2:Int) (YO ps u.1).1 (YO ps u.1).2
noncomputable def XQ(ps:List zB)(l:List Nat):List Nat:=((zG l ps).map (Yz l ps)).getD l
noncomputable def wAt(ps:List zB)(l:List Nat):Nat->List Nat
 | 0=>l
 | j+1=>XQ ps (wAt ps l j)
noncomputable def sAt(ps:List zB)(l:List Nat)(j:Nat):List (Nat × Nat):=(aS j).map fun i=>(zG (wAt ps l i) ps).getD (0,0)
theorem YN(ps:List zB)(l:List Nat)(j:Nat):sAt ps l (j+1)=sAt ps l j ++ [(zG (wAt ps l j) ps).getD (0,0)]:=by
 unfold sAt
 rw[cy,aD]
 rfl
theorem Z4(ps:List zB)(l:List Nat)(j:Nat):(sAt ps l j).length=j:=by
 unfold sAt
 rw[ag,db]
theorem wT{ps:List zB}{l:List Nat}{j:Nat}{u:Nat × Nat}(h:zG (wAt ps l j) ps=some u):wAt ps l (j+1)=Yz (wAt ps l j) ps u:=by
 show XQ ps (wAt ps l j)=_
 unfold XQ
 rw[h]
 rfl
noncomputable def Xf(ps:List zB)(l:List Nat)(j:Nat):Prop:=∀ i,i<j->zG (wAt ps l i) ps≠none
theorem Uz{ps:List zB}{l:List Nat}{i j:Nat}(h1:Xf ps l i)(h2:zG (wAt ps l i) ps=none)(h3:Xf ps l j)(h4:zG (wAt ps l j) ps=none):i=j:=by
 rcases dP i j with h | h | h
 ·exact absurd h2 (h3 i h)
 ·exact h
 ·exact absurd h4 (h1 j h)
theorem Xu{l:List Nat}{ps:List zB}{n q M lo:Nat}(h:FirstN l ps 0 l.length ps.length (some (n,q)))(hN:NeL ps)(hM:∀ p ∈ ps,p.1.length<=M)(hlo:lo=0\/lo+M<=q+1):FirstN (Yz l ps (n,q)) ps 0 lo ps.length none:=by
 refine .inl ⟨rfl,fun j x hj _ hx=>?_⟩
 rcases h with ⟨h,_⟩ | ⟨n0,q0,e,a1,a2,a3,a4,a5⟩
 ·cases h
 ·injection e with e
  injection e with e1 e2
  subst e1 e2
  cases hb:stJ (Yz l ps (n,q)) ps x j with
  | false=>rfl
  | true =>
   obtain⟨_,p,hp,hs⟩:=wY hb
   have hpm:=hM p (ac hp)
   have hpn:=List.length_pos_iff.mpr (hN p (ac hp))
   have hxq:x+p.1.length<=q:=by lia
   obtain⟨s0,s1,s2⟩:=of_decide_eq_true hs
   rw[aW] at s2
   obtain⟨_,p2,hp2,hs2⟩:=wY a4
   obtain⟨t0,t1,t2⟩:=of_decide_eq_true hs2
   have e4:(Yz l ps (n,q)).take q=l.take q:=by
    unfold Yz xh
    rw[aW,aV,bg (by rw[aJ];lia),eK,dY]
   have e5:∀ z:List Nat,((z.take q).drop x).take p.1.length=(z.drop x).take p.1.length:=fun z=>by
    rw[List.drop_take,eK]
    congr 1
    lia
   have s3:(l.drop x).take p.1.length=p.1:=by rw[<- e5,<- e4,e5,s2]
   have:stJ l ps x j=true:=by
    rw[jq hp]
    exact decide_eq_true ⟨by lia,by lia,by rw[aW];exact s3⟩
   have:=a5 j x hj (aG _) this
   lia
theorem FirstN.lower{l:List Nat}{ps:List zB}{lo hi n:Nat}(h:FirstN l ps 0 hi n none)(hl:lo<=hi):FirstN l ps 0 lo n none:=by
 rcases h with ⟨_,h⟩ | ⟨_,_,h,_⟩
 ·exact .inl ⟨rfl,fun j q hj h1 h2=>h j q hj h1 (by lia)⟩
 ·cases h
theorem Ux{l:List Nat}{ps:List zB}{n q m:Nat}(h:FirstN l ps 0 l.length ps.length (some (n,q)))(hm:∀ p ∈ ps,p.2.length<=m):(Yz l ps (n,q)).length<=l.length+m:=by
 rcases h with ⟨h,_⟩ | ⟨n0,q0,e,a1,a2,a3,a4,a5⟩
 ·cases h
 ·injection e with e
  injection e with e1 e2
  subst e1 e2
  obtain⟨_,p,hp,hs⟩:=wY a4
  have:=hm p (ac hp)
  have er:=xR hp
  unfold Yz xh
  simp only[au,aJ,be,er]
  lia
theorem qy{ps:List zB}{l:List Nat}{m:Nat}(hN:NeL ps)(hm:∀ p ∈ ps,p.2.length<=m):∀ j,(wAt ps l j).length<=l.length+j * m
 | 0=>by simp [wAt]
 | j+1=>by
  have ih:=qy (l:=l) hN hm j
  have hf:=YC (wAt ps l j) ps hN
  rw[dW]
  cases e:zG (wAt ps l j) ps with
  | none =>
   show (XQ ps (wAt ps l j)).length<=_
   unfold XQ
   rw[e]
   show (wAt ps l j).length<=_
   lia
  | some u =>
   rw[wT e]
   rw[e] at hf
   obtain⟨a,b⟩:=u
   have:=Ux hf hm
   lia
noncomputable def UseAt(H:Hp)(r:Option (Nat × Nat))(v:V):Prop:=(r=none/\v=.non)\/∃(n q:Nat) (p:Addr),r=some (n,q)/\v=.ref p/\H p=some (.tup [.int (n:Nat),.int (q:Nat)])
theorem UseAt.same{H H':Hp}{r:Option (Nat × Nat)}{v:V}(h:UseAt H r v)(s:Same H H'):UseAt H' r v:=by
 rcases h with h | ⟨n,q,p,h1,h2,h3⟩
 ·exact .inl h
 ·exact .inr ⟨n,q,p,h1,h2,s _ _ h3⟩
theorem W7{l p:List Nat}{lo hi:Int}{H:Hp}{Q:VK}(h0:0<=lo)(h1:0<=hi)(h:∀ r:Int,((r=-1/\∀ q:Nat,lo<=q->(q:Int)+p.length<=hi->zy l q p=false)\/∃ k:Nat,r=k/\lo<=k/\(k:Int)+p.length<=hi/\zy l k p=true/\∀ q:Nat,lo<=q->q<k->zy l q p=false)->Q (.int r) H):Qs (.str (tx l)) [.str (tx p),.int lo,.int hi] H Q:=by
 refine⟨l,p,lo,hi,rfl,rfl,h0,h1,fun r hr=>h r ?_⟩
 have no:∀ q:Nat,((l.drop q).take p.length≠p\/¬ q+p.length<=l.length)->zy l q p=false:=fun q hq=>decide_eq_false fun⟨_,b,c⟩=>by
  rcases hq with hq | hq
  ·exact hq c
  ·lia
 rcases hr with ⟨rfl,hn⟩ | ⟨k,rfl,k1,k2,k3,k4,hn⟩
 ·refine .inl ⟨rfl,fun q q1 q2=>no q ?_⟩
  by_cases e:q+p.length<=l.length
  ·exact .inl (hn q q1 q2 e)
  ·exact .inr e
 ·exact .inr ⟨k,rfl,k1,k2,decide_eq_true ⟨by lia,by lia,k4⟩,fun q q1 q2=>no q (.inl (hn q q1 q2))⟩
noncomputable def wS(K:ot):Sp:=fun vs H Q _=>∃(a:Addr) (l:List Nat) (ps:List zB) (st en:Nat),vs=[.ref a,.str (tx l),.int (st:Nat),.int (en:Nat)]/\LsA K H a (ps.map dR)/\NeL ps/\(∀ p ∈ ps,p.1.length<=1000)/\∀(r:Option (Nat × Nat)) (v:V) (H':Hp),Same H H'->UseAt H' r v->FirstN l ps st en ps.length r->Q v H'
theorem ZT{a:Addr}{l:List Nat}{ps:List zB}{st en:Nat}{s e:Int}{H:Hp}{Q:VK}{E:XK}(hs:s=(st:Nat))(he:e=(en:Nat))(hA:LsA K H a (ps.map dR))(hN:NeL ps)(hP:∀ p ∈ ps,p.1.length<=1000)(q:∀(r:Option (Nat × Nat)) (v:V) (H':Hp),Same H H'->UseAt H' r v->FirstN l ps st en ps.length r->Q v H'):wS K [.ref a,.str (tx l),.int s,.int e] H Q E:=by
 subst hs he
 exact⟨a,l,ps,st,en,rfl,hA,hN,hP,q⟩
theorem fA:zr ["rules","word","start","end","found","number","rule","place"] ["rules","word","start","end"] (zb yk):=⟨rfl,rfl,rfl,by decide +kernel,rfl,by decide +kernel,by decide +kernel⟩
theorem ql{f:Addr}{fd:FuncData}(B:Bt mg)(F:Fun K "first_within" "first_within" yk f fd) : ye P w K mg base CX0 1 f fd ["rules","word","start","end"] (wS K):=by
 refine F.ok fA (fun vs H Q E h=>?_) (fun cdv A outer s H vs Q E hr h=>?_)
 ·obtain⟨a,l,ps,st,en,rfl,_⟩:=h
  rfl
 ·obtain⟨a,l,ps,st,en,rfl,hA,hN,hP,q⟩:=h
  refine⟨_,(zi (zx (i:=4) fA.nd rfl (Or.inl rfl) xO)
   (zi (yV PassesOwn.never rfl (wl rfl B.enum (za (pv 0) zc)) (vD (n:=2) rfl (zU (zA (i:=5) fA.nd rfl (Or.inl rfl)) (zU (zA (i:=6) fA.nd rfl (Or.inl rfl)) wd)))
    (zM (zx (i:=7) fA.nd rfl (Or.inl rfl) (qF bz di dj JB (pv 1) (za (zp ix_tup (pv 6) zg (fun _ _=>rfl)) (za (pv 2) (za (zI op_add (zI vA (pv 3) zg) (zm yb rfl B.len ay (za (zp ix_tup (pv 6) zg (fun _ _=>rfl)) zc))) zc)))))
    (zh (zZ (zE op_ge' (pv 7) zg (zJ _))
     (zM (zx (i:=4) fA.nd rfl (Or.inl rfl) (yo (za (pv 5) (za (pv 7) zc))))
     (zh (zx (i:=3) fA.nd rfl (Or.inl rfl) (pv 7))))
     zC))))
   (zh (zu (pv 4))))),?_⟩
  have s16:=yf
  obtain⟨xs,hX,hI⟩:=id hA
  have hxl:=hI.len
  rw[ag] at hxl
  have s16:=yf
  refine zj (fun σ H'=>H'=H/\σ=[some (.ref a),some (.str (tx l)),some (.int (st:Nat)),some (.int (en:Nat)),some (.non),none,none,none]) ?_ ?_
  ·rfl'
  rintro σ H1 ⟨rfl,rfl⟩
  refine zj (fun σ H'=>Same H1 H'/\∃(r:Option (Nat × Nat)) (v:V) (v3 v5 v6 v7:Option V),UseAt H' r v/\FirstN l ps st en ps.length r/\σ=[some (.ref a),some (.str (tx l)),some (.int (st:Nat)),v3,some (v),v5,v6,v7]) ?_ ?_
  ·rfl'
   refine⟨⟨_,SqL.of hX⟩,ForEL.by (xs:=xs) (fun i σ H'=>Same H1 H'/\∃(r:Option (Nat × Nat)) (v:V) (v5 v6 v7:Option V),UseAt H' r v/\FirstN l ps st en i r/\σ=[some (.ref a),some (.str (tx l)),some (.int (st:Nat)),some (.int (((r.map Prod.snd).getD en:Nat):Int)),some (v),v5,v6,v7]) ⟨Same.refl _,none,.non,none,none,none,.inl ⟨rfl,rfl⟩,.inl ⟨rfl,fun j q h=>absurd h (cP j)⟩,rfl⟩ (fun i σ H' _ h=>SqL.of (h.1 _ _ hX)) ?_ ?_⟩
   ·rintro i y σ H' p hy ⟨hs,r,v,v5,v6,v7,hu,hF,rfl⟩ hpn
    obtain⟨rl,pr,hri,rfl,hqr⟩:=hI.getR hy
    have hm:=ac hri
    have hne:=List.length_pos_iff.mpr (hN rl hm)
    have hrl:=hP rl hm
    have s2:=hs.trans (zf (o:=.tup [.int (i:Nat),.ref pr]) hpn)
    have hq2:=zk s2 hqr
    have hu2:=hu.same (zf (o:=.tup [.int (i:Nat),.ref pr]) hpn)
    rfl'
    refine⟨_,SqT.of ze,rfl,_,_,rfl,_,_,rfl,rfl,_,rfl,_,hq2,_,rfl,_,rfl,_,hq2,_,rfl,_,⟨by rw[zQ];lia,rfl⟩,W7 (by lia) (by rw[zQ];lia) fun z hz=>⟨z,rfl,?_⟩⟩
    rw[zQ] at hz
    rcases hz with ⟨rfl,hn⟩ | ⟨k,rfl,k1,k2,k3,hn⟩
    ·rw[if_neg (by decide)]
     exact⟨s2,r,v,hu2,hF.keep hri fun q q1 q2=>hn q (by lia) (by lia),rfl,rfl⟩
    ·rw[if_pos (by lia)]
     refine⟨by lia,fun p2 hp2=>⟨s2.trans (zf hp2),some (i,k),.ref p2,.inr ⟨i,k,p2,rfl,rfl,ze⟩,hF.take hri (by lia) (by lia) k3 fun q q1 q2=>hn q (by lia) q2,rfl,rfl⟩⟩
   ·rintro σ H' ⟨hs,r,v,v5,v6,v7,hu,hF,rfl⟩
    rw[hxl] at hF
    exact⟨hs,r,v,hu,hF,_,_,_,_,rfl⟩
  rintro σ H2 ⟨s2,r,v,v3,v5,v6,v7,hu,hF,rfl⟩
  rfl'
  exact q r v H2 s2 hu hF
structure zca(mg:Str->Option Value):Prop where
 g:∃ t,mg "WINDOW" = some (.int 128 t)
noncomputable def uE(K:ot):Sp:=fun vs H Q _=>∃(a:Addr) (l:List Nat) (ps:List zB) (st:Nat),vs=[.ref a,.str (tx l),.int (st:Nat)]/\LsA K H a (ps.map dR)/\NeL ps/\(∀ p ∈ ps,p.1.length<=1000)/\l.length<=100000/\∀(r:Option (Nat × Nat)) (v:V) (H':Hp),Same H H'->UseAt H' r v->FirstN l ps st l.length ps.length r->Q v H'
theorem kZ{a:Addr}{l:List Nat}{ps:List zB}{st:Nat}{s:Int}{H:Hp}{Q:VK}{E:XK}(hs:s=(st:Nat))(hA:LsA K H a (ps.map dR))(hN:NeL ps)(hP:∀ p ∈ ps,p.1.length<=1000)(hl:l.length<=100000)(q:∀(r:Option (Nat × Nat)) (v:V) (H':Hp),Same H H'->UseAt H' r v->FirstN l ps st l.length ps.length r->Q v H'):uE K [.ref a,.str (tx l),.int s] H Q E:=by
 subst hs
 exact⟨a,l,ps,st,rfl,hA,hN,hP,hl,q⟩
theorem gm:zr ["rules","word","start","size","found"] ["rules","word","start"] (zb yN):=⟨rfl,rfl,rfl,by decide +kernel,rfl,by decide +kernel,by decide +kernel⟩
theorem jI{f:Addr}{fd:FuncData}(B:Bt mg)(T:zca mg)(F:Fun K "first_from" "first_from" yN f fd)(mQ:Df P w K mg base CX0 1 "first_within" ["rules","word","start","end"] [] (wS K)):ye P w K mg base CX0 2 f fd ["rules","word","start"] (uE K):=by
 obtain⟨t8,g8⟩:=T.g
 refine F.ok gm (fun vs H Q E h=>?_) (fun cdv A outer s H vs Q E hr h=>?_)
 ·obtain⟨a,l,ps,st,rfl,_⟩:=h
  rfl
 ·obtain⟨a,l,ps,st,rfl,hA,hN,hP,hl,q⟩:=h
  refine⟨_,(zi (zx (i:=3) gm.nd rfl (Or.inl rfl) (yZ (v:=.int 128) rfl g8 ⟨t8,rfl⟩))
   (zi (Y0 PassesOwn.never (zE U1 (pv 2) (zm yb rfl B.len ay (za (pv 1) zc)) (zJ _))
    (zM (zx (i:=4) gm.nd rfl (Or.inl rfl) (cl0 mQ hr .nil rfl (za (pv 0) (za (pv 1) (za (pv 2) (za (zI op_add (pv 2) (pv 3)) zc))))))
    (zM (zZ (zE op_notN' (pv 4) xO (zJ _))
     (zh (zu (pv 4)))
     zC)
    (zM (zx (i:=2) gm.nd rfl (Or.inl rfl) (zI op_add (pv 2) (pv 3)))
    (zh (zx (i:=3) gm.nd rfl (Or.inl rfl) (zI op_mul (pv 3) zg)))))))
   (zh (zu xO)))),?_⟩
  have s16:=yf
  have s16:=yf
  refine zj (fun σ H'=>H'=H/\σ=[some (.ref a),some (.str (tx l)),some (.int (st:Nat)),some (.int 128),none]) ?_ ?_
  ·rfl'
  rintro σ H1 ⟨rfl,rfl⟩
  refine zj (fun σ H'=>Same H1 H'/\FirstN l ps st l.length ps.length none) ?_ ?_
  ·unfold X9
   refine⟨fun m σ H'=>∃(s z:Nat) (v4:Option V),m=l.length - s/\st<=s/\1<=z/\Same H1 H'/\FirstN l ps st s ps.length none/\σ=[some (.ref a),some (.str (tx l)),some (.int (s:Nat)),some (.int (z:Nat)),v4],⟨_,st,128,none,rfl,aq _,by decide,Same.refl _,.inl ⟨rfl,fun j q _ h1 h2=>by lia⟩,rfl⟩,?_⟩
   rintro m σ H' ⟨s,z,v4,rfl,hs,hz,sm,hF,rfl⟩
   rfl'
   refine⟨by lia,xa (fun hlt=>?_) fun hge=>⟨sm,hF.toEnd hN fun _=>by lia⟩⟩
   refine⟨fun σ' H''=>∃ v4:Option V,Same H1 H''/\FirstN l ps st (s+z) ps.length none/\σ'=[some (.ref a),some (.str (tx l)),some (.int ((s+z:Nat):Int)),some (.int ((z * 2:Nat):Int)),v4],fun σ' H'' ⟨v4,a1,a2,a3⟩=>⟨l.length - (s+z),by lia,s+z,rfl,by lia,z * 2,by lia,a1,a2,v4,a3⟩,?_⟩
   refine ZT (en:=s+z) rfl (by lia) (hA.same sm) hN hP fun r v H2 s2 hu hF2=>?_
   rcases hu with ⟨rfl,rfl⟩ | ⟨n,qq,p,rfl,rfl,hp⟩
   ·rw[if_neg (fun h=>h rfl)]
    exact⟨.inr ⟨by decide,by decide⟩,some .non,sm.trans s2,hF.window hs hF2,by push_cast;rfl⟩
   ·rw[if_pos (by intro h;cases h)]
    exact q _ _ H2 (sm.trans s2) (.inr ⟨n,qq,p,rfl,rfl,hp⟩) ((hF.window hs hF2).toEnd hN (fun e=>by cases e))
  rintro σ H2 ⟨s2,hF⟩
  rfl'
  exact q none .non H2 s2 (.inl ⟨rfl,rfl⟩) hF
theorem LsA.pushT{H:Hp}{D p:Addr}{ds es:List L3.D}{xs vs:List V}(h1:H D=some (.lst xs))(h2:Iss K H ds xs)(hp:H p=none)(hv:Iss K H es vs)(f:ya ds)(fe:ya es):LsA K (upd (upd H p (.tup vs)) D (.lst (xs ++ [.ref p]))) D (ds ++ [.tup es]):=by
 have e:(upd H p (.tup vs)) D=some (.lst xs):=zf hp _ _ h1
 exact LsA.snoc e (Iss.same (zf hp) _ _ h2) f (by simp only[xA];exact fe) (Is.tup hp hv)
structure Kd(K:ot)(mg:Str->Option Value)(C:Addr):Prop where
 xi:XI K C
 ini:af K (.ref C) "__init__" = some (some (.builtin "ValueError.__init__"))
 g:mg "TooFar" = some (.ref C)
noncomputable def dG(u:Nat × Nat):L3.D:=.tup [.int (u.1:Nat),.int (u.2:Nat),.bl true]
theorem QZ(u:Nat × Nat):xA (dG u):=by simp only[dG,xA,ya,and_self]
theorem VU(us:List (Nat × Nat)):ya (us.map dG):=wv fun d h=>by obtain⟨r,_,rfl⟩:=List.mem_map.mp h;exact QZ r
theorem zbe{H:Hp}{n q:Nat}:Iss K H [.int (n:Nat),.int (q:Nat),.bl true] [.int (n:Nat),.int (q:Nat),.bl true]:=by
 simp only[Iss,Is]
 exact⟨_,_,rfl,rfl,_,_,rfl,rfl,_,_,rfl,rfl,rfl⟩
structure Rd(ps:List zB)(l:List Nat)(J:Nat):Prop where
 live:Xf ps l J
 len:∀ j,j<=J->(wAt ps l j).length<=10000
 most:J<=10000
noncomputable def wL(K:ot)(CF:Addr):Sp:=fun vs H Q E=>∃(a:Addr) (l:List Nat) (ps:List zB) (m:Int) (J:Nat),vs=[.ref a,.str (tx l),.int m]/\LsA K H a (ps.map dR)/\NeL ps/\ps.length<=100/\(∀ p ∈ ps,p.1.length<=1000/\p.2.length<=1000)/\Rd ps l J /\
 ((zG (wAt ps l J) ps=none/\(J:Int)<=m/\∀(p S:Addr) (H':Hp),Same H H'->H' p=some (.tup [.ref S,.str (tx (wAt ps l J))])->LsA K H' S ((sAt ps l J).map dG)->H S=none->Q (.ref p) H') \/
  (zG (wAt ps l J) ps≠none/\(J:Int)=m/\∀ H',Same H H'->E (.ref CF) none H'))
theorem XR{a:Addr}{ps:List zB}{σ:L2.St}{H:Hp}{Q:VK}{D:Addr}(hA:LsA K H a (ps.map dR))(hP:∀ p ∈ ps,p.1.length<=1000)(hpl:ps.length<=100)(hD:H D=none)(q:∀ H',Same H H'->H' D=some (.lst ((ps.map fun p=>(p.1.length:Int)).map V.int))->Q (.ref D) H') :
  CompL K a (xK 0) wu (tCB (Uw K) (zN (tOp (ub K) (yK 0) (tC (.int 0))) wq)) 1 [] σ H Q D:=by
 have s16:=yf
 obtain⟨xs,hX,hI⟩:=hA
 have hxl:=hI.len
 rw[ag] at hxl
 refine CompL.by (xs:=xs) (fun i acc H'=>Same H H'/\H' D=some (.lst acc)/\acc=((ps.take i).map fun p=>(p.1.length:Int)).map V.int) ⟨zf hD,ze,rfl⟩ (fun i acc H' _ h=>SqL.of (h.1 _ _ hX)) ?_ ?_
 ·rintro i x acc H' hx ⟨hs,hH,rfl⟩
  have hil:=(List.getElem?_eq_some_iff.mp hx).1
  obtain⟨r,pr,hri,rfl,hqr⟩:=hI.getR hx
  have hm:=hP r (ac hri)
  simp only[wu]
  rfl'
  refine⟨xj,_,zk hs hqr,_,rfl,_,⟨by rw[zQ];lia,rfl⟩,hH,by rw[ag,ag,aJ];lia,CNx.mk hil ⟨zK hs hD,ze,?_⟩⟩
  rw[zV hri,aD,aD,zQ]
  rfl
 ·rintro acc H' ⟨hs,hH,rfl⟩
  rw[hxl,aM] at hH
  exact q H' hs hH
theorem zaY{H:Hp}{rs:List zB}{xs:List V}{i:Nat}{r:zB}(hI:Iss K H (rs.map dR) xs)(hi:rs[i]? = some r):∃ p,atI xs (i:Int)=some (.ref p)/\SqT K H p [.str (tx r.1),.str (tx r.2)]:=by
 have hl:=hI.len
 rw[ag] at hl
 have hil:=(List.getElem?_eq_some_iff.mp hi).1
 obtain⟨v,a1,b1⟩:=jp (xs:=xs) (i:=(i:Int)) (by lia) (by lia)
 obtain⟨r',p,h1,rfl,h3⟩:=hI.getR (j:=i) b1
 rw[hi] at h1
 cases h1
 exact⟨p,a1,h3⟩
theorem gT:zr ["rules","word","most","longest","steps","use","number","place"] ["rules","word","most"] (zb w6):=⟨rfl,rfl,rfl,by decide +kernel,rfl,by decide +kernel,by decide +kernel⟩
theorem JD{f CU CF:Addr}{fd:FuncData}{dV:Value}(B:Bt mg)(T:Kd K mg CF)(TU:DNU P w K mg base CU)(F:FunD K "gone" "gone" w6 dV f fd)(lM:Df P w K mg base CX0 2 "first_from" ["rules","word","start"] [] (uE K))(ni:Df P w K mg base (CXx P w) 3 "put" ["word","place","old","new"] [] (Zf CU)):ye P w K mg base (CXx P w) 4 f fd ["rules","word","most"] (wL K CF):=by
 refine FunD.okX F gT (fun vs H Q E h=>?_) (fun cdv A outer s H vs Q E hr hx h=>?_)
 ·obtain⟨a,l,ps,m,J,rfl,_⟩:=h
  rfl
 ·obtain⟨a,l,ps,m,J,rfl,hA,hN,hpl,hP,hR,hq⟩:=h
  refine⟨_,(zi (zx (i:=3) gT.nd rfl (Or.inl rfl) (X8 (zak rfl) rfl B.max uQ (za (yD (own:=["rule"]) (caps:=[]) (ix:=[]) (tt:=wu) (te:=(tCB (Uw K) (zN (tOp (ub K) (yK 0) (tC (.int 0))) wq))) rfl (zO (sc:=zb w6) rfl (by decide +kernel) (by decide +kernel) (by decide +kernel) rfl (by decide +kernel) (by decide +kernel) rfl) (yI (pv 0)) (fun _ _ _ _ _ _=>zA (i:=0) (show List.Nodup [_] by decide) rfl (Or.inl rfl)) (fun _ _ _ _ _ _=>yE) (fun _ _ _ _ _ _=>(zm yb rfl B.len ay (za (zp ix_tup (pv 0) zg (fun _ _=>rfl)) zc)))) zc) (XV zg Qx)))
   (zi (zx (i:=4) gT.nd rfl (Or.inl rfl) (ue zc))
   (zi (zx (i:=5) gT.nd rfl (Or.inl rfl) (cl0 lM hr .nil rfl (za (pv 0) (za (pv 1) (za zg zc)))))
   (zi (Y0 PassesOwn.leaving (zE op_notN' (pv 5) xO (zJ _))
    (zi (zZ (zE op_ge' (zm yb rfl B.len ay (za (pv 4) zc)) (pv 2) (zJ _))
     (zh (yS hx rfl T.xi.toXC T.ini rfl T.g (za xy zc)))
     zC)
    (zi (zx (i:=6) gT.nd rfl (Or.inl rfl) (zp ix_tup (pv 5) zg (fun _ _=>rfl)))
    (zi (zx (i:=7) gT.nd rfl (Or.inl rfl) (zp ix_tup (pv 5) zg (fun _ _=>rfl)))
    (zi (zx (i:=1) gT.nd rfl (Or.inl rfl) (clP hx ni hr .nil rfl (za (pv 1) (za (pv 7) (za (zp ix_tup (zp ix_list (pv 0) (pv 6) (fun _ _=>rfl)) zg (fun _ _=>rfl)) (za (zp ix_tup (zp ix_list (pv 0) (pv 6) (fun _ _=>rfl)) zg (fun _ _=>rfl)) zc))))))
    (zi (vJ (qF cq cY cZ wx (pv 4) (za (yo (za (pv 6) (za (pv 7) (za y0 zc)))) zc)))
    (zh (zx (i:=5) gT.nd rfl (Or.inl rfl) (cl0 lM hr .nil rfl (za (pv 0) (za (pv 1) (za (zm (WW rfl) rfl B.max uQ (za zg (za (zI op_add (zI vA (pv 7) (pv 3)) zg) zc))) zc))))))))))))
   (zh (zu (yo (za (pv 4) (za (pv 1) zc))))))))),?_⟩
  have s16:=yf
  have s16:=yf
  refine zj (fun σ H'=>Same H H'/\∃ M:Int,(∀ p ∈ ps,(p.1.length:Int)<=M)/\σ=[some (.ref a),some (.str (tx l)),some (.int m),some (.int M),none,none,none,none]) ?_ ?_
  ·rfl'
   simp only[zb4]
   rfl'
   obtain⟨xs,hX,hI⟩:=id hA
   exact⟨⟨_,SqL.of hX⟩,fun D hD=>XR hA (fun p hp=>(hP p hp).1) hpl hD fun H' s' hH=>⟨D,_,0,rfl,rfl,SqL.of hH,fun z _ hz=>⟨s',z,fun p hp=>hz _ (List.mem_map.mpr ⟨p,hp,rfl⟩),rfl⟩⟩⟩
  rintro σ H1 ⟨s1,M,hM,rfl⟩
  refine zj (fun σ H'=>Same H H'/\∃ S:Addr,H S=none/\H' S=some (.lst [])/\σ=[some (.ref a),some (.str (tx l)),some (.int m),some (.int M),some (.ref S),none,none,none]) ?_ ?_
  ·rfl'
   exact⟨by lia,fun p hp=>⟨s1.trans (zf hp),p,s1.free hp,ze,rfl⟩⟩
  rintro σ H2 ⟨s2,S,hSn,hS,rfl⟩
  refine zj (fun σ H'=>Same H H'/\H' S=some (.lst [])/\∃ uv:V,UseAt H' (zG l ps) uv/\σ=[some (.ref a),some (.str (tx l)),some (.int m),some (.int M),some (.ref S),some (uv),none,none]) ?_ ?_
  ·rfl'
   exact kZ (st:=0) rfl (hA.same s2) hN (fun p hp=>(hP p hp).1) (by have:=hR.len 0 (aG _);exact aQ this (by decide)) fun r v H' s' hu hF=>⟨s2.trans s',s' _ _ hS,(by rw[YK hF] at hu;exact hu)⟩
  rintro σ H3 ⟨s3,hS3,uv,hu,rfl⟩
  refine zj (fun σ H'=>Same H H'/\zG (wAt ps l J) ps=none/\LsA K H' S ((sAt ps l J).map dG)/\∃ v5 v6 v7,σ=[some (.ref a),some (.str (tx (wAt ps l J))),some (.int m),some (.int M),some (.ref S),v5,v6,v7]) ?_ ?_
  ·unfold X9
   refine⟨fun k σ H'=>∃(j:Nat) (uv:V) (v6 v7:Option V),k=J - j/\j<=J/\Same H H'/\LsA K H' S ((sAt ps l j).map dG)/\UseAt H' (zG (wAt ps l j) ps) uv/\σ=[some (.ref a),some (.str (tx (wAt ps l j))),some (.int m),some (.int M),some (.ref S),some (uv),v6,v7],⟨_,0,uv,none,none,rfl,aG _,s3,⟨[],hS3,by simp only[sAt,List.range_zero,aN,Iss]⟩,hu,rfl⟩,?_⟩
   rintro k σ H' ⟨j,uv,v6,v7,rfl,hj,hs,hL,hu,rfl⟩
   have hlj:=hR.len j hj
   have hRm:=hR.most
   obtain⟨xs,hX,hI⟩:=id hA
   rfl'
   refine xa (fun hne=>?_) fun hne=>?_
   ·rcases hu with ⟨_,h⟩ | ⟨n,q0,p,hf,rfl,hp⟩
    ·exact absurd h hne
    have hF:=YC (wAt ps l j) ps hN
    rw[hf] at hF
    have hjJ:j<J\/(j=J/\(J:Int)=m/\∀ H',Same H H'->E (.ref CF) none H'):=by
     by_cases e:j=J
     ·subst e
      rcases hq with ⟨h,_⟩ | ⟨_,h1,h2⟩
      ·rw[hf] at h
       cases h
      ·exact .inr ⟨rfl,h1,h2⟩
     ·exact .inl (by lia)
    have hJm:(J:Int)<=m:=by
     rcases hq with ⟨_,h,_⟩ | ⟨_,h,_⟩ <;> lia
    obtain⟨rl,hrl,hst⟩:∃ rl,ps[n]? = some rl/\zy (wAt ps l j) (q0:Int) rl.1=true:=by
     rcases hF with ⟨h,_⟩ | ⟨n0,q1,e,_,_,_,a4,_⟩
     ·cases h
     ·cases e
      exact (wY a4).2
    have hlp:=hP rl (ac hrl)
    have hw:=wT hf
    obtain⟨pr,hai,hqr⟩:=zaY hI hrl
    refine⟨fun σ' H''=>∃(uv:V) (v6 v7:Option V),j<J/\Same H H''/\LsA K H'' S ((sAt ps l (j+1)).map dG)/\UseAt H'' (zG (wAt ps l (j+1)) ps) uv/\σ'=[some (.ref a),some (.str (tx (wAt ps l (j+1)))),some (.int m),some (.int M),some (.ref S),some (uv),v6,v7],fun σ' H'' ⟨uv,v6,v7,a0,a1,a2,a3,a4⟩=>⟨J - (j+1),by lia,j+1,rfl,by lia,a1,a2,uv,a3,v6,v7,a4⟩,?_⟩
    obtain⟨ys,hY,hJ2⟩:=id hL
    have hyl:=hJ2.len
    rw[ag,Z4] at hyl
    refine zj (fun σ' H''=>H''=H'/\j<J/\σ'=[some (.ref a),some (.str (tx (wAt ps l j))),some (.int m),some (.int M),some (.ref S),some (.ref p),v6,v7]) ?_ ?_
    ·rfl'
     refine⟨_,.inl ⟨_,SqL.of hY,rfl⟩,xa (fun hge=>?_) fun hge=>?_⟩
     ·rcases hjJ with h | ⟨_,_,h⟩
      ·lia
      ·exact⟨by lia,h _ hs⟩
     ·rcases hjJ with h | ⟨e,h,_⟩
      ·exact h
      ·lia
    rintro σ' G1 ⟨rfl,hlt,rfl⟩
    refine zj (fun σ' H''=>H''=G1/\σ'=[some (.ref a),some (.str (tx (wAt ps l j))),some (.int m),some (.int M),some (.ref S),some (.ref p),some (.int (n:Nat)),v7]) ?_ ?_
    ·rfl'
     exact⟨_,SqT.of hp,rfl⟩
    rintro σ' G2 ⟨rfl,rfl⟩
    refine zj (fun σ' H''=>H''=G2/\σ'=[some (.ref a),some (.str (tx (wAt ps l j))),some (.int m),some (.int M),some (.ref S),some (.ref p),some (.int (n:Nat)),some (.int (q0:Nat))]) ?_ ?_
    ·rfl'
     exact⟨_,SqT.of hp,rfl⟩
    rintro σ' G3 ⟨rfl,rfl⟩
    refine zj (fun σ' H''=>H''=G3/\σ'=[some (.ref a),some (.str (tx (wAt ps l (j+1)))),some (.int m),some (.int M),some (.ref S),some (.ref p),some (.int (n:Nat)),some (.int (q0:Nat))]) ?_ ?_
    ·rfl'
     have hq2:=zk hs hqr
     exact⟨_,SqL.of (hs _ _ hX),_,hai,_,rfl,_,hq2,_,rfl,_,SqL.of (hs _ _ hX),_,hai,_,rfl,_,hq2,_,rfl,wAt ps l j,rl.1,rl.2,(q0:Nat),rfl,hlj,by have:=hlp.1;lia,by have:=hlp.2;lia,fun _=>⟨rfl,by rw[hw];unfold Yz;rw[xR hrl]⟩,fun h=>by rw[hst] at h;cases h⟩
    rintro σ' G4 ⟨rfl,rfl⟩
    refine zj (fun σ' H''=>Same H H''/\LsA K H'' S ((sAt ps l (j+1)).map dG)/\σ'=[some (.ref a),some (.str (tx (wAt ps l (j+1)))),some (.int m),some (.int M),some (.ref S),some (.ref p),some (.int (n:Nat)),some (.int (q0:Nat))]) ?_ ?_
    ·rfl'
     refine⟨.inl ⟨_,SqL.of hY⟩,by lia,fun t ht=>⟨_,zf ht _ _ hY,by lia,zK (hs.trans (zf ht)) hSn,?_⟩⟩
     rw[YN,hf,aD]
     exact LsA.pushT hY hJ2 ht zbe (VU _) (by simp only[ya,xA,and_self])
    rintro σ' G5 ⟨s5,hL5,rfl⟩
    have hl1:=hR.len (j+1) hlt
    have hM0:=hM rl (ac hrl)
    rfl'
    refine kZ (st:=(if (q0:Int) - M+1 > 0 then (q0:Int) - M+1 else 0).toNat) (by split <;> lia) (hA.same s5) hN (fun p hp=>(hP p hp).1) (aQ hl1 (by decide)) fun r v H' s' hu hF2=>⟨hlt,s5.trans s',hL5.same s',?_⟩
    have hb:=Xu (M:=M.toNat) (lo:=(if (q0:Int) - M+1 > 0 then (q0:Int) - M+1 else 0).toNat) hF hN (fun p hp=>by have:=hM p hp;lia) (by split <;> lia)
    rw[<- hw] at hb
    rw[YK (hb.window (aG _) hF2)] at hu
    exact hu
   ·have hv:uv=.non:=Decidable.not_not.mp hne
    have hf:zG (wAt ps l j) ps=none:=by
     rcases hu with ⟨h,_⟩ | ⟨_,_,_,_,h,_⟩
     ·exact h
     ·rw[hv] at h
      cases h
    have e:j=J:=by
     rcases dZ j J with h | h
     ·exact absurd hf (hR.live j h)
     ·lia
    subst e
    exact⟨hs,hf,hL,rfl⟩
  rintro σ H4 ⟨s4,hF,hL,v5,v6,v7,rfl⟩
  rfl'
  rcases hq with ⟨_,_,hq⟩ | ⟨h,_⟩
  ·exact⟨by lia,fun p hp=>hq p S _ (s4.trans (zf hp)) ze (hL.same (zf hp)) hSn⟩
  ·exact absurd hF h
noncomputable abbrev Stp:=Int × Int × Bool
noncomputable def dSt(t:Stp):D:=.tup [.int t.1,.int t.2.1,.bl t.2.2]
noncomputable def sdl(r:zB)(f:Bool):zB:=if f=true then r else (r.2,r.1)
noncomputable def yF(ps:List zB)(w:List Nat)(t:Stp):Option (List Nat) :=
 if 0<=t.1/\t.1<ps.length then (if zy w t.2.1 (sdl (ps.getD t.1.toNat ([],[])) t.2.2).1=true then some (xh w t.2.1 (sdl (ps.getD t.1.toNat ([],[])) t.2.2).1 (sdl (ps.getD t.1.toNat ([],[])) t.2.2).2) else none) else none
theorem UC{H:Hp}{D p:Addr}{ds es:List L3.D}{xs vs:List V}(h1:H D=some (.lst xs))(h2:Iss K H ds xs)(hp:H p=none)(hv:Iss K H es vs)(f:ya ds)(fe:ya es):LsA K (upd (upd H p (.tup vs)) D (.lst (xs ++ [.ref p]))) D (ds ++ [.tup es]):=by
 have e:(upd H p (.tup vs)) D=some (.lst xs):=zf hp _ _ h1
 exact LsA.snoc e (Iss.same (zf hp) _ _ h2) f (by simp only[xA];exact fe) (Is.tup hp hv)
theorem Ki{H:Hp}{l m:List Nat}:Iss K H [dS l,dS m] [.str (tx l),.str (tx m)]:=by
 simp only[Iss,Is]
 exact⟨_,_,rfl,rfl,_,_,rfl,rfl,rfl⟩
noncomputable def j9(rs:List zB):Prop:=rs.length<=30/\∀ r ∈ rs,r.1.length<=100/\r.2.length<=100
theorem Qk{H:Hp}{t:Stp}{v:V}(h:Is K H (dSt t) v):∃ p,v=.ref p/\SqT K H p [.int t.1,.int t.2.1,.bl t.2.2]:=by
 simp only[dSt,Is,Iss] at h
 obtain⟨a,xs,e,hs,v1,r1,rfl,rfl,v2,r2,rfl,rfl,v3,r3,rfl,rfl,rfl⟩:=h
 exact⟨a,e,hs⟩
theorem YU{H:Hp}{p:Addr}{t:Stp}(h:SqT K H p [.int t.1,.int t.2.1,.bl t.2.2]):Is K H (dSt t) (.ref p):=by
 simp only[dSt,Is,Iss]
 exact⟨p,_,rfl,h,_,_,rfl,rfl,_,_,rfl,rfl,_,_,rfl,rfl,rfl⟩
theorem QE{H:Hp}{i j:Int}{b:Bool}:Iss K H [.int i,.int j,.bl b] [.int i,.int j,.bl b]:=by
 simp only[Iss,Is]
 exact⟨_,_,rfl,rfl,_,_,rfl,rfl,_,_,rfl,rfl,rfl⟩
theorem vq(rs:List Stp):ya (rs.map dSt):=wv fun d h=>by obtain⟨r,_,rfl⟩:=List.mem_map.mp h;simp only[dSt,xA,ya,and_self]
theorem vB{H:Hp}{rs:List Stp}{vs:List V}{j:Nat}{v:V}(h:Iss K H (rs.map dSt) vs)(q:vs[j]? = some v):∃ r p,rs[j]? = some r/\v=.ref p/\SqT K H p [.int r.1,.int r.2.1,.bl r.2.2]:=by
 obtain⟨d,e,i⟩:=h.get q
 rw[aE] at e
 obtain⟨r,hr,rfl⟩:=Option.map_eq_some_iff.mp e
 obtain⟨p,e1,e2⟩:=Qk i
 exact⟨r,p,hr,e1,e2⟩
theorem zaa{H:Hp}{rs:List zB}{xs:List V}{i:Int}(hI:Iss K H (rs.map dR) xs)(h0:0<=i)(hi:i<rs.length):∃ p,atI xs i=some (.ref p)/\rs[i.toNat]? = some (rs.getD i.toNat ([],[]))/\SqT K H p [.str (tx (rs.getD i.toNat ([],[])).1),.str (tx (rs.getD i.toNat ([],[])).2)]:=by
 have hl:=hI.len
 rw[ag] at hl
 obtain⟨v,a1,b1⟩:=jp (xs:=xs) (i:=i) h0 (by lia)
 obtain⟨r,p,h1,rfl,h3⟩:=hI.getR b1
 have e:rs.getD i.toNat ([],[])=r:=by rw[ae,h1];rfl
 rw[e]
 exact⟨p,a1,h1,h3⟩
theorem Yf{rs:List zB}(h:j9 rs)(i:Nat):(rs.getD i ([],[])).1.length<=100/\(rs.getD i ([],[])).2.length<=100:=by
 rw[ae]
 cases e:rs[i]? with
 | none=>exact⟨aG _,aG _⟩
 | some r=>exact h.2 r (ac e)
theorem xl{ps:List zB}{w:List Nat}{t:Stp}(h:¬ (0<=t.1/\t.1<ps.length)):yF ps w t=none:=if_neg h
theorem y8{ps:List zB}{w:List Nat}{t:Stp}(h:0<=t.1/\t.1<ps.length):yF ps w t=if zy w t.2.1 (sdl (ps.getD t.1.toNat ([],[])) t.2.2).1=true then some (xh w t.2.1 (sdl (ps.getD t.1.toNat ([],[])) t.2.2).1 (sdl (ps.getD t.1.toNat ([],[])) t.2.2).2) else none:=if_pos h
noncomputable def Ch(rs:List zB)(ws:List (List Nat))(ss:List Stp):Prop:=ws.length=ss.length+1/\∀ i s,ss[i]? = some s->∃ w w',ws[i]? = some w/\ws[i+1]? = some w'/\yF rs w s=some w'
noncomputable def bk(s:Stp):Stp:=(s.1,s.2.1,!s.2.2)
noncomputable def yT(ss:List Stp):List Stp:=ss.reverse.map bk
noncomputable def mvL(ss:List Stp)(z:Int):List Stp:=ss.map fun s=>(s.1,s.2.1+z,s.2.2)
theorem Jh(r:zB)(f:Bool):sdl r (!f)=((sdl r f).2,(sdl r f).1):=by cases f <;> rfl
theorem jh{rs:List zB}{w w':List Nat}{s:Stp}(h:yF rs w s=some w'):yF rs w' (bk s)=some w:=by
 by_cases hb:0<=s.1/\s.1<rs.length
 ·rw[y8 hb] at h
  have hb':0<=(bk s).1/\(bk s).1<rs.length:=hb
  rw[y8 hb']
  simp only[bk,Jh]
  generalize sdl (rs.getD s.1.toNat ([],[])) s.2.2=r at *
  by_cases hs:zy w s.2.1 r.1=true
  ·rw[if_pos hs] at h
   cases h
   obtain⟨e1,e2⟩:=Yp r.2 hs
   rw[if_pos e1,e2]
  ·rw[if_neg hs] at h
   cases h
 ·rw[xl hb] at h
  cases h
theorem Ch.back{rs:List zB}{ws:List (List Nat)}{ss:List Stp}(h:Ch rs ws ss):Ch rs ws.reverse (yT ss):=by
 obtain⟨hl,hs⟩:=h
 refine⟨by simp [yT,hl],fun i s hi=>?_⟩
 have hil:i<ss.length:=by have:=(List.getElem?_eq_some_iff.mp hi).1;simpa [yT] using this
 unfold yT at hi
 rw[aE,bj hil] at hi
 obtain⟨s0,h0,rfl⟩:=Option.map_eq_some_iff.mp hi
 obtain⟨w,w',e1,e2,e3⟩:=hs _ _ h0
 refine⟨w',w,?_,?_,jh e3⟩
 ·rw[bj (by lia),<- e2]
  congr 1
  lia
 ·rw[bj (by lia),<- e1]
  congr 1
  lia
theorem YR{a w b:List Nat}{k:Nat}(h:k<=w.length):(a ++ w ++ b).drop (a.length+k)=w.drop k ++ b:=by
 rw[aV,<- eG,List.drop_left,bV h]
theorem kr{a w b o:List Nat}{k:Int}(h:zy w k o=true):zy (a ++ w ++ b) (k+(a.length:Int)) o=true:=by
 obtain⟨_,_,h0,h1⟩:=yR h
 unfold zy at h ⊢
 rw[decide_eq_true_eq] at h ⊢
 obtain⟨_,_,h2⟩:=h
 refine⟨by lia,by simp only[au];lia,?_⟩
 rw[show (k+(a.length:Int)).toNat=a.length+k.toNat by lia,YR (by lia),bg (by rw[be];lia),h2]
theorem Xr{a w b o n:List Nat}{k:Int}(h:zy w k o=true):xh (a ++ w ++ b) (k+(a.length:Int)) o n=a ++ xh w k o n ++ b:=by
 obtain⟨_,_,h0,h1⟩:=yR h
 unfold xh
 rw[show (k+(a.length:Int)).toNat=a.length+k.toNat by lia]
 have e1:(a ++ w ++ b).take (a.length+k.toNat)=a ++ w.take k.toNat:=by
  rw[aV,List.take_length_add_append,bg (by lia)]
 have e2:(a ++ w ++ b).drop (a.length+k.toNat+o.length)=w.drop (k.toNat+o.length) ++ b:=by
  rw[Nat.add_assoc]
  exact YR (by lia)
 rw[e1,e2]
 simp [aV]
theorem uf{rs:List zB}{w w':List Nat}{s:Stp}(a b:List Nat)(h:yF rs w s=some w'):yF rs (a ++ w ++ b) (s.1,s.2.1+(a.length:Int),s.2.2)=some (a ++ w' ++ b):=by
 by_cases hb:0<=s.1/\s.1<rs.length
 ·rw[y8 hb] at h
  rw[y8 (by exact hb)]
  simp only
  generalize sdl (rs.getD s.1.toNat ([],[])) s.2.2=r at *
  by_cases hs:zy w s.2.1 r.1=true
  ·rw[if_pos hs] at h
   cases h
   rw[if_pos (kr hs),Xr hs]
  ·rw[if_neg hs] at h
   cases h
 ·rw[xl hb] at h
  cases h
theorem Ch.within{rs:List zB}{ws:List (List Nat)}{ss:List Stp}(a b:List Nat)(h:Ch rs ws ss):Ch rs (ws.map fun w=>a ++ w ++ b) (mvL ss (a.length:Int)):=by
 obtain⟨hl,hs⟩:=h
 refine⟨by simp [mvL,hl],fun i s hi=>?_⟩
 unfold mvL at hi
 rw[aE] at hi
 obtain⟨s0,h0,rfl⟩:=Option.map_eq_some_iff.mp hi
 obtain⟨w,w',e1,e2,e3⟩:=hs _ _ h0
 exact⟨a ++ w ++ b,a ++ w' ++ b,by rw[aE,e1];rfl,by rw[aE,e2];rfl,uf a b e3⟩
theorem UX{w o n:List Nat}{k:Int}(h:zy w k o=true):(xh w k o n).length+o.length=w.length+n.length:=by
 obtain⟨e,hl,h0,h1⟩:=yR h
 unfold xh
 simp only[au,be,hl]
 lia
theorem uC{H:Hp}{D p:Addr}{ds es:List L3.D}{xs vs:List V}(h1:H D=some (.lst xs))(h2:Iss K H ds xs)(hp:H p=none)(hv:Iss K H es vs)(f:ya ds)(fe:ya es):Iss K (upd (upd H p (.tup vs)) D (.lst (xs ++ [.ref p]))) (ds ++ [.tup es]) (xs ++ [.ref p]):=by
 obtain⟨ys,hy1,hy2⟩:=UC h1 h2 hp hv f fe
 rw[ze] at hy1
 cases hy1
 exact hy2
noncomputable def vZ(K:ot):Sp:=fun vs H Q _=>∃(t:Addr) (ss:List Stp),vs=[.ref t]/\Is K H (.lst (ss.map dSt)) (.ref t)/\ss.length<=1000/\∀(D:Addr) (H':Hp),H D=none->Same H H'->LsA K H' D ((yT ss).map dSt)->Q (.ref D) H'
theorem jW{t:Addr}{ss:List Stp}{H:Hp}{Q:VK}{E:XK}(h1:Is K H (.lst (ss.map dSt)) (.ref t))(h2:ss.length<=1000)(h:∀(D:Addr) (H':Hp),H D=none->Same H H'->LsA K H' D ((yT ss).map dSt)->Q (.ref D) H'):vZ K [.ref t] H Q E:=⟨t,ss,rfl,h1,h2,h⟩
theorem Jz{ss:List Stp}{i:Nat}{s:Stp}(h:ss.reverse[i]? = some s):(yT ss).take (i+1)=(yT ss).take i ++ [bk s]:=zV (by unfold yT;rw[aE,h];rfl)
theorem J0:zr ["steps"] ["steps"] (zb qg):=⟨rfl,rfl,rfl,by decide +kernel,rfl,by decide +kernel,by decide +kernel⟩
theorem Jn{f:Addr}{fd:FuncData}(B:Bt mg)(F:Fun K "back" "back" qg f fd) : ye P w K mg base CX0 1 f fd ["steps"] (vZ K):=by
 refine F.ok J0 (fun vs H Q E h=>?_) (fun cdv A outer s H vs Q E hr h=>?_)
 ·obtain⟨t,ss,rfl,_⟩:=h
  rfl
 ·obtain⟨t,ss,rfl,hT,hsl,q⟩:=h
  refine⟨_,(zh (zu (yD (own:=["step"]) (caps:=[]) (ix:=[]) (tt:=wu) (te:=(QD (zN (tOp (ub K) (yK 0) (tC (.int 0))) (zN (tOp (ub K) (yK 0) (tC (.int 1))) (zN (Ji (tOp (ub K) (yK 0) (tC (.int 2)))) wq))))) rfl (zO (sc:=zb qg) rfl (by decide +kernel) (by decide +kernel) (by decide +kernel) rfl (by decide +kernel) (by decide +kernel) rfl) (zaj rfl B.rev (za (pv 0) zc)) (fun _ _ _ _ _ _=>zA (i:=0) (show List.Nodup [_] by decide) rfl (Or.inl rfl)) (fun _ _ _ _ _ _=>yE) (fun _ _ _ _ _ _=>(yo (za (zp ix_tup (pv 0) zg (fun _ _=>rfl)) (za (zp ix_tup (pv 0) zg (fun _ _=>rfl)) (za (QG (zp ix_tup (pv 0) zg (fun _ _=>rfl))) zc)))))))),?_⟩
  have s16:=yf
  rfl'
  simp only[Is] at hT
  obtain⟨_,ts,e,hTs,hJ⟩:=hT
  cases e
  have htl:=hJ.len
  rw[ag] at htl
  have hbl:(yT ss).length=ss.length:=by simp [yT]
  refine⟨ts,hTs,fun D hD=>CompV.by (xs:=ts) (fun i acc H'=>Same H H'/\H' D=some (.lst acc)/\Iss K H' (((yT ss).take i).map dSt) acc) ⟨zf hD,ze,by simp only[bG,aN,Iss]⟩ (fun i acc H' _ h=>h.1.seq hTs) ?_ ?_⟩
  ·rintro i x acc H' hx ⟨hs,hH,hA⟩
   have hi:i<ts.length:=by have:=(List.getElem?_eq_some_iff.mp hx).1;simpa using this
   rw[bj hi] at hx
   obtain⟨s,ps,hsi,rfl,hqs⟩:=vB hJ hx
   have hsr:ss.reverse[i]? = some s:=by rw[bj (by lia),<- hsi,htl]
   have hal:=hA.len
   rw[ag,aJ] at hal
   simp only[wu]
   rfl'
   refine⟨xj,_,zk hs hqs,_,rfl,_,zk hs hqs,_,rfl,_,zk hs hqs,_,rfl,_,rfl,by lia,fun p hp=>⟨zf hp _ _ hH,by lia,CNx.mk hi ⟨zK (hs.trans (zf hp)) hD,ze,?_⟩⟩⟩
   rw[Jz hsr,aD]
   exact uC hH hA hp QE (vq _) (by simp only[ya,xA,and_self])
  ·rintro acc H' ⟨hs,hH,hA⟩
   rw[htl,<- hbl,aM] at hA
   exact q D H' hD hs ⟨acc,hH,hA⟩
noncomputable def uG(K:ot):Sp:=fun vs H Q _=>∃(t:Addr) (ss:List Stp) (z:Int),vs=[.ref t,.int z]/\Is K H (.lst (ss.map dSt)) (.ref t)/\ss.length<=1000/\∀(D:Addr) (H':Hp),H D=none->Same H H'->LsA K H' D ((mvL ss z).map dSt)->Q (.ref D) H'
theorem kW{t:Addr}{ss:List Stp}{z:Int}{H:Hp}{Q:VK}{E:XK}(h1:Is K H (.lst (ss.map dSt)) (.ref t))(h2:ss.length<=1000)(h:∀(D:Addr) (H':Hp),H D=none->Same H H'->LsA K H' D ((mvL ss z).map dSt)->Q (.ref D) H'):uG K [.ref t,.int z] H Q E:=⟨t,ss,z,rfl,h1,h2,h⟩
theorem V4:zr ["steps","size"] ["steps","size"] (zb vg):=⟨rfl,rfl,rfl,by decide +kernel,rfl,by decide +kernel,by decide +kernel⟩
theorem UG{f:Addr}{fd:FuncData}(B:Bt mg)(F:Fun K "moved" "moved" vg f fd) : ye P w K mg base CX0 1 f fd ["steps","size"] (uG K):=by
 refine F.ok V4 (fun vs H Q E h=>?_) (fun cdv A outer s H vs Q E hr h=>?_)
 ·obtain⟨t,ss,z,rfl,_⟩:=h
  rfl
 ·obtain⟨t,ss,z,rfl,hT,hsl,q⟩:=h
  refine⟨_,(zh (zu (yD (own:=["step"]) (caps:=["size"]) (ix:=[1]) (tt:=wu) (te:=(QD (zN (tOp (ub K) (yK 0) (tC (.int 0))) (zN (tOp Uv (tOp (ub K) (yK 0) (tC (.int 1))) (yK 1)) (zN (tOp (ub K) (yK 0) (tC (.int 2))) wq))))) rfl (zO (sc:=zb vg) rfl (by decide +kernel) (by decide +kernel) (by decide +kernel) rfl (by decide +kernel) (by decide +kernel) rfl) (yI (pv 0)) (fun _ _ _ _ _ _=>zA (i:=0) (show List.Nodup [_,_] by decide) rfl (Or.inl rfl)) (fun _ _ _ _ _ _=>yE) (fun _ _ _ _ _ _=>(yo (za (zp ix_tup (pv 0) zg (fun _ _=>rfl)) (za (zI ZZ (zp ix_tup (pv 0) zg (fun _ _=>rfl)) (pv 1)) (za (zp ix_tup (pv 0) zg (fun _ _=>rfl)) zc)))))))),?_⟩
  have s16:=yf
  rfl'
  simp only[Is] at hT
  obtain⟨_,ts,e,hTs,hJ⟩:=hT
  cases e
  have htl:=hJ.len
  rw[ag] at htl
  have hbl:(mvL ss z).length=ss.length:=by simp [mvL]
  refine⟨⟨ts,hTs⟩,fun D hD=>CompL.by (xs:=ts) (fun i acc H'=>Same H H'/\H' D=some (.lst acc)/\Iss K H' (((mvL ss z).take i).map dSt) acc) ⟨zf hD,ze,by simp only[bG,aN,Iss]⟩ (fun i acc H' _ h=>h.1.seq hTs) ?_ ?_⟩
  ·rintro i x acc H' hx ⟨hs,hH,hA⟩
   have hi:=(List.getElem?_eq_some_iff.mp hx).1
   obtain⟨s,ps,hsi,rfl,hqs⟩:=vB hJ hx
   have hm:(mvL ss z)[i]? = some (s.1,s.2.1+z,s.2.2):=by unfold mvL;rw[aE,hsi];rfl
   have hal:=hA.len
   rw[ag,aJ] at hal
   simp only[wu]
   rfl'
   refine⟨xj,_,zk hs hqs,_,rfl,_,zk hs hqs,_,rfl,_,rfl,_,zk hs hqs,_,rfl,by lia,fun p hp=>⟨zf hp _ _ hH,by lia,CNx.mk hi ⟨zK (hs.trans (zf hp)) hD,ze,?_⟩⟩⟩
   rw[zV hm,aD]
   exact uC hH hA hp QE (vq _) (by simp only[ya,xA,and_self])
  ·rintro acc H' ⟨hs,hH,hA⟩
   rw[htl,<- hbl,aM] at hA
   exact q D H' hD hs ⟨acc,hH,hA⟩
noncomputable abbrev Ent:=List Nat × List Nat × List Stp
noncomputable def dE(e:Ent):L3.D:=.tup [dS e.1,dS e.2.1,.lst (e.2.2.map dSt)]
noncomputable def Xb(es:List Ent)(u:Stp):List Stp:=mvL (if u.2.2=true then (es.getD u.1.toNat ([],[],[])).2.2 else yT (es.getD u.1.toNat ([],[],[])).2.2) u.2.1
noncomputable def byL(es:List Ent)(us:List Stp):List Stp:=us.flatMap (Xb es)
theorem KF{H:Hp}{e:Ent}{v:V}(h:Is K H (dE e) v):∃ p s,v=.ref p/\SqT K H p [.str (tx e.1),.str (tx e.2.1),.ref s]/\Is K H (.lst (e.2.2.map dSt)) (.ref s):=by
 simp only[dE,Is,Iss] at h
 obtain⟨a,xs,e0,hs,v1,r1,rfl,rfl,v2,r2,rfl,rfl,v3,r3,rfl,⟨s,zs,rfl,h1,h2⟩,rfl⟩:=h
 refine⟨a,s,e0,hs,?_⟩
 simp only[Is]
 exact⟨s,zs,rfl,h1,h2⟩
theorem zcG{H:Hp}{es:List Ent}{xs:List V}{i:Int}(hI:Iss K H (es.map dE) xs)(h0:0<=i)(hi:i<es.length):∃ p s,atI xs i=some (.ref p)/\es[i.toNat]? = some (es.getD i.toNat ([],[],[]))/\SqT K H p [.str (tx (es.getD i.toNat ([],[],[])).1),.str (tx (es.getD i.toNat ([],[],[])).2.1),.ref s]/\Is K H (.lst ((es.getD i.toNat ([],[],[])).2.2.map dSt)) (.ref s):=by
 have hl:=hI.len
 rw[ag] at hl
 obtain⟨v,a1,b1⟩:=jp (xs:=xs) (i:=i) h0 (by lia)
 obtain⟨d,e,ix⟩:=hI.get b1
 rw[aE] at e
 obtain⟨r,hr,rfl⟩:=Option.map_eq_some_iff.mp e
 have e:es.getD i.toNat ([],[],[])=r:=by rw[ae,hr];rfl
 rw[e]
 obtain⟨p,s,rfl,h2,h3⟩:=KF ix
 exact⟨p,s,a1,hr,h2,h3⟩
theorem Y5(ss:List Stp)(z:Int):(mvL ss z).length=ss.length:=by simp [mvL]
theorem xG(ss:List Stp):(yT ss).length=ss.length:=by simp [yT]
noncomputable def W8(K:ot):Sp:=fun vs H Q _=>∃(a t:Addr) (es:List Ent) (us:List Stp),vs=[.ref a,.ref t]/\Is K H (.lst (es.map dE)) (.ref a)/\Is K H (.lst (us.map dSt)) (.ref t)/\us.length<=100/\(∀ e ∈ es,e.2.2.length<=600)/\(∀ u ∈ us,0<=u.1/\u.1<es.length)/\∀(D:Addr) (H':Hp),H D=none->Same H H'->LsA K H' D ((byL es us).map dSt)->Q (.ref D) H'
theorem iA:zr ["entries","steps","chain","step","own"] ["entries","steps"] (zb xo):=⟨rfl,rfl,rfl,by decide +kernel,rfl,by decide +kernel,by decide +kernel⟩
theorem ZM{f:Addr}{fd:FuncData}(B:Bt mg)(F:Fun K "by_pacts" "by_pacts" xo f fd)(nQ:Df P w K mg base CX0 1 "moved" ["steps","size"] [] (uG K))(lN:Df P w K mg base CX0 1 "back" ["steps"] [] (vZ K)):ye P w K mg base CX0 2 f fd ["entries","steps"] (W8 K):=by
 refine F.ok iA (fun vs H Q E h=>?_) (fun cdv A outer s H vs Q E hr h=>?_)
 ·obtain⟨a,t,es,us,rfl,_⟩:=h
  rfl
 ·obtain⟨a,t,es,us,rfl,hE,hU,hul,hel,hub,q⟩:=h
  refine⟨_,(zi (zx (i:=2) iA.nd rfl (Or.inl rfl) (ue zc))
   (zi (yV PassesOwn.never rfl (yI (pv 1)) (zA (i:=3) iA.nd rfl (Or.inl rfl))
    (zi (zx (i:=4) iA.nd rfl (Or.inl rfl) (zp ix_tup (zp ix_list (pv 0) (zp ix_tup (pv 3) zg (fun _ _=>rfl)) (fun _ _=>rfl)) zg (fun _ _=>rfl)))
    (zh (vJ (qF cq PySem.F.slot_list_extend PySem.F.type_list_extend Vf (pv 2) (za (cl0 nQ hr .nil rfl (za (kC (xv (zp ix_tup (pv 3) zg (fun _ _=>rfl)) (fun _=>rfl)) (pv 4) (cl0 lN hr .nil rfl (za (pv 4) zc))) (za (zp ix_tup (pv 3) zg (fun _ _=>rfl)) zc))) zc))))))
   (zh (zu (pv 2))))),?_⟩
  have s16:=yf
  have hE':=hE
  have hU':=hU
  simp only[Is] at hE' hU'
  obtain⟨_,xs,e,hX,hI⟩:=hE'
  cases e
  obtain⟨_,ts,e,hTs,hJ⟩:=hU'
  cases e
  have htl:=hJ.len
  rw[ag] at htl
  refine zj (fun σ H'=>∃ D,H D=none/\Same H H'/\H' D=some (.lst [])/\σ=[some (.ref a),some (.ref t),some (.ref D),none,none]) ?_ ?_
  ·rfl'
   exact⟨by lia,fun p hp=>⟨p,hp,zf hp,ze,rfl⟩⟩
  rintro σ H1 ⟨D,hD,s1,hD1,rfl⟩
  refine zj (fun σ H'=>Same H H'/\LsA K H' D ((byL es us).map dSt)/\∃ v3 v4,σ=[some (.ref a),some (.ref t),some (.ref D),v3,v4]) ?_ ?_
  ·rfl'
   refine⟨⟨_,s1.seq hTs⟩,ForL.by (xs:=ts) (fun i σ H'=>Same H H'/\LsA K H' D ((byL es (us.take i)).map dSt)/\(byL es (us.take i)).length<=i * 600/\∃ v3 v4,σ=[some (.ref a),some (.ref t),some (.ref D),v3,v4]) ⟨s1,⟨[],hD1,by simp only[bG,byL,List.flatMap_nil,aN,Iss]⟩,by simp [byL],_,_,rfl⟩ (fun i σ H' _ h=>h.1.seq hTs) ?_ ?_⟩
   ·rintro i x σ H' hx ⟨hs,hL,hl,v3,v4,rfl⟩
    obtain⟨u,pu,hui,rfl,hqu⟩:=vB hJ hx
    have hil:=(List.getElem?_eq_some_iff.mp hui).1
    obtain⟨u0,u1⟩:=hub u (ac hui)
    obtain⟨pe,se,g1,g2,g3,g4⟩:=zcG hI u0 u1
    have hle:=hel _ (ac g2)
    have hby:byL es (us.take (i+1))=byL es (us.take i) ++ Xb es u:=by
     unfold byL
     rw[zV hui,cH]
     simp
    simp only[xK,bp,bo]
    refine zj (fun σ H''=>H''=H'/\σ=[some (.ref a),some (.ref t),some (.ref D),some (.ref pu),some (.ref se)]) ?_ ?_
    ·rfl'
     exact⟨_,zk hs hqu,_,rfl,_,_,rfl,hs.seq hX,_,g1,_,rfl,_,zk hs g3,rfl⟩
    rintro σ G ⟨rfl,rfl⟩
    obtain⟨zs,hZ,hZI⟩:=id hL
    have hzl:=hZI.len
    rw[ag] at hzl
    have hse:=Is.same hs _ _ g4
    have fin:∀(ws:List Stp) (M:Addr) (G2:Hp),Xb es u=ws->ws.length<=600->Same G G2->LsA K G2 M (ws.map dSt)->WO (V.ref D) [V.ref M] G2 fun x H1=>Same H H1/\LsA K H1 D ((byL es (us.take (i+1))).map dSt)/\(byL es (us.take (i+1))).length<=(i+1) * 600:=fun ws M G2 ew hwl sg hM=>by
     obtain⟨ys,hY,hYI⟩:=hM
     have hyl:=hYI.len
     rw[ag] at hyl
     have hZ2:=sg _ _ hZ
     refine⟨D,M,zs,ys,rfl,rfl,hZ2,hY,by lia,zK (hs.trans sg) hD,⟨_,ze,?_⟩,?_⟩
     ·rw[hby,ew,aD]
      exact Iss.append (Iss.updL hZ2 _ _ (vq _) (Iss.same sg _ _ hZI)) (Iss.updL hZ2 _ _ (vq _) hYI)
     ·rw[hby,ew,au]
      lia
    rfl'
    refine⟨.inl ⟨_,SqL.of hZ⟩,_,zk hs hqu,_,rfl,_,rfl,xa (fun hf=>⟨_,zk hs hqu,_,rfl,kW hse (by lia) fun M G2 _ sg hM=>fin _ M G2 (by unfold Xb;rw[if_pos hf]) (by rw[Y5];lia) sg hM⟩) fun hf=>jW hse (by lia) fun M0 G1 _ sg0 hM0=>⟨_,zk (hs.trans sg0) hqu,_,rfl,kW hM0.is (by rw[xG];lia) fun M G2 _ sg hM=>fin _ M G2 (by unfold Xb;rw[if_neg hf]) (by rw[Y5,xG];lia) (sg0.trans sg) hM⟩⟩
   ·rintro σ H' ⟨hs,hL,hl,v3,v4,rfl⟩
    rw[htl,aM] at hL
    exact⟨hs,hL,_,_,rfl⟩
  rintro σ H2 ⟨s2,hL2,v3,v4,rfl⟩
  rfl'
  exact q D H2 hD s2 hL2
noncomputable def yt(rs:List zB):List Nat->List Stp->Option (List Nat)
 | w,[]=>some w
 | w,s::ss=>(yF rs w s).bind fun w'=>yt rs w' ss
theorem wk(rs:List zB):∀(ss ts:List Stp) (w:List Nat),yt rs w (ss ++ ts)=(yt rs w ss).bind fun w'=>yt rs w' ts
 | [],ts,w=>rfl
 | s::ss,ts,w=>by
  simp only[bt,yt]
  cases yF rs w s with
  | none=>rfl
  | some w1=>exact wk rs ss ts w1
theorem qT{rs:List zB}{s:Stp}{ss:List Stp}{w w':List Nat}(h:yt rs w (s::ss)=some w'):∃ w1,yF rs w s=some w1/\yt rs w1 ss=some w':=by
 simp only[yt] at h
 obtain⟨w1,h1,h2⟩:=Option.bind_eq_some_iff.mp h
 exact⟨w1,h1,h2⟩
theorem kG{rs:List zB}{s:Stp}{ss:List Stp}{w w1 w2:List Nat}(h:yt rs w ss=some w1)(h2:yF rs w1 s=some w2):yt rs w (ss ++ [s])=some w2:=by
 rw[wk,h]
 simp only[yt,bM]
 rw[h2]
 rfl
theorem Wp(s:Stp)(ss:List Stp):yT (s::ss)=yT ss ++ [bk s]:=by simp [yT]
theorem vp{rs:List zB}:∀{ss:List Stp} {w w':List Nat},yt rs w ss=some w'->yt rs w' (yT ss)=some w
 | [],w,w',h=>by cases h;rfl
 | s::ss,w,w',h=>by
  obtain⟨w1,h1,h2⟩:=qT h
  rw[Wp]
  exact kG (vp h2) (jh h1)
theorem qU{rs:List zB}(a b:List Nat):∀{ss:List Stp} {w w':List Nat},yt rs w ss=some w'->yt rs (a ++ w ++ b) (mvL ss (a.length:Int))=some (a ++ w' ++ b)
 | [],w,w',h=>by cases h;rfl
 | s::ss,w,w',h=>by
  obtain⟨w1,h1,h2⟩:=qT h
  have e:mvL (s::ss) (a.length:Int)=(s.1,s.2.1+(a.length:Int),s.2.2)::mvL ss (a.length:Int):=rfl
  rw[e]
  simp only[yt]
  rw[uf a b h1]
  exact qU a b h2
noncomputable def EOk(rs:List zB)(e:Ent):Prop:=yt rs e.1 e.2.2=some e.2.1
noncomputable def zd(es:List Ent):List zB:=es.map fun e=>(e.1,e.2.1)
theorem VQ{rs:List zB}{es:List Ent}(hE:∀ e ∈ es,EOk rs e){u:Stp}{w w':List Nat}(h:yF (zd es) w u=some w'):yt rs w (Xb es u)=some w':=by
 have hb:0<=u.1/\u.1<(zd es).length:=bB fun hb=>by rw[xl hb] at h;cases h
 rw[y8 hb] at h
 have hl:(zd es).length=es.length:=by unfold zd;rw[ag]
 rw[hl] at hb
 have hg:es[u.1.toNat]? = some (es.getD u.1.toNat ([],[],[])):=by
  rw[ae,ak (by lia)]
  rfl
 have hp:(zd es).getD u.1.toNat ([],[])=((es.getD u.1.toNat ([],[],[])).1,(es.getD u.1.toNat ([],[],[])).2.1):=by
  unfold zd
  rw[ae,aE,hg]
  rfl
 rw[hp] at h
 have he:=hE _ (ac hg)
 unfold Xb
 generalize es.getD u.1.toNat ([],[],[])=e at *
 have key:∀(o n:List Nat) (ss:List Stp),sdl (e.1,e.2.1) u.2.2=(o,n)->yt rs o ss=some n->yt rs w (mvL ss u.2.1)=some w':=fun o n ss hs hw=>by
  rw[hs] at h
  by_cases hst:zy w u.2.1 o=true
  ·rw[if_pos hst] at h
   cases h
   obtain⟨e1,e2,h0,h1⟩:=yR hst
   have:=qU (w.take u.2.1.toNat) (w.drop (u.2.1.toNat+o.length)) hw
   rw[e1,e2,show ((u.2.1.toNat:Nat):Int)=u.2.1 by lia] at this
   exact this
  ·rw[if_neg hst] at h
   cases h
 cases hf:u.2.2 with
 | true =>
  rw[if_pos rfl]
  exact key e.1 e.2.1 e.2.2 (by rw[hf];rfl) he
 | false =>
  rw[if_neg (by decide)]
  exact key e.2.1 e.1 (yT e.2.2) (by rw[hf];rfl) (vp he)
theorem kn{rs:List zB}{es:List Ent}(hE:∀ e ∈ es,EOk rs e):∀{us:List Stp} {w w':List Nat},yt (zd es) w us=some w'->yt rs w (byL es us)=some w'
 | [],w,w',h=>by cases h;rfl
 | u::us,w,w',h=>by
  obtain⟨w1,h1,h2⟩:=qT h
  have e:byL es (u::us)=Xb es u ++ byL es us:=by simp [byL]
  rw[e,wk,VQ hE h1]
  exact kn hE h2
theorem Wz{rs:List zB}(ok:j9 rs){w w':List Nat}{s:Stp}(h:yF rs w s=some w'):w'.length<=w.length+100:=by
 have hb:0<=s.1/\s.1<rs.length:=bB fun hb=>by rw[xl hb] at h;cases h
 rw[y8 hb] at h
 have g:=Yf ok s.1.toNat
 generalize rs.getD s.1.toNat ([],[])=r at *
 by_cases hs:zy w s.2.1 (sdl r s.2.2).1=true
 ·rw[if_pos hs] at h
  cases h
  have:=UX (n:=(sdl r s.2.2).2) hs
  have h2:(sdl r s.2.2).2.length<=100:=by
   cases s.2.2
   ·exact g.1
   ·exact g.2
  lia
 ·rw[if_neg hs] at h
  cases h
noncomputable def ja(D:Addr)(H:Hp):Hp:=fun b=>if b=D then none else H b
theorem wH{D b:Addr}{H:Hp}(h:b≠D):ja D H b=H b:=by unfold ja;rw[if_neg h]
theorem qI{D:Addr}{H:Hp}:ja D H D=none:=by unfold ja;rw[if_pos rfl]
theorem wA{D:Addr}{H:Hp}:Same (ja D H) H:=fun b o e=>by
 by_cases hb:b=D
 ·rw[hb,qI] at e;cases e
 ·rw[wH hb] at e;exact e
theorem WR{D:Addr}{H H':Hp}(hD:H D=none)(s:Same H H'):Same H (ja D H'):=fun b o e=>by
 have hb:b≠D:=fun z=>by rw[z,hD] at e;cases e
 rw[wH hb]
 exact s _ _ e
theorem wy{D:Addr}{H H':Hp}(s:Same H H'):Same (ja D H) (ja D H'):=fun b o e=>by
 by_cases hb:b=D
 ·rw[hb,qI] at e;cases e
 ·rw[wH hb] at e ⊢;exact s _ _ e
theorem xD{D:Addr}{H:Hp}{o:HO}:Same (ja D H) (ja D (upd H D o)):=fun b o' e=>by
 by_cases hb:b=D
 ·rw[hb,qI] at e;cases e
 ·rw[wH hb] at e ⊢;rw[zq hb];exact e
theorem X7{D a:Addr}{H:Hp}{xs ys:List V}(hD:H D=some (.lst ys))(h:SqT K H a xs):SqT K (ja D H) a xs:=by
 rcases h with (h | ⟨o,h⟩) | h
 ·exact .inl (.inl (by rw[wH (fun e=>by rw[e,hD] at h;cases h)];exact h))
 ·exact .inl (.inr ⟨o,by rw[wH (fun e=>by rw[e,hD] at h;cases h)];exact h⟩)
 ·exact .inr h
theorem Yk{D:Addr}{H:Hp}{ys:List V}(hD:H D=some (.lst ys)):∀(ss:List Stp) (vs:List V),Iss K H (ss.map dSt) vs->Iss K (ja D H) (ss.map dSt) vs
 | [],vs,h=>by simp only[aN,Iss] at h ⊢;exact h
 | s::ss,vs,h=>by
  simp only[ax,Iss] at h ⊢
  obtain⟨v,r,rfl,h1,h2⟩:=h
  obtain⟨p,rfl,h3⟩:=Qk h1
  exact⟨_,r,rfl,YU (X7 hD h3),Yk hD ss r h2⟩
theorem zbx{H:Hp}{p s:Addr}{e:Ent}(h1:SqT K H p [.str (tx e.1),.str (tx e.2.1),.ref s])(h2:Is K H (.lst (e.2.2.map dSt)) (.ref s)):Is K H (dE e) (.ref p):=by
 simp only[dE,Is,Iss]
 simp only[Is] at h2
 exact⟨p,_,rfl,h1,_,_,rfl,rfl,_,_,rfl,rfl,_,_,rfl,h2,rfl⟩
theorem Yu{H:Hp}{es:List Ent}{vs:List V}{j:Nat}{v:V}(h:Iss K H (es.map dE) vs)(q:vs[j]? = some v):∃ e p s,es[j]? = some e/\v=.ref p/\SqT K H p [.str (tx e.1),.str (tx e.2.1),.ref s]/\Is K H (.lst (e.2.2.map dSt)) (.ref s):=by
 obtain⟨d,e,i⟩:=h.get q
 rw[aE] at e
 obtain⟨r,hr,rfl⟩:=Option.map_eq_some_iff.mp e
 obtain⟨p,s,e1,e2,e3⟩:=KF i
 exact⟨r,p,s,hr,e1,e2,e3⟩
theorem JL{H:Hp}{d:L3.D}{v:V}(h:Is K H d v):Iss K H [d] [v]:=by
 simp only[Iss]
 exact⟨v,[],rfl,h,rfl⟩
noncomputable def EnA(K:ot)(H:Hp)(e:Ent)(v:V):Prop:=∃ p s,v=.ref p/\SqT K H p [.str (tx e.1),.str (tx e.2.1),.ref s]/\LsA K H s (e.2.2.map dSt)
noncomputable def EnsA(K:ot)(H:Hp):List Ent->List V->Prop
 | [],vs=>vs=[]
 | e::es,vs=>∃ v r,vs=v::r/\EnA K H e v/\EnsA K H es r
noncomputable def EnsL(K:ot)(H:Hp)(a:Addr)(es:List Ent):Prop:=∃ xs,SqL K H a xs/\EnsA K H es xs
noncomputable def EnsM(K:ot)(H:Hp)(a:Addr)(es:List Ent):Prop:=∃ xs,H a=some (.lst xs)/\EnsA K H es xs
theorem EnA.is{H:Hp}{e:Ent}{v:V}(h:EnA K H e v):Is K H (dE e) v:=by
 obtain⟨p,s,rfl,h1,h2⟩:=h
 exact zbx h1 h2.is
theorem EnA.same{H H':Hp}{e:Ent}{v:V}(h:EnA K H e v)(q:Same H H'):EnA K H' e v:=by
 obtain⟨p,s,e0,h1,h2⟩:=h
 exact⟨p,s,e0,zk q h1,h2.same q⟩
theorem EnsA.iss{H:Hp}:∀{es:List Ent} {vs:List V},EnsA K H es vs->Iss K H (es.map dE) vs
 | [],vs,h=>by simp only[EnsA] at h;simp only[aN,Iss];exact h
 | e::es,vs,h=>by
  simp only[EnsA] at h
  obtain⟨v,r,rfl,h1,h2⟩:=h
  simp only[ax,Iss]
  exact⟨v,r,rfl,h1.is,h2.iss⟩
theorem EnsA.len{H:Hp}{es:List Ent}{vs:List V}(h:EnsA K H es vs):vs.length=es.length:=by
 have:=h.iss.len
 rw[ag] at this
 exact this
theorem EnsA.same{H H':Hp}(q:Same H H'):∀{es:List Ent} {vs:List V},EnsA K H es vs->EnsA K H' es vs
 | [],vs,h=>by simp only[EnsA] at h ⊢;exact h
 | e::es,vs,h=>by
  simp only[EnsA] at h ⊢
  obtain⟨v,r,e0,h1,h2⟩:=h
  exact⟨v,r,e0,h1.same q,h2.same q⟩
theorem EnsA.snoc{H:Hp}{e:Ent}{v:V}(hv:EnA K H e v):∀{es:List Ent} {vs:List V},EnsA K H es vs->EnsA K H (es ++ [e]) (vs ++ [v])
 | [],vs,h=>by
  simp only[EnsA] at h
  subst h
  simp only[bT,EnsA]
  exact⟨v,[],rfl,hv,rfl⟩
 | e'::es,vs,h=>by
  simp only[EnsA] at h
  obtain⟨x,r,rfl,hx,hr⟩:=h
  simp only[bt,EnsA]
  exact⟨x,r ++ [v],rfl,hx,hr.snoc hv⟩
theorem EnsA.get{H:Hp}:∀{es:List Ent} {vs:List V} {j:Nat} {v:V},EnsA K H es vs->vs[j]? = some v->∃ e p s,es[j]? = some e/\v=.ref p/\SqT K H p [.str (tx e.1),.str (tx e.2.1),.ref s]/\LsA K H s (e.2.2.map dSt)
 | [],vs,j,v,h,q=>by
  simp only[EnsA] at h
  subst h
  simp at q
 | e::es,vs,0,v,h,q=>by
  simp only[EnsA] at h
  obtain⟨x,r,rfl,⟨p,s,rfl,h1,h2⟩,_⟩:=h
  cases q
  exact⟨e,p,s,rfl,rfl,h1,h2⟩
 | e::es,vs,j+1,v,h,q=>by
  simp only[EnsA] at h
  obtain⟨x,r,rfl,_,hr⟩:=h
  exact hr.get (j:=j) (by simpa using q)
theorem EnsL.is{H:Hp}{a:Addr}{es:List Ent}(h:EnsL K H a es):Is K H (.lst (es.map dE)) (.ref a):=by
 obtain⟨xs,h1,h2⟩:=h
 simp only[Is]
 exact⟨a,xs,rfl,h1,h2.iss⟩
theorem EnsL.same{H H':Hp}{a:Addr}{es:List Ent}(h:EnsL K H a es)(q:Same H H'):EnsL K H' a es:=by
 obtain⟨xs,h1,h2⟩:=h
 exact⟨xs,q.seq h1,h2.same q⟩
theorem EnsM.l{H:Hp}{a:Addr}{es:List Ent}(h:EnsM K H a es):EnsL K H a es:=by
 obtain⟨xs,h1,h2⟩:=h
 exact⟨xs,SqL.of h1,h2⟩
theorem EnsM.same{H H':Hp}{a:Addr}{es:List Ent}(h:EnsM K H a es)(q:Same H H'):EnsM K H' a es:=by
 obtain⟨xs,h1,h2⟩:=h
 exact⟨xs,q _ _ h1,h2.same q⟩
theorem EnA.new{D p s:Addr}{H:Hp}{e:Ent}{ys:List V}(hD:H D=some (.lst ys))(hp:H p=some (.tup [.str (tx e.1),.str (tx e.2.1),.ref s]))(hs:LsA K H s (e.2.2.map dSt))(hsD:s≠D):EnA K (ja D H) e (.ref p):=by
 obtain⟨zs,hz,hi⟩:=hs
 have hpD:p≠D:=fun z=>by rw[z,hD] at hp;cases hp
 exact⟨p,s,rfl,SqT.of (by rw[wH hpD];exact hp),zs,by rw[wH hsD];exact hz,Yk hD _ _ hi⟩
theorem Ze(es:List Ent):(zd es).length=es.length:=by unfold zd;rw[ag]
noncomputable def wm(K:ot):Sp:=fun vs H Q _=>∃(a:Addr) (es:List Ent),vs=[.ref a]/\Is K H (.lst (es.map dE)) (.ref a)/\es.length<=1000/\∀(D:Addr) (H':Hp),H D=none->Same H H'->LsA K H' D ((zd es).map dR)->Q (.ref D) H'
theorem wD{a:Addr}{es:List Ent}{H:Hp}{Q:VK}{E:XK}(h1:Is K H (.lst (es.map dE)) (.ref a))(h2:es.length<=1000)(h:∀(D:Addr) (H':Hp),H D=none->Same H H'->LsA K H' D ((zd es).map dR)->Q (.ref D) H'):wm K [.ref a] H Q E:=⟨a,es,rfl,h1,h2,h⟩
theorem ZI:zr ["entries"] ["entries"] (zb yW):=⟨rfl,rfl,rfl,by decide +kernel,rfl,by decide +kernel,by decide +kernel⟩
theorem Yc{f:Addr}{fd:FuncData}(B:Bt mg)(F:Fun K "pairs_of" "pairs_of" yW f fd) : ye P w K mg base CX0 1 f fd ["entries"] (wm K):=by
 refine F.ok ZI (fun vs H Q E h=>?_) (fun cdv A outer s H vs Q E hr h=>?_)
 ·obtain⟨a,es,rfl,_⟩:=h
  rfl
 ·obtain⟨a,es,rfl,hA,hl,q⟩:=h
  refine⟨_,(zh (zu (yD (own:=["entry"]) (caps:=[]) (ix:=[]) (tt:=wu) (te:=(QD (zN (tOp (ub K) (yK 0) (tC (.int 0))) (zN (tOp (ub K) (yK 0) (tC (.int 1))) wq)))) rfl (zO (sc:=zb yW) rfl (by decide +kernel) (by decide +kernel) (by decide +kernel) rfl (by decide +kernel) (by decide +kernel) rfl) (yI (pv 0)) (fun _ _ _ _ _ _=>zA (i:=0) (show List.Nodup [_] by decide) rfl (Or.inl rfl)) (fun _ _ _ _ _ _=>yE) (fun _ _ _ _ _ _=>(yo (za (zp ix_tup (pv 0) zg (fun _ _=>rfl)) (za (zp ix_tup (pv 0) zg (fun _ _=>rfl)) zc))))))),?_⟩
  have s16:=yf
  rfl'
  simp only[Is] at hA
  obtain⟨_,xs,e,hX,hI⟩:=hA
  cases e
  have hxl:=hI.len
  rw[ag] at hxl
  have hpl:=Ze es
  refine⟨⟨xs,hX⟩,fun D hD=>CompL.by (xs:=xs) (fun i acc H'=>Same H H'/\H' D=some (.lst acc)/\Iss K H' (((zd es).take i).map dR) acc) ⟨zf hD,ze,by simp only[bG,aN,Iss]⟩ (fun i acc H' _ h=>h.1.seq hX) ?_ ?_⟩
  ·rintro i x acc H' hx ⟨hs,hH,hA⟩
   have hi:=(List.getElem?_eq_some_iff.mp hx).1
   obtain⟨e,pe,se,hei,rfl,hqe,_⟩:=Yu hI hx
   have hm:(zd es)[i]? = some (e.1,e.2.1):=by unfold zd;rw[aE,hei];rfl
   have hal:=hA.len
   rw[ag,aJ] at hal
   simp only[wu]
   rfl'
   refine⟨xj,_,zk hs hqe,_,rfl,_,zk hs hqe,_,rfl,by lia,fun p hp=>⟨zf hp _ _ hH,by lia,CNx.mk hi ⟨zK (hs.trans (zf hp)) hD,ze,?_⟩⟩⟩
   rw[zV hm,aD]
   exact uC hH hA hp Ki (YG _) (by simp only[ya,xA,and_self])
  ·rintro acc H' ⟨hs,hH,hA⟩
   rw[hxl,<- hpl,aM] at hA
   exact q D H' hD hs ⟨acc,hH,hA⟩
noncomputable def yu(k:Nat)(l:List Nat)(ns:List Int)(e:Ent):Ent:=if zR k l ns e.2.1 e.1=true then e else (e.2.1,e.1,yT e.2.2)
structure EB(l:List Nat)(e:Ent):Prop where
 a:e.1.length<=60
 b:e.2.1.length<=60
 s:e.2.2.length<=600
 ma:∀ c ∈ e.1,c ∈ l
 mb:∀ c ∈ e.2.1,c ∈ l
theorem EB.rule{k:Nat}{l:List Nat}{ns:List Int}{e:Ent}(h:EB l e):EB l (yu k l ns e):=by
 unfold yu
 split
 ·exact h
 ·exact⟨h.b,h.a,by rw[xG];exact h.s,h.mb,h.ma⟩
noncomputable def xX(K:ot)(CO CR CW:Addr):Sp:=fun vs H Q _=>∃(o p s:Addr) (k:Nat) (l:List Nat) (ns:List Int) (e:Ent),vs=[.ref o,.ref p]/\OrdAt CO CR CW H o k l ns/\OG l ns k/\SqT K H p [.str (tx e.1),.str (tx e.2.1),.ref s]/\Is K H (.lst (e.2.2.map dSt)) (.ref s)/\EB l e /\
 (yu k l ns e=e->∀ H',Same H H'->Q (.ref p) H') /\
 (∀(p' s':Addr) (H':Hp),Same H H'->H s'=none->H' p'=some (.tup [.str (tx (yu k l ns e).1),.str (tx (yu k l ns e).2.1),.ref s'])->LsA K H' s' ((yu k l ns e).2.2.map dSt)->Q (.ref p') H')
theorem jx{CO CR CW o p s:Addr}{k:Nat}{l:List Nat}{ns:List Int}{e:Ent}{H:Hp}{Q:VK}{E:XK}(h1:OrdAt CO CR CW H o k l ns)(h2:OG l ns k)(h3:SqT K H p [.str (tx e.1),.str (tx e.2.1),.ref s])(h4:Is K H (.lst (e.2.2.map dSt)) (.ref s))(h5:EB l e)
  (h6:yu k l ns e=e->∀ H',Same H H'->Q (.ref p) H') (h7:∀(p' s':Addr) (H':Hp),Same H H'->H s'=none->H' p'=some (.tup [.str (tx (yu k l ns e).1),.str (tx (yu k l ns e).2.1),.ref s'])->LsA K H' s' ((yu k l ns e).2.2.map dSt)->Q (.ref p') H'):xX K CO CR CW [.ref o,.ref p] H Q E :=
 ⟨o,p,s,k,l,ns,e,rfl,h1,h2,h3,h4,h5,h6,h7⟩
theorem Xv:zr ["order","entry"] ["order","entry"] (zb xT):=⟨rfl,rfl,rfl,by decide +kernel,rfl,by decide +kernel,by decide +kernel⟩
theorem Xo{f CO CR CW:Addr}{fd:FuncData}(B:Bt mg)(DBk:DB P w K mg base CO CR CW)(F:Fun K "as_rule" "as_rule" xT f fd)(lN:Df P w K mg base CX0 1 "back" ["steps"] [] (vZ K)):ye P w K mg base CX0 4 f fd ["order","entry"] (xX K CO CR CW):=by
 refine F.ok Xv (fun vs H Q E h=>?_) (fun cdv A outer s H vs Q E hr h=>?_)
 ·obtain⟨o,p,s,k,l,ns,e,rfl,_⟩:=h
  rfl
 ·obtain⟨o,p,s,k,l,ns,e,rfl,ho,hG,hp,hs,hE,q1,q2⟩:=h
  refine⟨_,(zM (zZ (xv (Kc DBk hr (pv 0) (za (zp ix_tup (pv 1) zg (fun _ _=>rfl)) (za (zp ix_tup (pv 1) zg (fun _ _=>rfl)) zc))) (fun _=>rfl))
    (zh (zu (pv 1)))
    zC)
   (zh (zu (yo (za (zp ix_tup (pv 1) zg (fun _ _=>rfl)) (za (zp ix_tup (pv 1) zg (fun _ _=>rfl)) (za (cl0 lN hr .nil rfl (za (zp ix_tup (pv 1) zg (fun _ _=>rfl)) zc)) zc))))))),?_⟩
  have s16:=yf
  repeat (first | rfl' | simp only[yq,zw,zH,yy,yw,zv])
  obtain⟨C,dx,fs,hf,ho1,hn,_⟩:=ho.fam
  have h1:fs.lookup ("before" : Str)=none:=hn _ (by decide) (by decide)
  refine⟨C,hf,dx,fs,ho1,h1,_,hp,_,rfl,_,hp,_,rfl,o,k,l,ns,e.2.1,e.1,rfl,ho,hG,by have:=hE.b;lia,by have:=hE.a;lia,hE.mb,hE.ma,fun H1 s1=>⟨_,rfl,xa (fun h=>?_) fun h=>?_⟩⟩
  ·exact q1 (by unfold yu;rw[if_pos h]) H1 s1
  ·have er:yu k l ns e=(e.2.1,e.1,yT e.2.2):=by unfold yu;rw[if_neg h]
   rw[er] at q2
   have hp1:=zk s1 hp
   refine⟨_,hp1,_,rfl,_,hp1,_,rfl,_,hp1,_,rfl,jW (Is.same s1 _ _ hs) (by have:=hE.s;lia) fun D H2 hD s2 hL=>⟨by lia,fun t ht=>?_⟩⟩
   exact q2 t D _ (s1.trans (s2.trans (zf ht))) (s1.free hD) ze (hL.same (zf ht))
theorem ZP{l:List Nat}{ns:List Int}{w:List Nat}(hb:∀ n ∈ ns,1<=n/\n<=1000000):0<=XO l ns w:=by
 unfold XO
 have key:∀ xs:List Int,(∀ x ∈ xs,0<=x)->0<=xs.sum:=by
  intro xs
  induction xs with
  | nil=>intro _;simp
  | cons x xs ih =>
   intro h
   rw[bf]
   have h1:=h x aI
   have h2:=ih fun y hy=>h y (aw _ hy)
   lia
 refine key _ fun x hx=>?_
 obtain⟨p,hp,rfl⟩:=List.mem_map.mp hx
 have h1:=(hb p.2 (cJ (show (p.1,p.2) ∈ l.zip ns from hp)).2).1
 exact Int.mul_nonneg (by lia) (by lia)
theorem Wd{k:Nat}{l:List Nat}{ns:List Int}{u v:List Nat}(hb:∀ n ∈ ns,1<=n/\n<=1000000)(h:zR k l ns u v=true):v≠[]:=by
 intro e
 subst e
 have h0:zt k l ns []=0:=by
  unfold zt
  split
  ·unfold XO
   have z:∀ xs:List (Nat × Int),(xs.map fun p=>(([]:List Nat).count p.1:Int) * p.2).sum=0:=by
    intro xs
    induction xs with
    | nil=>rfl
    | cons x xs ih=>rw[ax,bf,ih];simp
   exact z _
  ·rfl
 have h1:0<=zt k l ns u:=by
  unfold zt
  split
  ·exact ZP hb
  ·lia
 have h2:wX k l []=[]:=by
  unfold wX yx
  split <;> rfl
 unfold zR at h
 rw[h0,h2] at h
 split at h
 ·cases hr:wX k l u with
  | nil=>rw[hr] at h;cases h
  | cons a r=>rw[hr] at h;cases h
 ·have:=of_decide_eq_true h
  lia
theorem qp{k:Nat}{l:List Nat}{ns:List Int}{e:Ent}(hE:EB l e)(hne:e.1≠e.2.1):zR k l ns (yu k l ns e).2.1 (yu k l ns e).1=true:=by
 unfold yu
 by_cases h:zR k l ns e.2.1 e.1=true
 ·rw[if_pos h]
  exact h
 ·rw[if_neg h]
  have:=qh (k:=k) (ns:=ns) hE.ma hE.mb hne
  show zR k l ns e.1 e.2.1=true
  rw[this]
  simpa using h
noncomputable def qZ(k:Nat)(l:List Nat)(ns:List Int)(es:List Ent):List Ent:=(es.filter fun e=>!decide (e.1=e.2.1)).map (yu k l ns)
theorem QI(k:Nat)(l:List Nat)(ns:List Int)(es fs:List Ent):qZ k l ns (es ++ fs)=qZ k l ns es ++ qZ k l ns fs:=by
 unfold qZ
 rw[cz,aD]
theorem Z0(k:Nat)(l:List Nat)(ns:List Int)(es:List Ent):(qZ k l ns es).length<=es.length:=by
 unfold qZ
 rw[ag]
 exact cC _ _
noncomputable def Y9(k:Nat)(l:List Nat)(ns:List Int)(a b:Ent):Bool:=if a.1=b.1 then zR k l ns a.2.1 b.2.1 else zR k l ns a.1 b.1
structure Lined(k:Nat)(l:List Nat)(ns:List Int)(es zs:List Ent):Prop where
 perm:zs.Perm (qZ k l ns es)
 srt:zs.Pairwise fun a b=>Y9 k l ns b a=false
structure zW(ps:List zB)(w:List Nat)(i:Nat):Prop where
 live:Xf ps w i
 end_:zG (wAt ps w i) ps=none
 most:i<=40
theorem J3(ps:List zB)(w:List Nat):(∃ i,zW ps w i)\/(Xf ps w 40/\zG (wAt ps w 40) ps≠none):=by
 have key:∀ n,n<=41->(∃ i,zW ps w i)\/Xf ps w n:=by
  intro n
  induction n with
  | zero=>intro _;exact .inr fun i h=>absurd h (cP i)
  | succ n ih =>
   intro hn
   rcases ih (by lia) with h | h
   ·exact .inl h
   ·cases e:zG (wAt ps w n) ps with
    | none=>exact .inl ⟨n,h,e,by lia⟩
    | some u =>
     refine .inr fun i hi=>?_
     by_cases hin:i=n
     ·rw[hin,e]
      intro z
      cases z
     ·exact h i (by lia)
 rcases key 41 (aq _) with h | h
 ·exact .inl h
 ·exact .inr ⟨fun i hi=>h i (by lia),h 40 (by decide)⟩
noncomputable def stS(us:List (Nat × Nat)):List Stp:=us.map fun u=>((u.1:Int),(u.2:Int),true)
noncomputable def yU(bs:List Ent)(e:Ent)(i j:Nat):Ent:=(wAt (zd bs) e.1 i,wAt (zd bs) e.2.1 j,byL bs (yT (stS (sAt (zd bs) e.1 i))) ++ e.2.2 ++ byL bs (stS (sAt (zd bs) e.2.1 j)))
noncomputable def qW(e:Ent):Prop:=240<e.2.2.length\/60<e.1.length\/60<e.2.1.length
inductive xx(k:Nat)(l:List Nat)(ns:List Int):List Ent->List Ent->Option (List Ent)->Prop where
 | nil (bs:List Ent):xx k l ns bs [] (some bs)
 | same {bs es:List Ent} {e:Ent} {i j:Nat} {r:Option (List Ent)} (h1:zW (zd bs) e.1 i) (h2:zW (zd bs) e.2.1 j) (h3:wAt (zd bs) e.1 i=wAt (zd bs) e.2.1 j) (h4:xx k l ns bs es r):xx k l ns bs (e::es) r
 | new {bs es:List Ent} {e:Ent} {i j:Nat} {r:Option (List Ent)} (h1:zW (zd bs) e.1 i) (h2:zW (zd bs) e.2.1 j) (h3:wAt (zd bs) e.1 i≠wAt (zd bs) e.2.1 j) (h4:¬ qW (yU bs e i j)) (h5:xx k l ns (bs ++ [yu k l ns (yU bs e i j)]) es r):xx k l ns bs (e::es) r
 | far {bs es:List Ent} {e:Ent} {i j:Nat} (h1:zW (zd bs) e.1 i) (h2:zW (zd bs) e.2.1 j) (h3:wAt (zd bs) e.1 i≠wAt (zd bs) e.2.1 j) (h4:qW (yU bs e i j)):xx k l ns bs (e::es) none
 | stuck {bs es:List Ent} {e:Ent} (h:(∀ i,¬ zW (zd bs) e.1 i)\/(∀ j,¬ zW (zd bs) e.2.1 j)):xx k l ns bs (e::es) none
inductive ug(k:Nat)(l:List Nat)(ns:List Int):Nat->List Ent->Option (List Ent)->Prop where
 | out (es:List Ent):ug k l ns 0 es none
 | bad {n:Nat} {es zs:List Ent} (h1:Lined k l ns es zs) (h2:xx k l ns [] zs none):ug k l ns (n+1) es none
 | done {n:Nat} {es zs bs:List Ent} (h1:Lined k l ns es zs) (h2:xx k l ns [] zs (some bs)) (h3:zd bs=zd zs):ug k l ns (n+1) es (some bs)
 | more {n:Nat} {es zs bs:List Ent} {r:Option (List Ent)} (h1:Lined k l ns es zs) (h2:xx k l ns [] zs (some bs)) (h3:zd bs≠zd zs) (h4:ug k l ns n bs r):ug k l ns (n+1) es r
theorem xb{ps:List zB}{w:List Nat}{u:Nat × Nat}(h:zG w ps=some u):∃ p,ps[u.1]? = some p/\zy w (u.2:Int) p.1=true:=by
 have hm:u ∈ xL w ps w.length:=List.mem_of_mem_head? (by unfold zG at h;rw[h];rfl)
 exact (wY (usesK_mem.mp hm).2).2
theorem vY{ps:List zB}{l w:List Nat}(hw:∀ c ∈ w,c ∈ l)(hp:∀ p ∈ ps,∀ c ∈ p.2,c ∈ l):∀ j,∀ c ∈ wAt ps w j,c ∈ l
 | 0=>hw
 | j+1=>by
  have ih:=vY hw hp j
  cases e:zG (wAt ps w j) ps with
  | none =>
   show ∀ c ∈ XQ ps (wAt ps w j),c ∈ l
   unfold XQ
   rw[e]
   exact ih
  | some u =>
   obtain⟨p,h1,h2⟩:=xb e
   rw[wT e]
   unfold Yz xh
   rw[xR h1]
   intro c hc
   rcases List.mem_append.mp hc with hc | hc
   ·rcases List.mem_append.mp hc with hc | hc
    ·exact ih c (bu hc)
    ·exact hp p (ac h1) c hc
   ·exact ih c (cE hc)
structure zaK(R:List Nat->List Nat->Prop):Prop where
 refl:∀ u,R u u
 symm:∀{u v},R u v->R v u
 trans:∀{u v w},R u v->R v w->R u w
 ctx:∀{u v} (a b:List Nat),R u v->R (a ++ u ++ b) (a ++ v ++ b)
noncomputable def Xw(R:List Nat->List Nat->Prop)(es:List Ent):Prop:=∀ e ∈ es,R e.1 e.2.1
theorem QM{R:List Nat->List Nat->Prop}(hR:zaK R){ps:List zB}(hk:∀ p ∈ ps,R p.1 p.2)(w:List Nat):∀ j,R w (wAt ps w j)
 | 0=>hR.refl w
 | j+1=>by
  have ih:=QM hR hk w j
  cases e:zG (wAt ps w j) ps with
  | none =>
   show R w (XQ ps (wAt ps w j))
   unfold XQ
   rw[e]
   exact ih
  | some u =>
   obtain⟨p,h1,h2⟩:=xb e
   rw[wT e]
   refine hR.trans ih ?_
   obtain⟨e1,_⟩:=yR h2
   unfold Yz xh
   rw[xR h1]
   have:=hR.ctx ((wAt ps w j).take ((u.2:Int)).toNat) ((wAt ps w j).drop (((u.2:Int)).toNat+p.1.length)) (hk p (ac h1))
   rw[e1] at this
   exact this
theorem qc{R:List Nat->List Nat->Prop}{bs:List Ent}(h:Xw R bs):∀ p ∈ zd bs,R p.1 p.2:=fun p hp=>by
 unfold zd at hp
 obtain⟨e,he,rfl⟩:=List.mem_map.mp hp
 exact h e he
theorem jC{R:List Nat->List Nat->Prop}(hR:zaK R){k:Nat}{l:List Nat}{ns:List Int}{e:Ent}:R (yu k l ns e).1 (yu k l ns e).2.1 ↔ R e.1 e.2.1:=by
 unfold yu
 split
 ·exact Iff.rfl
 ·exact⟨hR.symm,hR.symm⟩
theorem WJ{R:List Nat->List Nat->Prop}(hR:zaK R){bs:List Ent}{e:Ent}{i j:Nat}(h:Xw R bs):R (wAt (zd bs) e.1 i) (wAt (zd bs) e.2.1 j) ↔ R e.1 e.2.1:=by
 have h1:=QM hR (qc h) e.1 i
 have h2:=QM hR (qc h) e.2.1 j
 exact⟨fun x=>hR.trans h1 (hR.trans x (hR.symm h2)),fun x=>hR.trans (hR.symm h1) (hR.trans x h2)⟩
theorem zbl{R:List Nat->List Nat->Prop}(hR:zaK R){k:Nat}{l:List Nat}{ns:List Int}{bs es:List Ent}{r:Option (List Ent)}(h:xx k l ns bs es r):∀ fs,r=some fs->(Xw R fs ↔ Xw R bs/\Xw R es):=by
 induction h with
 | nil bs =>
  intro fs e
  cases e
  exact⟨fun h=>⟨h,fun e he=>(nomatch he)⟩,fun h=>h.1⟩
 | @same bs es e i j r h1 h2 h3 h4 ih =>
  intro fs er
  rw[ih fs er]
  refine⟨fun⟨a,b⟩=>⟨a,fun x hx=>?_⟩,fun⟨a,b⟩=>⟨a,fun x hx=>b x (aw _ hx)⟩⟩
  rcases List.mem_cons.mp hx with rfl | hx
  ·refine (WJ hR a (i:=i) (j:=j)).mp ?_
   rw[h3]
   exact hR.refl _
  ·exact b x hx
 | @new bs es e i j r h1 h2 h3 h4 h5 ih =>
  intro fs er
  rw[ih fs er]
  constructor
  ·rintro⟨a,b⟩
   have a':Xw R bs:=fun x hx=>a x (br _ hx)
   refine⟨a',fun x hx=>?_⟩
   rcases List.mem_cons.mp hx with rfl | hx
   ·have:=a _ (aB bs (List.mem_singleton.mpr rfl))
    exact (WJ hR a' (i:=i) (j:=j)).mp ((jC hR).mp this)
   ·exact b x hx
  ·rintro⟨a,b⟩
   refine⟨fun x hx=>?_,fun x hx=>b x (aw _ hx)⟩
   rcases List.mem_append.mp hx with hx | hx
   ·exact a x hx
   ·rw[List.mem_singleton.mp hx]
    exact (jC hR).mpr ((WJ hR a (i:=i) (j:=j)).mpr (b e aI))
 | far=>intro fs e;cases e
 | stuck=>intro fs e;cases e
noncomputable def Within(p w:List Nat):Prop:=∃ a b:List Nat,w=a ++ p ++ b
theorem W3{w p:List Nat}{q:Nat}(h:zy w (q:Int) p=true):Within p w:=by
 obtain⟨e,_⟩:=yR h
 exact⟨_,_,e.symm⟩
theorem Wa{w p:List Nat}(h:Within p w):∃ q:Nat,zy w (q:Int) p=true:=by
 obtain⟨a,b,rfl⟩:=h
 refine⟨a.length,?_⟩
 unfold zy
 refine decide_eq_true ⟨by lia,by simp only[au];lia,?_⟩
 rw[aW,aV,List.drop_left,List.take_left]
theorem XZ{ps:List zB}{w:List Nat}(hN:NeL ps)(h:zG w ps=none):∀ p ∈ ps,¬ Within p.1 w:=fun p hp hw=>by
 obtain⟨q,hq⟩:=Wa hw
 obtain⟨j,hj⟩:=List.mem_iff_getElem?.mp hp
 have hlt:=qK (hN p hp) hq
 have hs:stJ w ps q j=true:=by rw[jq hj];exact hq
 have:(j,q) ∈ xL w ps w.length:=usesK_mem.mpr ⟨hlt,hs⟩
 unfold zG at h
 rw[List.head?_eq_none_iff] at h
 rw[h] at this
 cases this
structure RL(k:Nat)(l:List Nat)(ns:List Int)(bs:List Ent):Prop where
 e:∀ e ∈ bs,EB l e
 lt:∀ e ∈ bs,zR k l ns e.2.1 e.1=true
theorem UA{k:Nat}{l:List Nat}{ns:List Int}{ps:List zB}{w:List Nat}{u:Nat × Nat}(G:OG l ns k)(hp:∀ p ∈ ps,zR k l ns p.2 p.1=true/\(∀ c ∈ p.1,c ∈ l)/\∀ c ∈ p.2,c ∈ l)(hw:∀ c ∈ w,c ∈ l)(h:zG w ps=some u):zR k l ns (Yz w ps u) w=true:=by
 obtain⟨p,h1,h2⟩:=xb h
 obtain⟨e1,_⟩:=yR h2
 obtain⟨p1,p2,p3⟩:=hp p (ac h1)
 unfold Yz xh
 rw[xR h1]
 have ha:∀ c ∈ w.take ((u.2:Int)).toNat,c ∈ l:=fun c hc=>hw c (bu hc)
 have hb:∀ c ∈ w.drop (((u.2:Int)).toNat+p.1.length),c ∈ l:=fun c hc=>hw c (cE hc)
 generalize w.take ((u.2:Int)).toNat=a at *
 generalize w.drop (((u.2:Int)).toNat+p.1.length)=b at *
 rw[<- e1]
 have ap:∀ x:List Nat,(∀ c ∈ x,c ∈ l)->∀ c ∈ a ++ x,c ∈ l:=fun x hx c hc=>(List.mem_append.mp hc).elim (ha c) (hx c)
 rw[(kH G hb (ap p.2 p3) (ap p.1 p2)).2,(kH G ha p3 p2).1]
 exact p1
theorem Qw{k:Nat}{l:List Nat}{ns:List Int}{ps:List zB}{w:List Nat}(G:OG l ns k)(hp:∀ p ∈ ps,zR k l ns p.2 p.1=true/\(∀ c ∈ p.1,c ∈ l)/\∀ c ∈ p.2,c ∈ l)(hw:∀ c ∈ w,c ∈ l):∀ j,wAt ps w j=w\/zR k l ns (wAt ps w j) w=true
 | 0=>.inl rfl
 | j+1=>by
  have ih:=Qw G hp hw j
  have hm:=vY hw (fun p hp'=>(hp p hp').2.2) j
  cases e:zG (wAt ps w j) ps with
  | none =>
   show XQ ps (wAt ps w j)=w\/zR k l ns (XQ ps (wAt ps w j)) w=true
   unfold XQ
   rw[e]
   exact ih
  | some u =>
   rw[wT e]
   have h:=UA G hp hm e
   rcases ih with h' | h'
   ·rw[h'] at h ⊢
    exact .inr h
   ·exact .inr (qz h h')
theorem RL.pairs{k:Nat}{l:List Nat}{ns:List Int}{bs:List Ent}(h:RL k l ns bs):∀ p ∈ zd bs,zR k l ns p.2 p.1=true/\(∀ c ∈ p.1,c ∈ l)/\∀ c ∈ p.2,c ∈ l:=fun p hp=>by
 unfold zd at hp
 obtain⟨e,he,rfl⟩:=List.mem_map.mp hp
 exact⟨h.lt e he,(h.e e he).ma,(h.e e he).mb⟩
theorem RL.ne{k:Nat}{l:List Nat}{ns:List Int}{bs:List Ent}(h:RL k l ns bs)(G:OG l ns k):NeL (zd bs):=fun p hp=>Wd G.nb (h.pairs p hp).1
theorem RL.snoc{k:Nat}{l:List Nat}{ns:List Int}{bs:List Ent}{d:Ent}(h:RL k l ns bs)(hd:EB l d)(hne:d.1≠d.2.1):RL k l ns (bs ++ [yu k l ns d]):=by
 refine⟨fun e he=>?_,fun e he=>?_⟩
 ·rcases List.mem_append.mp he with he | he
  ·exact h.e e he
  ·rw[List.mem_singleton.mp he]
   exact hd.rule
 ·rcases List.mem_append.mp he with he | he
  ·exact h.lt e he
  ·rw[List.mem_singleton.mp he]
   exact qp hd hne
theorem JX{k:Nat}{l:List Nat}{ns:List Int}{bs:List Ent}{e:Ent}{i j:Nat}(hB:RL k l ns bs)(hE:EB l e)(hF:¬ qW (yU bs e i j)):EB l (yU bs e i j):=by
 unfold qW at hF
 exact⟨by lia,by lia,by lia,vY hE.ma (fun p hp=>(hB.pairs p hp).2.2) i,vY hE.mb (fun p hp=>(hB.pairs p hp).2.2) j⟩
theorem XJ{k:Nat}{l:List Nat}{ns:List Int}{bs:List Ent}{e:Ent}{i j:Nat}(G:OG l ns k)(hB:RL k l ns bs)(hE:EB l e)(hlt:zR k l ns e.2.1 e.1=true)(h1:zW (zd bs) e.1 i)(h2:zW (zd bs) e.2.1 j)
  (hp1:(yu k l ns (yU bs e i j)).1=e.1) (hp2:(yu k l ns (yU bs e i j)).2.1=e.2.1):zG e.1 (zd bs)=none/\zG e.2.1 (zd bs)=none:=by
 unfold yu at hp1 hp2
 by_cases h:zR k l ns (yU bs e i j).2.1 (yU bs e i j).1=true
 ·rw[if_pos h] at hp1 hp2
  have a1:wAt (zd bs) e.1 i=e.1:=hp1
  have a2:wAt (zd bs) e.2.1 j=e.2.1:=hp2
  have b1:=h1.end_
  have b2:=h2.end_
  rw[a1] at b1
  rw[a2] at b2
  exact⟨b1,b2⟩
 ·rw[if_neg h] at hp1 hp2
  have a1:wAt (zd bs) e.2.1 j=e.1:=hp1
  rcases Qw G hB.pairs hE.mb j with h' | h'
  ·rw[a1] at h'
   rw[h',xB] at hlt
   cases hlt
  ·rw[a1] at h'
   rw[ZK h'] at hlt
   cases hlt
theorem ji{k:Nat}{l:List Nat}{ns:List Int}(G:OG l ns k){bs es:List Ent}{r:Option (List Ent)}(h:xx k l ns bs es r):∀ fs,r=some fs->RL k l ns bs->RL k l ns es->∃ gs,fs=bs ++ gs/\gs.length<=es.length/\RL k l ns fs /\
  (zd gs=zd es->∀ i e,es[i]? = some e->zG e.1 (zd (bs ++ gs.take i))=none/\zG e.2.1 (zd (bs ++ gs.take i))=none):=by
 induction h with
 | nil bs =>
  intro fs er hb he
  cases er
  exact⟨[],by simp,aq _,hb,fun _ i e h=>by simp at h⟩
 | @same bs es e i j r h1 h2 h3 h4 ih =>
  intro fs er hb he
  obtain⟨gs,g1,g2,g3,g4⟩:=ih fs er hb ⟨fun x hx=>he.e x (aw _ hx),fun x hx=>he.lt x (aw _ hx)⟩
  refine⟨gs,g1,by rw[aL];lia,g3,fun hp=>?_⟩
  have:=congrArg eY hp
  unfold zd at this
  rw[ag,ag,aL] at this
  lia
 | @new bs es e i j r h1 h2 h3 h4 h5 ih =>
  intro fs er hb he
  have hEe:=he.e e aI
  have hd:=JX hb hEe h4
  obtain⟨gs,g1,g2,g3,g4⟩:=ih fs er (hb.snoc hd h3) ⟨fun x hx=>he.e x (aw _ hx),fun x hx=>he.lt x (aw _ hx)⟩
  refine⟨yu k l ns (yU bs e i j)::gs,by rw[g1,aV];rfl,by rw[aL,aL];lia,g3,fun hp n x hx=>?_⟩
  unfold zd at hp
  rw[ax,ax] at hp
  injection hp with hp1 hp2
  have hp1a:=(Prod.ext_iff.mp hp1).1
  have hp1b:=(Prod.ext_iff.mp hp1).2
  cases n with
  | zero =>
   have e0:e=x:=by simpa using hx
   subst e0
   rw[bG,aU]
   exact XJ G hb hEe (he.lt _ aI) h1 h2 hp1a hp1b
  | succ n =>
   have:=g4 hp2 n x (by simpa using hx)
   rw[aV] at this
   rw[dC]
   exact this
 | far=>intro fs e;cases e
 | stuck=>intro fs e;cases e
theorem um{k:Nat}{l:List Nat}{ns:List Int}(G:OG l ns k){p w:List Nat}(hw:∀ c ∈ w,c ∈ l)(h:Within p w):p=w\/zR k l ns p w=true:=by
 obtain⟨a,b,rfl⟩:=h
 by_cases e:a ++ p ++ b=p
 ·exact .inl e.symm
 ·refine .inr (V7 G (fun c hc=>hw c ?_) (fun c hc=>hw c ?_) (fun c hc=>hw c ?_) e).1
  ·exact br _ (br _ hc)
  ·exact br _ (aB _ hc)
  ·exact aB _ hc
structure ThinL(k:Nat)(l:List Nat)(ns:List Int)(zs:List Ent):Prop where
 rl:RL k l ns zs
 up:∀(i j:Nat) (a b:Ent),zs[i]? = some a->zs[j]? = some b->i<j->zR k l ns a.1 b.1=true
 no1:∀(i j:Nat) (a b:Ent),zs[i]? = some a->zs[j]? = some b->i≠j->¬ Within b.1 a.1
 no2:∀(i j:Nat) (a b:Ent),zs[i]? = some a->zs[j]? = some b->¬ Within b.1 a.2.1
theorem JW{k:Nat}{l:List Nat}{ns:List Int}(G:OG l ns k){zs bs:List Ent}(hz:RL k l ns zs)(hs:zs.Pairwise fun a b=>Y9 k l ns b a=false)(h:xx k l ns [] zs (some bs))(hp:zd bs=zd zs):ThinL k l ns zs:=by
 obtain⟨gs,g1,g2,g3,g4⟩:=ji G h bs rfl ⟨fun e he=>(nomatch he),fun e he=>(nomatch he)⟩ hz
 rw[bT] at g1
 subst g1
 have irr:=g4 hp
 simp only[bT] at irr
 have early:∀(i j:Nat) (a b:Ent),zs[i]? = some a->zs[j]? = some b->j<i->¬ Within b.1 a.1/\¬ Within b.1 a.2.1:=fun i j a b ha hb hj=>by
  have hm:(b.1,b.2.1) ∈ zd (bs.take i):=by
   have e1:zd (bs.take i)=(zd zs).take i:=by
    rw[<- hp]
    unfold zd
    rw[List.map_take]
   rw[e1]
   refine List.mem_iff_getElem?.mpr ⟨j,?_⟩
   rw[cT hj]
   unfold zd
   rw[aE,hb]
   rfl
  have hN:NeL (zd (bs.take i)):=fun p hp'=>by
   refine (g3.ne G) p ?_
   unfold zd at hp' ⊢
   obtain⟨x,hx,rfl⟩:=List.mem_map.mp hp'
   exact List.mem_map.mpr ⟨x,bu hx,rfl⟩
  obtain⟨f1,f2⟩:=irr i a ha
  exact⟨XZ hN f1 _ hm,XZ hN f2 _ hm⟩
 have later:∀(i j:Nat) (a b:Ent),zs[i]? = some a->zs[j]? = some b->i<j->zR k l ns b.1 a.1=false:=fun i j a b ha hb hij=>by
  have hi:=(List.getElem?_eq_some_iff.mp ha)
  have hj:=(List.getElem?_eq_some_iff.mp hb)
  have:=List.pairwise_iff_getElem.mp hs i j hi.1 hj.1 hij
  rw[hi.2,hj.2] at this
  unfold Y9 at this
  by_cases e:b.1=a.1
  ·rw[e,xB]
  ·rw[if_neg e] at this
   exact this
 have memz:∀{i:Nat} {a:Ent},zs[i]? = some a->EB l a/\zR k l ns a.2.1 a.1=true:=fun {i a} ha=>⟨hz.e _ (ac ha),hz.lt _ (ac ha)⟩
 have up:∀(i j:Nat) (a b:Ent),zs[i]? = some a->zs[j]? = some b->i<j->zR k l ns a.1 b.1=true:=fun i j a b ha hb hij=>by
  have hne:a.1≠b.1:=fun e=>(early j i b a hb ha hij).1 ⟨[],[],by rw[e];simp⟩
  have t:=qh (k:=k) (ns:=ns) (memz ha).1.ma (memz hb).1.ma hne
  rw[later i j a b ha hb hij] at t
  simpa using t
 refine⟨hz,up,fun i j a b ha hb hij=>?_,fun i j a b ha hb hw=>?_⟩
 ·rcases Nat.lt_or_gt_of_ne hij with h1 | h1
  ·intro hw
   rcases um G (memz ha).1.ma hw with e | e
   ·have:=up i j a b ha hb h1
    rw[e,xB] at this
    cases this
   ·rw[later i j a b ha hb h1] at e
    cases e
  ·exact (early i j a b ha hb h1).1
 ·have hle:zR k l ns b.1 a.1=true:=by
   rcases um G (memz ha).1.mb hw with e | e
   ·rw[e]
    exact (memz ha).2
   ·exact qz e (memz ha).2
  rcases dP i j with h1 | h1 | h1
  ·rw[later i j a b ha hb h1] at hle
   cases hle
  ·subst h1
   rw[ha] at hb
   cases hb
   rw[xB] at hle
   cases hle
  ·exact (early i j a b ha hb h1).2 hw
theorem j2{ps:List zB}{w:List Nat}:∀{i:Nat},Xf ps w i->yt ps w (stS (sAt ps w i))=some (wAt ps w i)
 | 0,_=>rfl
 | i+1,h=>by
  have ih:=j2 (i:=i) fun j hj=>h j (by lia)
  have hne:=h i (by lia)
  cases e:zG (wAt ps w i) ps with
  | none=>exact absurd e hne
  | some u =>
   rw[YN,wT e,e]
   unfold stS at ih ⊢
   rw[aD]
   refine kG ih ?_
   obtain⟨p,h1,h2⟩:=xb e
   have hl:=(List.getElem?_eq_some_iff.mp h1).1
   show yF ps (wAt ps w i) ((u.1:Int),(u.2:Int),true)=_
   rw[y8 (by show (0:Int)<=(u.1:Int)/\(u.1:Int)<ps.length;lia)]
   have e2:ps.getD ((u.1:Int)).toNat ([],[])=p:=by rw[aW,ae,h1];rfl
   show (if zy (wAt ps w i) (u.2:Int) (sdl (ps.getD ((u.1:Int)).toNat ([],[])) true).1=true then _ else none)=_
   rw[e2,if_pos (show zy (wAt ps w i) (u.2:Int) (sdl p true).1=true from h2)]
   unfold Yz
   rw[xR h1]
   rfl
theorem Wr{rs:List zB}{k:Nat}{l:List Nat}{ns:List Int}{e:Ent}(h:EOk rs e):EOk rs (yu k l ns e):=by
 unfold yu
 split
 ·exact h
 ·exact vp h
theorem Jp{rs:List zB}{bs:List Ent}{e:Ent}{i j:Nat}(hb:∀ e ∈ bs,EOk rs e)(he:EOk rs e)(h1:zW (zd bs) e.1 i)(h2:zW (zd bs) e.2.1 j):EOk rs (yU bs e i j):=by
 have w1:=kn hb (vp (j2 h1.live))
 have w2:=kn hb (j2 h2.live)
 have he':yt rs e.1 e.2.2=some e.2.1:=he
 show yt rs (wAt (zd bs) e.1 i) (byL bs (yT (stS (sAt (zd bs) e.1 i))) ++ e.2.2 ++ byL bs (stS (sAt (zd bs) e.2.1 j)))=some (wAt (zd bs) e.2.1 j)
 rw[wk,wk,w1,bM,he',bM]
 exact w2
theorem Y7{rs:List zB}{k:Nat}{l:List Nat}{ns:List Int}{bs es:List Ent}{r:Option (List Ent)}(h:xx k l ns bs es r):∀ fs,r=some fs->(∀ e ∈ bs,EOk rs e)->(∀ e ∈ es,EOk rs e)->∀ e ∈ fs,EOk rs e:=by
 induction h with
 | nil bs=>intro fs er hb _;cases er;exact hb
 | @same bs es e i j r h1 h2 h3 h4 ih=>intro fs er hb he;exact ih fs er hb fun x hx=>he x (aw _ hx)
 | @new bs es e i j r h1 h2 h3 h4 h5 ih =>
  intro fs er hb he
  refine ih fs er (fun x hx=>?_) fun x hx=>he x (aw _ hx)
  rcases List.mem_append.mp hx with hx | hx
  ·exact hb x hx
  ·rw[List.mem_singleton.mp hx]
   exact Wr (Jp hb (he e aI) h1 h2)
 | far=>intro fs e;cases e
 | stuck=>intro fs e;cases e
theorem Y6{rs:List zB}{k:Nat}{l:List Nat}{ns:List Int}{es zs:List Ent}(h:Lined k l ns es zs)(he:∀ e ∈ es,EOk rs e):∀ e ∈ zs,EOk rs e:=fun e hz=>by
 have hm:=h.perm.mem_iff.mp hz
 unfold qZ at hm
 obtain⟨y,hy,rfl⟩:=List.mem_map.mp hm
 exact Wr (he y (List.mem_filter.mp hy).1)
theorem YY{k:Nat}{l:List Nat}{ns:List Int}{es zs:List Ent}(h:Lined k l ns es zs)(he:∀ e ∈ es,EB l e):RL k l ns zs:=by
 have key:∀ e ∈ zs,∃ y,EB l y/\y.1≠y.2.1/\e=yu k l ns y:=fun e hz=>by
  have hm:=h.perm.mem_iff.mp hz
  unfold qZ at hm
  obtain⟨y,hy,rfl⟩:=List.mem_map.mp hm
  obtain⟨h1,h2⟩:=List.mem_filter.mp hy
  exact⟨y,he y h1,by simpa using h2,rfl⟩
 refine⟨fun e hz=>?_,fun e hz=>?_⟩
 ·obtain⟨y,h1,_,rfl⟩:=key e hz
  exact h1.rule
 ·obtain⟨y,h1,h2,rfl⟩:=key e hz
  exact qp h1 h2
theorem UZ{k:Nat}{l:List Nat}{ns:List Int}(G:OG l ns k){zs bs:List Ent}(hz:RL k l ns zs)(h:xx k l ns [] zs (some bs)):RL k l ns bs:=by
 obtain⟨gs,g1,g2,g3,g4⟩:=ji G h bs rfl ⟨fun e he=>(nomatch he),fun e he=>(nomatch he)⟩ hz
 exact g3
theorem Yx{rs:List zB}{k n:Nat}{l:List Nat}{ns:List Int}(G:OG l ns k){es:List Ent}{r:Option (List Ent)}(h:ug k l ns n es r):∀ fs,r=some fs->(∀ e ∈ es,EB l e)->(∀ e ∈ es,EOk rs e)->(∀ e ∈ fs,EOk rs e)/\∃ zs,ThinL k l ns zs/\zd fs=zd zs:=by
 induction h with
 | out=>intro fs e;cases e
 | bad=>intro fs e;cases e
 | @done n es zs bs h1 h2 h3 =>
  intro fs er he ho
  cases er
  have hz:=YY h1 he
  exact⟨Y7 h2 bs rfl (fun e h=>(nomatch h)) (Y6 h1 ho),zs,JW G hz h1.srt h2 h3,h3⟩
 | @more n es zs bs r h1 h2 h3 h4 ih =>
  intro fs er he ho
  have hz:=YY h1 he
  exact ih fs er (UZ G hz h2).e (Y7 h2 bs rfl (fun e h=>(nomatch h)) (Y6 h1 ho))
noncomputable def rankF:KeyFam (Int × List Int):=⟨fun r=>[.int r.1,.lst (r.2.map L3.D.int)],fun a b=>if a.1=b.1 then ltI a.2 b.2 else decide (a.1<b.1),true,(0,[])⟩
theorem UN{x y:List Int}(h:ltI x y=true):ltI y x=false:=by
 by_cases e:x=y
 ·subst e
  rw[xn] at h
  cases h
 ·have:=wz e
  rw[h] at this
  simpa using this.symm
theorem QV{x y z:List Int}(h1:ltI y x=false)(h2:ltI z y=false):ltI z x=false:=by
 cases h:ltI z x with
 | false=>rfl
 | true =>
  by_cases e:y=x
  ·subst e
   rw[h2] at h
   cases h
  ·have h3:=wz e
   rw[h1] at h3
   have h4:ltI x y=true:=by simpa using h3.symm
   rw[u8 h h4] at h2
   cases h2
theorem rankF_ok:rankF.Ok where
 w:=⟨fun a b h=>by
   simp only[rankF] at h ⊢
   by_cases e:a.1=b.1
   ·rw[if_pos e] at h
    rw[if_pos e.symm]
    exact UN h
   ·rw[if_neg e] at h
    rw[if_neg (fun z=>e z.symm)]
    have:=of_decide_eq_true h
    exact decide_eq_false (by lia),
  fun a b c h1 h2=>by
   simp only[rankF] at h1 h2 ⊢
   by_cases e:b.1=a.1
   ·rw[if_pos e] at h1
    rw[e] at h2
    by_cases f:c.1=a.1
    ·rw[if_pos f] at h2 ⊢
     exact QV h1 h2
    ·rw[if_neg f] at h2 ⊢
     exact h2
   ·rw[if_neg e] at h1
    have h1':=of_decide_eq_false h1
    by_cases f:c.1=b.1
    ·rw[if_neg (by lia)]
     exact decide_eq_false (by lia)
    ·rw[if_neg f] at h2
     have h2':=of_decide_eq_false h2
     rw[if_neg (by lia)]
     exact decide_eq_false (by lia)⟩
 eq:=fun a b=>by
  have:=Z9 a.1 b.1 a.2 b.2
  simp only[ltD] at this
  exact this
 ok:=fun a b=>by simp only[rankF,jB,okD];exact⟨trivial,vw _ _,trivial⟩
 dp:=fun a=>by simp only[rankF,dpD,v0,jX];decide
 sh:=fun a=>⟨_,_,rfl,.inl ⟨rfl,_,rfl⟩⟩
noncomputable def Ka(k:Nat)(l:List Nat)(ns:List Int)(w:List Nat):Int × List Int:=(zt k l ns w,wX k l w)
theorem Ym{H:Hp}{d:L3.D}{v:V}:∀{ds:List L3.D} {vs:List V},Iss K H ds vs->Is K H d v->Iss K H (ds ++ [d]) (vs ++ [v])
 | [],vs,h,hv=>by
  simp only[Iss] at h
  subst h
  simp only[bT,Iss]
  exact⟨v,[],rfl,hv,rfl⟩
 | e::ds,vs,h,hv=>by
  simp only[Iss] at h
  obtain⟨x,r,rfl,hx,hr⟩:=h
  simp only[bt,Iss]
  exact⟨x,r ++ [v],rfl,hx,Ym hr hv⟩
theorem OrdAt.samT{T CO CR CW:Addr}{H H':Hp}{ps:Array Value}{o:Addr}{k:Nat}{l:List Nat}{ns:List Int}(h:OrdAt CO CR CW H o k l ns)(s:SamT T H H')(hT:H T=some (.tbl ps)):OrdAt CO CR CW H' o k l ns:=by
 obtain⟨dx,⟨h1,h2⟩ | ⟨h1,h2⟩ | ⟨h1,h2,w,h3,h4⟩⟩:=h
 ·exact⟨dx,.inl ⟨h1,s.at hT h2 fun _ z=>by cases z⟩⟩
 ·exact⟨dx,.inr (.inl ⟨h1,s.at hT h2 fun _ z=>by cases z⟩)⟩
 ·exact⟨dx,.inr (.inr ⟨h1,h2,w,s.at hT h3 (fun _ z=>by cases z),s.at hT h4 fun _ z=>by cases z⟩)⟩
theorem EnsA.samT{T:Addr}{H H':Hp}{ps:Array Value}(s:SamT T H H')(hT:H T=some (.tbl ps)):∀{es:List Ent} {vs:List V},EnsA K H es vs->EnsA K H' es vs
 | [],vs,h=>by simp only[EnsA] at h ⊢;exact h
 | e::es,vs,h=>by
  simp only[EnsA] at h ⊢
  obtain⟨v,r,e0,⟨p,s',e1,h1,h2⟩,h3⟩:=h
  exact⟨v,r,e0,⟨p,s',e1,s.seqT hT h1,h2.samT s hT⟩,EnsA.samT s hT h3⟩
theorem ZH{a b:Int × List Int}(h:a≠b):rankF.lt a b=!rankF.lt b a:=by
 simp only[rankF]
 by_cases e:a.1=b.1
 ·rw[if_pos e,if_pos e.symm]
  exact wz fun q=>h (Prod.ext e q)
 ·rw[if_neg e,if_neg fun q=>e q.symm]
  by_cases c:a.1<b.1
  ·rw[decide_eq_true c,decide_eq_false (by lia)]
   rfl
  ·rw[decide_eq_false c,decide_eq_true (by lia)]
   rfl
theorem VF(a b:Int × List Int):eqD (.tup (rankF.dec a)) (.tup (rankF.dec b))=decide (a=b):=by
 obtain⟨a1,a2⟩:=a
 obtain⟨b1,b2⟩:=b
 simp only[rankF,eqD,uU,ZD]
 by_cases h:a1=b1
 ·by_cases h2:a2=b2
  ·simp [h,h2]
  ·simp [h,h2]
 ·simp [h]
theorem YF(a b:Int × List Int):ltD (.tup (rankF.dec a)) (.tup (rankF.dec b))=rankF.lt a b:=by
 simp only[ltD]
 exact rankF_ok.eq a b
theorem Zv(a:Int × List Int):rankF.lt a a=false:=by
 simp only[rankF]
 rw[if_pos trivial]
 exact xn _
noncomputable def pairF:KeyFam ((Int × List Int) × (Int × List Int)):=⟨fun r=>[.tup (rankF.dec r.1),.tup (rankF.dec r.2)],fun a b=>if a.1=b.1 then rankF.lt a.2 b.2 else rankF.lt a.1 b.1,false,((0,[]),(0,[]))⟩
theorem uN(a b:(Int × List Int) × (Int × List Int)):pairF.lt a b=if a.1=b.1 then rankF.lt a.2 b.2 else rankF.lt a.1 b.1:=rfl
theorem VS:pairF.Ok where
 w:=⟨fun a b h=>by
   rw[uN] at h ⊢
   by_cases e:a.1=b.1
   ·rw[if_pos e] at h
    rw[if_pos e.symm]
    exact rankF_ok.w.asym _ _ h
   ·rw[if_neg e] at h
    rw[if_neg fun q=>e q.symm]
    exact rankF_ok.w.asym _ _ h,
  fun a b c h1 h2=>by
   rw[uN] at h1 h2 ⊢
   by_cases e:b.1=a.1
   ·rw[if_pos e] at h1
    rw[e] at h2
    by_cases f:c.1=a.1
    ·rw[if_pos f] at h2 ⊢
     exact rankF_ok.w.ntr _ _ _ h1 h2
    ·rw[if_neg f] at h2 ⊢
     exact h2
   ·rw[if_neg e] at h1
    by_cases g:c.1=b.1
    ·rw[g,if_neg e]
     exact h1
    ·rw[if_neg g] at h2
     by_cases f:c.1=a.1
     ·rw[f] at h2
      have:=ZH (a:=b.1) (b:=a.1) e
      rw[h1,h2] at this
      cases this
     ·rw[if_neg f]
      exact rankF_ok.w.ntr _ _ _ h1 h2⟩
 eq:=fun a b=>by
  show vV [.tup (rankF.dec a.1),.tup (rankF.dec a.2)] [.tup (rankF.dec b.1),.tup (rankF.dec b.2)]=_
  rw[uN,vV,VF,vV,VF,YF,YF,vV]
  by_cases e:a.1=b.1
  ·rw[if_pos (decide_eq_true e),if_pos e]
   by_cases f:a.2=b.2
   ·rw[if_pos (decide_eq_true f),f,Zv]
   ·rw[if_neg (by simpa using f)]
  ·rw[if_neg (by simpa using e),if_neg e]
 ok:=fun a b=>by
  show jB [.tup (rankF.dec a.1),.tup (rankF.dec a.2)] [.tup (rankF.dec b.1),.tup (rankF.dec b.2)]
  simp only[jB,okD]
  exact⟨rankF_ok.ok _ _,rankF_ok.ok _ _,trivial⟩
 dp:=fun a=>by simp only[pairF,rankF,dpD,v0,jX];decide
 sh:=fun a=>⟨_,_,rfl,.inr ⟨rfl,_,rfl⟩⟩
noncomputable def rkE(k:Nat)(l:List Nat)(ns:List Int)(e:Ent):(Int × List Int) × (Int × List Int):=(Ka k l ns e.1,Ka k l ns e.2.1)
theorem KD{k:Nat}{l:List Nat}{ns:List Int}{u v:List Nat}(hu:∀ c ∈ u,c ∈ l)(hv:∀ c ∈ v,c ∈ l):Ka k l ns u=Ka k l ns v ↔ u=v :=
 ⟨fun h=>YS hu hv (Prod.ext_iff.mp h).2,fun h=>by rw[h]⟩
theorem QU{k:Nat}{l:List Nat}{ns:List Int}{a b:Ent}(ha:EB l a)(hb:EB l b):pairF.lt (rkE k l ns a) (rkE k l ns b)=Y9 k l ns a b:=by
 rw[uN]
 unfold Y9
 have h:(rkE k l ns a).1=(rkE k l ns b).1 ↔ a.1=b.1:=KD ha.ma hb.ma
 by_cases e:a.1=b.1
 ·rw[if_pos (h.mpr e),if_pos e]
  rfl
 ·rw[if_neg fun q=>e (h.mp q),if_neg e]
  rfl
theorem ZA{α β:Type}(g:α->β){us ys:List β}(h:us.Perm ys):∀ ts:List α,us=ts.map g->∃ ts':List α,ts'.Perm ts/\ys=ts'.map g:=by
 induction h with
 | nil =>
  intro ts e
  exact⟨ts,List.Perm.refl _,e⟩
 | @cons x us ys _ ih =>
  intro ts e
  match ts,e with
  | t::ts,e =>
   rw[ax] at e
   injection e with e1 e2
   obtain⟨ts',p,rfl⟩:=ih ts e2
   exact⟨t::ts',p.cons t,by rw[e1];rfl⟩
 | swap x y us =>
  intro ts e
  match ts,e with
  | t::t2::ts,e =>
   rw[ax,ax] at e
   injection e with e1 e2
   injection e2 with e2 e3
   exact⟨t2::t::ts,List.Perm.swap t t2 ts,by rw[e1,e2,e3];rfl⟩
 | trans _ _ ih1 ih2 =>
  intro ts e
  obtain⟨ts',p1,e1⟩:=ih1 ts e
  obtain⟨ts'',p2,e2⟩:=ih2 ts' e1
  exact⟨ts'',p2.trans p1,e2⟩
theorem W1{H:Hp}:∀{es:List Ent} {vs:List V},EnsA K H es vs->∀ t ∈ es.zip vs,EnA K H t.1 t.2
 | [],_,_,t,ht=>by simp at ht
 | e::es,vs,h,t,ht=>by
  simp only[EnsA] at h
  obtain⟨v,r,rfl,h1,h2⟩:=h
  rw[cX] at ht
  rcases List.mem_cons.mp ht with rfl | ht
  ·exact h1
  ·exact W1 h2 t ht
theorem U8{H:Hp}:∀{ts:List (Ent × V)},(∀ t ∈ ts,EnA K H t.1 t.2)->EnsA K H (ts.map (·.1)) (ts.map (·.2))
 | [],_=>by simp only[aN,EnsA]
 | t::ts,h=>by
  simp only[ax,EnsA]
  exact⟨_,_,rfl,h t aI,U8 fun u hu=>h u (aw _ hu)⟩
theorem ZL{H:Hp}{k:Nat}{l:List Nat}{ns:List Int}{es:List Ent}{vs:List V}{ys:List (((Int × List Int) × (Int × List Int)) × V)}(hI:EnsA K H es vs)(hE:∀ e ∈ es,EB l e)(h1:ys.Perm ((es.map (rkE k l ns)).zip vs))(h2:ys.Pairwise fun p q=>pairF.lt q.1 p.1=false) :
  ∃ zs:List Ent,zs.Perm es/\zs.Pairwise (fun a b=>Y9 k l ns b a=false)/\EnsA K H zs (ys.map (·.2)):=by
 have hl:=hI.len
 have e0:(es.map (rkE k l ns)).zip vs=(es.zip vs).map fun t=>(rkE k l ns t.1,t.2):=by
  rw[List.zip_map_left]
  rfl
 obtain⟨ts,p,rfl⟩:=ZA (fun t:Ent × V=>(rkE k l ns t.1,t.2)) h1.symm (es.zip vs) e0
 have hm:∀ t ∈ ts,t.1 ∈ es:=fun t ht=>(cJ (show (t.1,t.2) ∈ es.zip vs from p.mem_iff.mp ht)).1
 refine⟨ts.map (·.1),?_,?_,?_⟩
 ·have:=p.map (·.1)
  rw[List.map_fst_zip (by lia)] at this
  exact this
 ·rw[List.pairwise_map] at h2 ⊢
  refine h2.imp_of_mem fun {a b} ha hb h=>?_
  rw[<- QU (hE _ (hm _ hb)) (hE _ (hm _ ha))]
  exact h
 ·have e1:(ts.map fun t=>(rkE k l ns t.1,t.2)).map (·.2)=ts.map (·.2):=by
   rw[dq]
   rfl
  rw[e1]
  exact U8 fun t ht=>W1 hI t (p.mem_iff.mp ht)
noncomputable def tbE(K:ot)(CO CR CW:Addr):TE:=QD (zN (zw (K6 CO CR CW) "rank" (fun _=>qw CO CR CW) [] E0 (yK 1) (zN (tOp (ub K) (yK 0) (tC (.int 0))) wq)) (zN (zw (K6 CO CR CW) "rank" (fun _=>qw CO CR CW) [] E0 (yK 1) (zN (tOp (ub K) (yK 0) (tC (.int 1))) wq)) wq))
theorem zaf{CO CR CW o p s:Addr}{k:Nat}{l:List Nat}{ns:List Int}{e:Ent}{H:Hp}{Q:VK}(hG:OG l ns k)(ho:OrdAt CO CR CW H o k l ns)(hE:EB l e)(hp:SqT K H p [.str (tx e.1),.str (tx e.2.1),.ref s])(q:∀(t:Addr) (H':Hp),Same H H'->Is K H' (.tup (pairF.dec (rkE k l ns e))) (.ref t)->Q (.ref t) H'):tbE K CO CR CW [some (.ref p),some (.ref o)] H Q:=by
 have s16:=yf
 obtain⟨C,dx,fs,hf,ho1,hn,_⟩:=ho.fam
 have h1:fs.lookup ("rank" : Str)=none:=hn _ (by decide) (by decide)
 unfold tbE
 repeat (first | rfl' | simp only[yq,zw,zH,yy,yw,zv])
 refine⟨C,hf,dx,fs,ho1,h1,_,hp,_,rfl,o,k,l,ns,e.1,rfl,ho,hG,by have:=hE.a;lia,hE.ma,fun p1 q1 H1 s1 hp1 hq1=>⟨C,hf,dx,fs,s1 _ _ ho1,h1,_,zk s1 hp,_,rfl,o,k,l,ns,e.2.1,rfl,ho.same s1,hG,by have:=hE.b;lia,hE.mb,fun p2 q2 H2 s2 hp2 hq2=>⟨by lia,fun t ht=>?_⟩⟩⟩
 refine q t _ (s1.trans (s2.trans (zf (o:=.tup [.ref p1,.ref p2]) ht))) ?_
 show Is K _ (.tup [.tup (rankF.dec (Ka k l ns e.1)),.tup (rankF.dec (Ka k l ns e.2.1))]) (.ref t)
 refine Is.tup ht ?_
 simp only[Iss]
 exact⟨_,_,rfl,vL (s2 _ _ hp1) (s2 _ _ hq1),_,_,rfl,vL hp2 hq2,rfl⟩
theorem QF{CO CR CW o:Addr}{k:Nat}{l:List Nat}{ns:List Int}{LA:Hp->Prop}{Qf:List V->Hp->Prop}(hG:OG l ns k)(hLA:∀ H H',LA H->Same H H'->LA H'):∀(es:List Ent) (vs acc:List V) (rs:List ((Int × List Int) × (Int × List Int))) (H:Hp),LA H->OrdAt CO CR CW H o k l ns->(∀ e ∈ es,EB l e)->EnsA K H es vs ->
  Iss K H (rs.map fun a=>.tup (pairF.dec a)) acc->(∀ acc' H',Same H H'->Iss K H' ((rs ++ es.map (rkE k l ns)).map fun a=>.tup (pairF.dec a)) acc'->Qf acc' H')->uj (fun x H Q=>LA H/\tbE K CO CR CW [some x,some (.ref o)] H Q) vs acc H Qf
 | [],vs,acc,rs,H,hL,ho,hw,hV,hI,h=>by
  simp only[EnsA] at hV
  subst hV
  exact h acc H (Same.refl _) (by simpa using hI)
 | e::es,vs,acc,rs,H,hL,ho,hw,hV,hI,h=>by
  have s16:=yf
  simp only[EnsA] at hV
  obtain⟨v,r,rfl,⟨p,s,rfl,hp,_⟩,hV⟩:=hV
  refine⟨hL,zaf hG ho (hw e aI) hp fun t H' s3 hIs=>?_⟩
  refine QF hG hLA es r (acc ++ [.ref t]) (rs ++ [rkE k l ns e]) _ (hLA _ _ hL s3) (ho.same s3) (fun x hx=>hw x (aw _ hx)) (hV.same s3) ?_ fun acc' H' s' hI'=>h acc' H' (s3.trans s') (by simpa using hI')
  rw[aD]
  exact Ym (Iss.same s3 _ _ hI) hIs
noncomputable def KZ:Expr->Pos
 | .Lambda _ _ _ p=>p
 | _=>default
noncomputable def zcl:List Stmt->Pos
 | _::.Return (some (.Call _ _ (k::_) _)) _::_=>KZ k.value
 | _=>default
noncomputable def lp:Pos:=zcl (zl yP)
noncomputable def lq:Str:="in_order.<locals>.<lambda>"
noncomputable def uB(K:ot)(CO CR CW T:Addr):Sp:=fun vs H Q _=>∃(o a:Addr) (k:Nat) (l:List Nat) (ns:List Int) (es:List Ent),vs=[.ref o,.ref a]/\OrdAt CO CR CW H o k l ns/\OG l ns k/\EnsL K H a es/\es.length<64/\(∀ e ∈ es,EB l e)/\TabOk H T lp lq /\
 ∀(D:Addr) (zs:List Ent) (H':Hp),SamT T H H'->TabOk H' T lp lq->H D=none->Lined k l ns es zs->EnsM K H' D zs->Q (.ref D) H'
theorem WK{CO CR CW T o a:Addr}{k:Nat}{l:List Nat}{ns:List Int}{es:List Ent}{H:Hp}{Q:VK}{E:XK}(h1:OrdAt CO CR CW H o k l ns)(h2:OG l ns k)(h3:EnsL K H a es)(h4:es.length<64)(h5:∀ e ∈ es,EB l e)(h6:TabOk H T lp lq)
  (h:∀(D:Addr) (zs:List Ent) (H':Hp),SamT T H H'->TabOk H' T lp lq->H D=none->Lined k l ns es zs->EnsM K H' D zs->Q (.ref D) H'):uB K CO CR CW T [.ref o,.ref a] H Q E:=⟨o,a,k,l,ns,es,rfl,h1,h2,h3,h4,h5,h6,h⟩
noncomputable abbrev Jo(mg:Str->Option Value):Prop:=mg "sorted" = none
theorem mw:zr ["order","entries","unlike"] ["order","entries"] (zb yP):=⟨rfl,rfl,rfl,by decide +kernel,rfl,by decide +kernel,by decide +kernel⟩
theorem Z6{f CO CR CW CC TB:Addr}{fd:FuncData}(B:Bt mg)(DRk:DR P w K mg base CO CR CW)(hsorted:Jo mg)(hCd:PySem.W.CodeHd base CC TB)(hBt:base.BuiltinsAt mg TB)(hgT:om≠TB)(F:Fun K "in_order" "in_order" yP f fd)(HC:fd.code=.ref CC)(lP:Df P w K mg base CX0 4 "as_rule" ["order","entry"] [] (xX K CO CR CW)):ye P w K mg base CX0 6 f fd ["order","entries"] (uB K CO CR CW TB):=by
 refine Q1 F HC mw (fun vs H Q E h=>?_) (fun A outer s H vs Q E hr h=>?_)
 ·obtain⟨o,a,k,l,ns,es,rfl,_⟩:=h
  rfl
 ·obtain⟨o,a,k,l,ns,es,rfl,ho,hG,hA,hz,hE,hTab,q⟩:=h
  refine⟨_,(zi (ZJ (i:=2) mw.nd rfl (Or.inl rfl) (Or.inl rfl) (own:=["entry"]) (caps:=["order"]) (ix:=[0]) (tt:=(tBl (tOp rNe (tOp (ub K) (yK 0) (tC (.int 0))) (tOp (ub K) (yK 0) (tC (.int 1)))))) (te:=(qv (xX K CO CR CW) [] E0 (zN (yK 1) (zN (yK 0) wq)))) rfl (zO (sc:=zb yP) rfl (by decide +kernel) (by decide +kernel) (by decide +kernel) rfl (by decide +kernel) (by decide +kernel) rfl) (yI (pv 1)) (fun _ _ _ _ _ _=>zA (i:=0) (show List.Nodup [_,_] by decide) rfl (Or.inl rfl)) (fun _ _ _ _ _ _=>(Vi (zE ZU (zp ix_tup (pv 0) zg (fun _ _=>rfl)) (zp ix_tup (pv 0) zg (fun _ _=>rfl)) (zJ _)))) (fun _ _ _ _ _ _=>(cl0 lP hr .nil rfl (za (pv 1) (za (pv 0) zc)))))
   (zh (zu (Ud (k:=2) (p:="entry") (y:="order") (iy:=0) (c:=s.heap.objs.size+1) (tb:=tbE K CO CR CW) VS ⟨rfl,rfl,rfl,by decide,rfl,rfl,by decide,by decide⟩ (hr.mono (by decide)) rfl hsorted PyProof.Rows.boot_sorted (za (pv 2) zc) rfl hCd hBt hgT rfl rfl (by intro _ _ _ _;exact rfl) rfl rfl rfl (fun s H f cv hr'=>yo (za (Kc DRk hr' (pv 1) (za (zp ix_tup (pv 0) zg (fun _ _=>rfl)) zc)) (za (Kc DRk hr' (pv 1) (za (zp ix_tup (pv 0) zg (fun _ _=>rfl)) zc)) zc))))))),?_⟩
  have s16:=yf
  obtain⟨xs,hX,hI⟩:=id hA
  have hxl:=hI.len
  have hEr:∀ e ∈ qZ k l ns es,EB l e:=fun e he=>by
   unfold qZ at he
   obtain⟨y,hy,rfl⟩:=List.mem_map.mp he
   exact (hE y (List.mem_filter.mp hy).1).rule
  have hrl:=Z0 k l ns es
  refine zj (fun σ H'=>Same H H'/\∃(D0:Addr) (acc:List V),H D0=none/\H' D0=some (.lst acc)/\EnsA K (ja D0 H') (qZ k l ns es) acc/\σ=[some (.ref o),some (.ref a),some (.ref D0)]) ?_ ?_
  ·repeat (first | rfl' | simp only[yq,zw,zH,yy,yw,zv])
   refine⟨⟨xs,hX⟩,fun D hD=>CompL.by (xs:=xs) (fun i acc H'=>Same H H'/\H' D=some (.lst acc)/\EnsA K (ja D H') (qZ k l ns (es.take i)) acc) ⟨zf hD,ze,by simp only[bG,qZ,cQ,aN,EnsA]⟩ (fun i acc H' _ h=>h.1.seq hX) ?_ ?_⟩
   ·rintro i x acc H' hx ⟨hs,hH,hA⟩
    have hi:=(List.getElem?_eq_some_iff.mp hx).1
    obtain⟨e,pe,se,hei,rfl,hqe,hse⟩:=hI.get hx
    have hEe:=hE e (ac hei)
    have hal:=hA.len
    have hal2:=Z0 k l ns (es.take i)
    rw[aJ] at hal2
    have hq1:=zk hs hqe
    have hraw:qZ k l ns (es.take (i+1))=qZ k l ns (es.take i) ++ if e.1=e.2.1 then [] else [yu k l ns e]:=by
     rw[zV hei,QI]
     congr 1
     unfold qZ
     by_cases hne:e.1=e.2.1
     ·rw[if_pos hne,ef (by simp [hne])]
      rfl
     ·rw[if_neg hne,ee (by simp [hne])]
      rfl
    repeat (first | rfl' | simp only[yq,zw,zH,yy,yw,zv])
    refine⟨xj,_,hq1,_,rfl,_,hq1,_,rfl,rfl,xa (fun hne=>?_) fun heq=>?_⟩
    ·have hne':¬ e.1=e.2.1:=fun z=>hne (by rw[z])
     rw[if_neg hne'] at hraw
     have fin:∀(v:V) (H2:Hp),Same H' H2->EnA K (ja D H2) (yu k l ns e) v->H2 D=some (.lst acc)/\acc.length<oq/\CNx xs.length i (fun i acc H'=>Same H H'/\H' D=some (.lst acc)/\EnsA K (ja D H') (qZ k l ns (es.take i)) acc) (acc ++ [v]) (upd H2 D (.lst (acc ++ [v]))):=fun v H2 s2 hv=>by
      refine⟨s2 _ _ hH,by lia,CNx.mk hi ⟨zK (hs.trans s2) hD,ze,?_⟩⟩
      rw[hraw]
      exact (hA.same ((wy s2).trans xD)).snoc (hv.same xD)
     refine jx (ho.same hs) hG hq1 (hse.same hs).is hEe (fun er H2 s2=>fin _ _ s2 ?_) fun p' s' H2 s2 hsn hp' hL=>fin _ _ s2 ?_
     ·rw[er]
      exact EnA.same ⟨pe,se,rfl,hqe,hse⟩ (WR hD (hs.trans s2))
     ·exact EnA.new (s2 _ _ hH) hp' hL (fun z=>by rw[z,hH] at hsn;cases hsn)
    ·have heq':e.1=e.2.1:=by
      have:=Classical.not_not.mp heq
      injection this with this
      exact jy this
     rw[if_pos heq',aU] at hraw
     exact CNx.mk hi ⟨hs,hH,by rw[hraw];exact hA⟩
   ·rintro acc H' ⟨hs,hH,hA⟩
    rw[hxl,aM] at hA
    exact⟨hs,D,hD,acc,hH,hA,rfl⟩
  rintro σ H1 ⟨s1,D0,acc,hD0,hH1,hI1,rfl⟩
  have hal:=hI1.len
  have hT1:=hTab.same s1
  obtain⟨ps1,hps1,_⟩:=id hT1
  repeat (first | rfl' | simp only[yq,zw,zH,yy,yw,zv])
  unfold Qq
  refine⟨_,rfl,hT1,fun f H2 hf hLA hT2 sT=>?_⟩
  obtain⟨ps2,hps2,_⟩:=id hT2
  have hI2:=EnsA.samT sT hps1 (hI1.same wA)
  refine⟨D0,acc,.ref o,rfl,SqL.of (sT.at hps1 hH1 fun _ z=>by cases z),by lia,rfl,?_⟩
  refine QF hG (fun A A' h1 h2=>LamAt.same h1 h2) (qZ k l ns es) acc [] [] H2 hLA ((ho.same s1).samT sT hps1) hEr hI2 (by simp only[aN,Iss]) fun acc' H3 s3 hI3=>⟨(qZ k l ns es).map (rkE k l ns),by simpa using hI3,fun ys p1 p2 D hD=>?_⟩
  obtain⟨zs,z1,z2,z3⟩:=ZL (hI2.same s3) hEr p1 p2
  have sD:=zf (o:=.lst (ys.map (·.2))) hD
  refine q D zs _ ((SamT.of s1).trans (sT.trans (SamT.of (s3.trans sD)))) (hT2.same (s3.trans sD)) ?_ ⟨z1,z2⟩ ⟨_,ze,z3.same sD⟩
  exact ((SamT.of s1).trans (sT.trans (SamT.of s3))).free (s3 _ _ hps2) hD
structure TMo(mg:Str->Option Value):Prop where
 u:∃ t,mg "MOST_USES_thinning" = some (.int 40 t)
 s:∃ t,mg "MOST_STEPS" = some (.int 240 t)
 d:∃ t,mg "MOST_SIDE_thinning" = some (.int 60 t)
 p:∃ t,mg "MOST_PASSES" = some (.int 20 t)
structure BG(k:Nat)(l:List Nat)(ns:List Int)(bs:List Ent):Prop where
 n:bs.length<64
 e:∀ e ∈ bs,EB l e
 lt:∀ e ∈ bs,zR k l ns e.2.1 e.1=true
theorem BG.ne{k:Nat}{l:List Nat}{ns:List Int}{bs:List Ent}(h:BG k l ns bs)(G:OG l ns k):NeL (zd bs):=fun p hp=>by
 unfold zd at hp
 obtain⟨e,he,rfl⟩:=List.mem_map.mp hp
 exact Wd G.nb (h.lt e he)
theorem BG.le{k:Nat}{l:List Nat}{ns:List Int}{bs:List Ent}(h:BG k l ns bs):∀ p ∈ zd bs,p.1.length<=60/\p.2.length<=60:=fun p hp=>by
 unfold zd at hp
 obtain⟨e,he,rfl⟩:=List.mem_map.mp hp
 exact⟨(h.e e he).a,(h.e e he).b⟩
theorem BG.mem{k:Nat}{l:List Nat}{ns:List Int}{bs:List Ent}(h:BG k l ns bs):∀ p ∈ zd bs,∀ c ∈ p.2,c ∈ l:=fun p hp=>by
 unfold zd at hp
 obtain⟨e,he,rfl⟩:=List.mem_map.mp hp
 exact (h.e e he).mb
theorem jt{CF a:Addr}{ps:List zB}{w:List Nat}{H:Hp}{Q:VK}{E:XK}(hA:LsA K H a (ps.map dR))(hN:NeL ps)(hpl:ps.length<=100)(hP:∀ p ∈ ps,p.1.length<=60/\p.2.length<=60)(hw:w.length<=60)
  (h1:∀(i:Nat) (p S:Addr) (H':Hp),zW ps w i->Same H H'->H' p=some (.tup [.ref S,.str (tx (wAt ps w i))])->LsA K H' S ((sAt ps w i).map dG)->H S=none->Q (.ref p) H') (h2:(∀ i,¬ zW ps w i)->∀ H',Same H H'->E (.ref CF) none H'):wL K CF [.ref a,.str (tx w),.int 40] H Q E:=by
 have hP':∀ p ∈ ps,p.1.length<=1000/\p.2.length<=1000:=fun p hp=>by
  have:=hP p hp
  lia
 have len:∀ j,j<=40->(wAt ps w j).length<=10000:=fun j hj=>by
  have:=qy (l:=w) (m:=60) hN (fun p hp=>(hP p hp).2) j
  lia
 rcases J3 ps w with ⟨i,hi⟩ | ⟨hL,hf⟩
 ·have hm:=hi.most
  exact⟨a,w,ps,40,i,rfl,hA,hN,hpl,hP',⟨hi.live,fun j hj=>len j (by lia),by lia⟩,.inl ⟨hi.end_,by lia,fun p S H' s' hp hL hS=>h1 i p S H' hi s' hp hL hS⟩⟩
 ·refine⟨a,w,ps,40,40,rfl,hA,hN,hpl,hP',⟨hL,fun j hj=>len j hj,by decide⟩,.inr ⟨hf,rfl,h2 fun i hi=>?_⟩⟩
  have hm:=hi.most
  by_cases e:i=40
  ·subst e
   exact hf hi.end_
  ·exact hL i (by lia) hi.end_
theorem Jf(us:List (Nat × Nat)):us.map dG=(stS us).map dSt:=by
 unfold stS
 rw[dq]
 rfl
theorem We(us:List (Nat × Nat)):(stS us).length=us.length:=by unfold stS;rw[ag]
theorem zad{ps:List zB}{w:List Nat}{i:Nat}(h:Xf ps w i):∀ u ∈ sAt ps w i,u.1<ps.length:=fun u hu=>by
 unfold sAt at hu
 obtain⟨j,hj,rfl⟩:=List.mem_map.mp hu
 cases e:zG (wAt ps w j) ps with
 | none=>exact absurd e (h j (List.mem_range.mp hj))
 | some v =>
  obtain⟨p,h1,_⟩:=xb e
  exact (List.getElem?_eq_some_iff.mp h1).1
theorem Qr{ps:List zB}{w:List Nat}{i:Nat}(h:Xf ps w i):∀ u ∈ stS (sAt ps w i),0<=u.1/\u.1<ps.length:=fun u hu=>by
 unfold stS at hu
 obtain⟨v,hv,rfl⟩:=List.mem_map.mp hu
 have:=zad h v hv
 show 0<=(v.1:Int)/\(v.1:Int)<ps.length
 lia
theorem JN{n:Int}{ss:List Stp}(h:∀ u ∈ ss,0<=u.1/\u.1<n):∀ u ∈ yT ss,0<=u.1/\u.1<n:=fun u hu=>by
 unfold yT at hu
 obtain⟨v,hv,rfl⟩:=List.mem_map.mp hu
 exact h v (List.mem_reverse.mp hv)
theorem K0{es:List Ent}(h:∀ e ∈ es,e.2.2.length<=600)(u:Stp):(Xb es u).length<=600:=by
 have hg:(es.getD u.1.toNat ([],[],[])).2.2.length<=600:=by
  rw[ae]
  cases e:es[u.1.toNat]? with
  | none=>exact aG _
  | some r=>exact h r (ac e)
 unfold Xb
 rw[Y5]
 split
 ·exact hg
 ·rw[xG]
  exact hg
theorem JG{es:List Ent}(h:∀ e ∈ es,e.2.2.length<=600):∀ us:List Stp,(byL es us).length<=us.length * 600
 | []=>by simp [byL]
 | u::us=>by
  have e:byL es (u::us)=Xb es u ++ byL es us:=by simp [byL]
  have h1:=K0 h u
  have h2:=JG h us
  rw[e,au,aL,dW]
  lia
noncomputable def jG(K:ot)(CF:Addr):Sp:=fun vs H Q E=>∃(a p s:Addr) (k:Nat) (l:List Nat) (ns:List Int) (bs:List Ent) (e:Ent),vs=[.ref a,.ref p]/\OG l ns k/\Is K H (.lst (bs.map dE)) (.ref a)/\BG k l ns bs/\SqT K H p [.str (tx e.1),.str (tx e.2.1),.ref s]/\LsA K H s (e.2.2.map dSt)/\EB l e /\
 (∀ i j H',zW (zd bs) e.1 i->zW (zd bs) e.2.1 j->wAt (zd bs) e.1 i=wAt (zd bs) e.2.1 j->Same H H'->Q .non H') /\
 (∀ i j p' s' H',zW (zd bs) e.1 i->zW (zd bs) e.2.1 j->wAt (zd bs) e.1 i≠wAt (zd bs) e.2.1 j->Same H H'->H s'=none->H' p'=some (.tup [.str (tx (yU bs e i j).1),.str (tx (yU bs e i j).2.1),.ref s'])->LsA K H' s' ((yU bs e i j).2.2.map dSt)->Q (.ref p') H') /\
 ((∀ i,¬ zW (zd bs) e.1 i)\/(∀ j,¬ zW (zd bs) e.2.1 j)->∀ H',Same H H'->E (.ref CF) none H')
theorem W0{a t:Addr}{es:List Ent}{us:List Stp}{H:Hp}{Q:VK}{E:XK}(h1:Is K H (.lst (es.map dE)) (.ref a))(h2:Is K H (.lst (us.map dSt)) (.ref t))(h3:us.length<=100)(h4:∀ e ∈ es,e.2.2.length<=600)(h5:∀ u ∈ us,0<=u.1/\u.1<es.length)(h:∀(D:Addr) (H':Hp),H D=none->Same H H'->LsA K H' D ((byL es us).map dSt)->Q (.ref D) H'):W8 K [.ref a,.ref t] H Q E:=⟨a,t,es,us,rfl,h1,h2,h3,h4,h5,h⟩
theorem fV:zr ["entries","entry","rules","one","other","steps"] ["entries","entry"] (zb ym):=⟨rfl,rfl,rfl,by decide +kernel,rfl,by decide +kernel,by decide +kernel⟩
theorem qN{f CF:Addr}{fd:FuncData}{iT:Tok}(B:Bt mg)(TM:TMo mg)(F:Fun K "brought_down" "brought_down" ym f fd)(fW:Df P w K mg base CX0 1 "pairs_of" ["entries"] [] (wm K))(mH:Df P w K mg base (CXx P w) 4 "gone" ["rules","word","most"] [] (wL K CF))(DD_gone:Df P w K mg base (CXx P w) 4 "gone" ["rules","word","most"] [.int 4000 iT] (wL K CF))(iR:Df P w K mg base CX0 2 "by_pacts" ["entries","steps"] [] (W8 K))(lN:Df P w K mg base CX0 1 "back" ["steps"] [] (vZ K)):ye P w K mg base (CXx P w) 5 f fd ["entries","entry"] (jG K CF):=by
 obtain⟨t9,g9⟩:=TM.u
 refine Fun.okX F fV (fun vs H Q E h=>?_) (fun cdv A outer s H vs Q E hr hx h=>?_)
 ·obtain⟨a,p,s,k,l,ns,bs,e,rfl,_⟩:=h
  rfl
 ·obtain⟨a,p,s,k,l,ns,bs,e,rfl,hG,hA,hB,hp,hs,hE,q1,q2,q3⟩:=h
  refine⟨_,(zi (zx (i:=2) fV.nd rfl (Or.inl rfl) (cl0 fW hr .nil rfl (za (pv 0) zc)))
   (zi (zx (i:=3) fV.nd rfl (Or.inl rfl) (clP hx mH hr .nil rfl (za (pv 2) (za (zp ix_tup (pv 1) zg (fun _ _=>rfl)) (za (yZ (v:=.int 40) rfl g9 ⟨t9,rfl⟩) zc)))))
   (zi (zx (i:=4) fV.nd rfl (Or.inl rfl) (clP hx mH hr .nil rfl (za (pv 2) (za (zp ix_tup (pv 1) zg (fun _ _=>rfl)) (za (yZ (v:=.int 40) rfl g9 ⟨t9,rfl⟩) zc)))))
   (zi (zZ (zE qo (zp ix_tup (pv 3) zg (fun _ _=>rfl)) (zp ix_tup (pv 4) zg (fun _ _=>rfl)) (zJ _))
    (zh (zu xO))
    zC)
   (zi (zx (i:=5) fV.nd rfl (Or.inl rfl) (zI Vp (zI Vp (cl0 iR hr .nil rfl (za (pv 0) (za (cl0 lN hr .nil rfl (za (zp ix_tup (pv 3) zg (fun _ _=>rfl)) zc)) zc))) (zp ix_tup (pv 1) zg (fun _ _=>rfl))) (cl0 iR hr .nil rfl (za (pv 0) (za (zp ix_tup (pv 4) zg (fun _ _=>rfl)) zc)))))
   (zh (zu (yo (za (zp ix_tup (pv 3) zg (fun _ _=>rfl)) (za (zp ix_tup (pv 4) zg (fun _ _=>rfl)) (za (pv 5) zc))))))))))),?_⟩
  have s16:=yf
  have hbl:=hB.n
  have hN:=hB.ne hG
  have hpl:=Ze bs
  have hst:∀ e ∈ bs,e.2.2.length<=600:=fun e he=>(hB.e e he).s
  have hst3:∀ e ∈ bs,e.2.2.length<=600:=fun e he=>by have:=hst e he;lia
  refine zj (fun σ H'=>Same H H'/\∃ R:Addr,LsA K H' R ((zd bs).map dR)/\σ=[some (.ref a),some (.ref p),some (.ref R),none,none,none]) ?_ ?_
  ·repeat (first | rfl' | simp only[yq,zw,zH,yy,yw,zv])
   exact wD hA (by lia) fun D H' _ s' hL=>⟨s',D,hL,rfl⟩
  rintro σ H1 ⟨s1,R,hR,rfl⟩
  refine zj (fun σ H'=>Same H1 H'/\∃(i:Nat),zW (zd bs) e.1 i/\∃ p1:Addr,(∃ S1:Addr,H' p1=some (.tup [.ref S1,.str (tx (wAt (zd bs) e.1 i))])/\LsA K H' S1 ((sAt (zd bs) e.1 i).map dG))/\σ=[some (.ref a),some (.ref p),some (.ref R),some (.ref p1),none,none]) ?_ ?_
  ·repeat (first | rfl' | simp only[yq,zw,zH,yy,yw,zv])
   refine⟨_,zk s1 hp,_,rfl,jt hR hN (by lia) hB.le hE.a (fun i p1 S1 H' hi s' hp1 hL _=>⟨s',i,hi,p1,⟨S1,hp1,hL⟩,rfl⟩) fun hno H' s'=>q3 (.inl hno) H' (s1.trans s')⟩
  rintro σ H2 ⟨s2,i,hi,p1,⟨S1,hp1,hS1⟩,rfl⟩
  have s12:=s1.trans s2
  refine zj (fun σ H'=>Same H2 H'/\∃(j:Nat),zW (zd bs) e.2.1 j/\∃ p2:Addr,(∃ S2:Addr,H' p2=some (.tup [.ref S2,.str (tx (wAt (zd bs) e.2.1 j))])/\LsA K H' S2 ((sAt (zd bs) e.2.1 j).map dG))/\σ=[some (.ref a),some (.ref p),some (.ref R),some (.ref p1),some (.ref p2),none]) ?_ ?_
  ·repeat (first | rfl' | simp only[yq,zw,zH,yy,yw,zv])
   refine⟨_,zk s12 hp,_,rfl,jt (hR.same s2) hN (by lia) hB.le hE.b (fun j p2 S2 H' hj s' hp2 hL _=>⟨s',j,hj,p2,⟨S2,hp2,hL⟩,rfl⟩) fun hno H' s'=>q3 (.inr hno) H' (s12.trans s')⟩
  rintro σ H3 ⟨s3,j,hj,p2,⟨S2,hp2,hS2⟩,rfl⟩
  have s13:=s12.trans s3
  have hp1':=s3 _ _ hp1
  have hS1':=hS1.same s3
  refine zj (fun σ H'=>H'=H3/\wAt (zd bs) e.1 i≠wAt (zd bs) e.2.1 j/\σ=[some (.ref a),some (.ref p),some (.ref R),some (.ref p1),some (.ref p2),none]) ?_ ?_
  ·repeat (first | rfl' | simp only[yq,zw,zH,yy,yw,zv])
   refine⟨_,SqT.of hp1',_,rfl,_,SqT.of hp2,_,rfl,rfl,xa (fun h=>?_) fun h=>?_⟩
   ·exact q1 i j H3 hi hj (jy (by injection h)) s13
   ·exact fun z=>h (by rw[z])
  rintro σ H4 ⟨rfl,hne,rfl⟩
  have him:=hi.most
  have hjm:=hj.most
  have hl1:(stS (sAt (zd bs) e.1 i)).length=i:=by rw[We,Z4]
  have hl2:(stS (sAt (zd bs) e.2.1 j)).length=j:=by rw[We,Z4]
  rw[Jf] at hS1' hS2
  have hA4:=Is.same s13 _ _ hA
  have hb1:=JG hst (yT (stS (sAt (zd bs) e.1 i)))
  have hb2:=JG hst (stS (sAt (zd bs) e.2.1 j))
  rw[xG,hl1] at hb1
  rw[hl2] at hb2
  have hes:=hE.s
  refine zj (fun σ H'=>Same H4 H'/\∃ S:Addr,H4 S=none/\LsA K H' S ((yU bs e i j).2.2.map dSt)/\σ=[some (.ref a),some (.ref p),some (.ref R),some (.ref p1),some (.ref p2),some (.ref S)]) ?_ ?_
  ·repeat (first | rfl' | simp only[yq,zw,zH,yy,yw,zv])
   refine⟨_,SqT.of hp1',_,rfl,jW hS1'.is (by lia) fun B1 G1 _ t1 hB1=>W0 (Is.same t1 _ _ hA4) hB1.is (by rw[xG];lia) hst3 (by rw[<- hpl];exact JN (Qr hi.live)) fun C1 G2 hC1n t2 hC1=>?_⟩
   have t12:=t1.trans t2
   obtain⟨c1,hc1,ic1⟩:=id hC1
   obtain⟨es0,hs0,is0⟩:=hs.same (s13.trans t12)
   have lc1:=ic1.len
   have ls0:=is0.len
   rw[ag] at lc1 ls0
   refine⟨_,zk (s13.trans t12) hp,_,rfl,C1,rfl,s,rfl,c1,hc1,es0,hs0,by lia,fun M hM=>?_⟩
   have t3:=zf (o:=.lst (c1 ++ es0)) hM
   have t13:=t12.trans t3
   refine⟨_,SqT.of (t13 _ _ hp2),_,rfl,W0 (Is.same t13 _ _ hA4) (hS2.same t13).is (by lia) hst3 (by rw[<- hpl];exact Qr hj.live) fun C2 G3 hC2n t4 hC2=>?_⟩
   obtain⟨c2,hc2,ic2⟩:=id hC2
   have lc2:=ic2.len
   rw[ag] at lc2
   refine⟨C2,rfl,c1 ++ es0,t4 _ _ ze,c2,hc2,by rw[au];lia,fun S hS=>?_⟩
   have t5:=zf (o:=.lst (c1 ++ es0 ++ c2)) hS
   refine⟨t13.trans (t4.trans t5),S,(t13.trans t4).free hS,⟨_,ze,?_⟩,rfl⟩
   show Iss K _ ((byL bs (yT (stS (sAt (zd bs) e.1 i))) ++ e.2.2 ++ byL bs (stS (sAt (zd bs) e.2.1 j))).map dSt) _
   rw[aD,aD]
   exact Iss.append (Iss.append (Iss.same (t3.trans (t4.trans t5)) _ _ ic1) (Iss.same (t3.trans (t4.trans t5)) _ _ is0)) (Iss.same t5 _ _ ic2)
  rintro σ H5 ⟨s5,S,hSn,hS,rfl⟩
  repeat (first | rfl' | simp only[yq,zw,zH,yy,yw,zv])
  refine⟨_,SqT.of (s5 _ _ hp1'),_,rfl,_,SqT.of (s5 _ _ hp2),_,rfl,by lia,fun t ht=>?_⟩
  have st:=zf (o:=.tup [.str (tx (wAt (zd bs) e.1 i)),.str (tx (wAt (zd bs) e.2.1 j)),.ref S]) ht
  exact q2 i j t S _ hi hj hne (s13.trans (s5.trans st)) (s13.free hSn) ze (hS.same st)
noncomputable def vj(K:ot)(CF:Addr):Sp:=fun vs H Q E=>∃(p s:Addr) (e:Ent),vs=[.ref p]/\SqT K H p [.str (tx e.1),.str (tx e.2.1),.ref s]/\Is K H (.lst (e.2.2.map dSt)) (.ref s)/\e.1.length<=10000/\e.2.1.length<=10000/\(¬ qW e->Q .non H)/\(qW e->E (.ref CF) none H)
theorem Xt{CF p s:Addr}{e:Ent}{H:Hp}{Q:VK}{E:XK}(h1:SqT K H p [.str (tx e.1),.str (tx e.2.1),.ref s])(h2:Is K H (.lst (e.2.2.map dSt)) (.ref s))(h3:e.1.length<=10000)(h4:e.2.1.length<=10000)(h5:¬ qW e->Q .non H)(h6:qW e->E (.ref CF) none H):vj K CF [.ref p] H Q E:=⟨p,s,e,rfl,h1,h2,h3,h4,h5,h6⟩
theorem uw:zr ["entry"] ["entry"] (zb yc):=⟨rfl,rfl,rfl,by decide +kernel,rfl,by decide +kernel,by decide +kernel⟩
theorem ur{f CF:Addr}{fd:FuncData}(B:Bt mg)(T:Kd K mg CF)(TM:TMo mg)(F:Fun K "refuse_beyond" "refuse_beyond" yc f fd) : ye P w K mg base (CXx P w) 1 f fd ["entry"] (vj K CF):=by
 obtain⟨⟨t9,g9⟩,⟨t8,g8⟩⟩:=And.intro TM.s TM.d
 refine Fun.okX F uw (fun vs H Q E h=>?_) (fun cdv A outer s H vs Q E hr hx h=>?_)
 ·obtain⟨p,s,e,rfl,_⟩:=h
  rfl
 ·obtain⟨p,s,e,rfl,hp,hs,ha,hb,q1,q2⟩:=h
  refine⟨_,(zi (zZ (zE op_gt (zm yb rfl B.len ay (za (zp ix_tup (pv 0) zg (fun _ _=>rfl)) zc)) (yZ (v:=.int 240) rfl g9 ⟨t9,rfl⟩) (zJ _))
    (zh (yS hx rfl T.xi.toXC T.ini rfl T.g (za xy zc)))
    zC)
   (zh (zZ (zE op_gt (zm (WW rfl) rfl B.max uQ (za (zm yb rfl B.len ay (za (zp ix_tup (pv 0) zg (fun _ _=>rfl)) zc)) (za (zm yb rfl B.len ay (za (zp ix_tup (pv 0) zg (fun _ _=>rfl)) zc)) zc))) (yZ (v:=.int 60) rfl g8 ⟨t8,rfl⟩) (zJ _))
    (zh (yS hx rfl T.xi.toXC T.ini rfl T.g (za xy zc)))
    zC))),?_⟩
  have s16:=yf
  simp only[Is] at hs
  obtain⟨_,zs,e0,hZ,hI⟩:=hs
  cases e0
  have hzl:=hI.len
  rw[ag] at hzl
  refine zj (fun σ H'=>H'=H/\e.2.2.length<=240/\σ=[some (.ref p)]) ?_ ?_
  ·repeat (first | rfl' | simp only[yq,zw,zH,yy,yw,zv])
   refine⟨_,hp,_,rfl,_,.inl ⟨_,hZ,rfl⟩,xa (fun h=>⟨by lia,q2 (.inl (by lia))⟩) fun h=>by lia⟩
  rintro σ H1 ⟨rfl,h1,rfl⟩
  repeat (first | rfl' | simp only[yq,zw,zH,yy,yw,zv])
  refine⟨_,hp,_,rfl,_,⟨by rw[zQ];lia,rfl⟩,_,hp,_,rfl,_,⟨by rw[zQ];lia,rfl⟩,?_⟩
  rw[zQ,zQ]
  refine xa (fun h=>⟨by lia,q2 ?_⟩) fun h=>q1 ?_
  ·unfold qW
   split at h <;> lia
  ·unfold qW
   split at h <;> lia
theorem VV{k:Nat}{l:List Nat}{ns:List Int}{bs:List Ent}{e:Ent}{i j:Nat}(hB:BG k l ns bs)(hE:EB l e)(hF:¬ qW (yU bs e i j)):EB l (yU bs e i j):=by
 unfold qW at hF
 exact⟨by lia,by lia,by lia,vY hE.ma hB.mem i,vY hE.mb hB.mem j⟩
theorem BG.snoc{k:Nat}{l:List Nat}{ns:List Int}{bs:List Ent}{d:Ent}(h:BG k l ns bs)(hn:bs.length+1<64)(hd:EB l d)(hne:d.1≠d.2.1):BG k l ns (bs ++ [yu k l ns d]):=by
 refine⟨by rw[au];exact hn,fun e he=>?_,fun e he=>?_⟩
 ·rcases List.mem_append.mp he with he | he
  ·exact h.e e he
  ·rw[List.mem_singleton.mp he]
   exact hd.rule
 ·rcases List.mem_append.mp he with he | he
  ·exact h.lt e he
  ·rw[List.mem_singleton.mp he]
   exact qp hd hne
theorem UE{CF a p s:Addr}{k:Nat}{l:List Nat}{ns:List Int}{bs:List Ent}{e:Ent}{H:Hp}{Q:VK}{E:XK}(h1:OG l ns k)(h2:Is K H (.lst (bs.map dE)) (.ref a))(h3:BG k l ns bs)(h4:SqT K H p [.str (tx e.1),.str (tx e.2.1),.ref s])(h5:LsA K H s (e.2.2.map dSt))(h6:EB l e)
  (q1:∀ i j H',zW (zd bs) e.1 i->zW (zd bs) e.2.1 j->wAt (zd bs) e.1 i=wAt (zd bs) e.2.1 j->Same H H'->Q .non H')
  (q2:∀ i j p' s' H',zW (zd bs) e.1 i->zW (zd bs) e.2.1 j->wAt (zd bs) e.1 i≠wAt (zd bs) e.2.1 j->Same H H'->H s'=none->H' p'=some (.tup [.str (tx (yU bs e i j).1),.str (tx (yU bs e i j).2.1),.ref s'])->LsA K H' s' ((yU bs e i j).2.2.map dSt)->Q (.ref p') H')
  (q3:(∀ i,¬ zW (zd bs) e.1 i)\/(∀ j,¬ zW (zd bs) e.2.1 j)->∀ H',Same H H'->E (.ref CF) none H'):jG K CF [.ref a,.ref p] H Q E:=⟨a,p,s,k,l,ns,bs,e,rfl,h1,h2,h3,h4,h5,h6,q1,q2,q3⟩
theorem Uh{k:Nat}{l:List Nat}{ns:List Int}{bs:List Ent}{e:Ent}{i j:Nat}(hB:BG k l ns bs)(hG:OG l ns k)(hE:EB l e)(hi:i<=40)(hj:j<=40):(yU bs e i j).1.length<=10000/\(yU bs e i j).2.1.length<=10000:=by
 have h1:=qy (l:=e.1) (m:=60) (hB.ne hG) (fun p hp=>(hB.le p hp).2) i
 have h2:=qy (l:=e.2.1) (m:=60) (hB.ne hG) (fun p hp=>(hB.le p hp).2) j
 have h3:=hE.a
 have h4:=hE.b
 show (wAt (zd bs) e.1 i).length<=10000/\(wAt (zd bs) e.2.1 j).length<=10000
 lia
noncomputable def uJ(K:ot)(CO CR CW CF:Addr):Sp:=fun vs H Q E=>∃(o a:Addr) (k:Nat) (l:List Nat) (ns:List Int) (zs:List Ent),vs=[.ref o,.ref a]/\OrdAt CO CR CW H o k l ns/\OG l ns k/\EnsL K H a zs/\zs.length<64/\(∀ e ∈ zs,EB l e) /\
 (∀(bs:List Ent) (D:Addr) (H':Hp),xx k l ns [] zs (some bs)->BG k l ns bs->Same H H'->H D=none->EnsM K H' D bs->Q (.ref D) H')/\(xx k l ns [] zs none->∀ H',Same H H'->E (.ref CF) none H')
theorem WE{CO CR CW CF o a:Addr}{k:Nat}{l:List Nat}{ns:List Int}{zs:List Ent}{H:Hp}{Q:VK}{E:XK}(h1:OrdAt CO CR CW H o k l ns)(h2:OG l ns k)(h3:EnsL K H a zs)(h4:zs.length<64)(h5:∀ e ∈ zs,EB l e)
  (q1:∀(bs:List Ent) (D:Addr) (H':Hp),xx k l ns [] zs (some bs)->BG k l ns bs->Same H H'->H D=none->EnsM K H' D bs->Q (.ref D) H') (q2:xx k l ns [] zs none->∀ H',Same H H'->E (.ref CF) none H'):uJ K CO CR CW CF [.ref o,.ref a] H Q E:=⟨o,a,k,l,ns,zs,rfl,h1,h2,h3,h4,h5,q1,q2⟩
noncomputable def zbD(K:ot)(H1 H':Hp)(bs:List Ent)(e:Ent)(v:V):Prop:=∃ i j,zW (zd bs) e.1 i/\zW (zd bs) e.2.1 j/\((wAt (zd bs) e.1 i=wAt (zd bs) e.2.1 j/\v=.non) \/
 (wAt (zd bs) e.1 i≠wAt (zd bs) e.2.1 j/\∃ p s:Addr,v=.ref p/\H1 s=none/\H' p=some (.tup [.str (tx (yU bs e i j).1),.str (tx (yU bs e i j).2.1),.ref s])/\LsA K H' s ((yU bs e i j).2.2.map dSt)))
noncomputable def zbk(K:ot)(H:Hp)(D:Addr)(k:Nat)(l:List Nat)(ns:List Int)(zs:List Ent)(i:Nat)(H':Hp):Prop:=∃(bs:List Ent) (acc:List V),Same H H'/\H' D=some (.lst acc)/\EnsA K (ja D H') bs acc/\BG k l ns bs/\bs.length<=i/\∀ r,xx k l ns bs (zs.drop i) r->xx k l ns [] zs r
theorem gK:zr ["order","entries","built","entry","lower"] ["order","entries"] (zb yL):=⟨rfl,rfl,rfl,by decide +kernel,rfl,by decide +kernel,by decide +kernel⟩
theorem kh{f CO CR CW CF:Addr}{fd:FuncData}(B:Bt mg)(F:Fun K "built_anew" "built_anew" yL f fd)(mS:Df P w K mg base (CXx P w) 5 "brought_down" ["entries","entry"] [] (jG K CF))(mI:Df P w K mg base (CXx P w) 1 "refuse_beyond" ["entry"] [] (vj K CF))(lP:Df P w K mg base CX0 4 "as_rule" ["order","entry"] [] (xX K CO CR CW)):ye P w K mg base (CXx P w) 6 f fd ["order","entries"] (uJ K CO CR CW CF):=by
 refine Fun.okX F gK (fun vs H Q E h=>?_) (fun cdv A outer s H vs Q E hr hx h=>?_)
 ·obtain⟨o,a,k,l,ns,zs,rfl,_⟩:=h
  rfl
 ·obtain⟨o,a,k,l,ns,zs,rfl,ho,hG,hA,hz,hE,q1,q2⟩:=h
  refine⟨_,(zi (zx (i:=2) gK.nd rfl (Or.inl rfl) (ue zc))
   (zi (yV PassesOwn.leaving rfl (yI (pv 1)) (zA (i:=3) gK.nd rfl (Or.inl rfl))
    (zi (zx (i:=4) gK.nd rfl (Or.inl rfl) (clP hx mS hr .nil rfl (za (pv 2) (za (pv 3) zc))))
    (zh (zZ (zE op_notN' (pv 4) xO (zJ _))
     (zi (vJ (clP hx mI hr .nil rfl (za (pv 4) zc)))
     (zh (vJ (qF cq cY cZ wx (pv 2) (za (cl0 lP hr .nil rfl (za (pv 0) (za (pv 4) zc))) zc)))))
     zC))))
   (zh (zu (pv 2))))),?_⟩
  have s16:=yf
  obtain⟨xs,hX,hI⟩:=id hA
  have hxl:=hI.len
  refine zj (fun σ H'=>Same H H'/\∃ D:Addr,H D=none/\H' D=some (.lst [])/\σ=[some (.ref o),some (.ref a),some (.ref D),none,none]) ?_ ?_
  ·repeat (first | rfl' | simp only[yq,zw,zH,yy,yw,zv])
   exact⟨by lia,fun p hp=>⟨zf hp,p,hp,ze,rfl⟩⟩
  rintro σ H0 ⟨s0,D,hD,hD0,rfl⟩
  refine zj (fun σ H'=>zbk K H D k l ns zs zs.length H'/\∃(v3 v4:Option V),σ=[some (.ref o),some (.ref a),some (.ref D),v3,v4]) ?_ ?_
  ·repeat (first | rfl' | simp only[yq,zw,zH,yy,yw,zv])
   refine⟨⟨_,s0.seq hX⟩,ForL.by (xs:=xs) (fun i σ H'=>zbk K H D k l ns zs i H'/\∃(v3 v4:Option V),σ=[some (.ref o),some (.ref a),some (.ref D),v3,v4]) ⟨⟨[],[],s0,hD0,by simp only[EnsA],⟨by decide,fun e he=>(nomatch he),fun e he=>(nomatch he)⟩,aq _,fun r h=>h⟩,none,none,rfl⟩ (fun i σ H' _ ⟨⟨_,_,h,_⟩,_⟩=>h.seq hX) ?_ ?_⟩
   ·rintro i x σ H1 hx ⟨⟨bs,acc,s1,hH1,hI1,hB,hbi,hr⟩,v3,v4,rfl⟩
    have hix:=(List.getElem?_eq_some_iff.mp hx).1
    obtain⟨e,pe,se,hei,rfl,hqe,hse⟩:=hI.get hx
    have hEe:=hE e (ac hei)
    have hdrop:zs.drop i=e::zs.drop (i+1):=by
     obtain⟨h1,h2⟩:=List.getElem?_eq_some_iff.mp hei
     rw[aR h1,h2]
    rw[hdrop] at hr
    have hal:=hI1.len
    have hbn:=hB.n
    have hIs:Is K H1 (.lst (bs.map dE)) (.ref D):=by
     simp only[Is]
     exact⟨D,acc,rfl,SqL.of hH1,(hI1.same wA).iss⟩
    simp only[xK,bp,bo]
    refine zj (fun σ H'=>Same H1 H'/\∃ v:V,zbD K H1 H' bs e v/\σ=[some (.ref o),some (.ref a),some (.ref D),some (.ref pe),some (v)]) ?_ ?_
    ·repeat (first | rfl' | simp only[yq,zw,zH,yy,yw,zv])
     exact UE hG hIs hB (zk s1 hqe) (hse.same s1) hEe (fun i' j' H' a1 a2 a3 s'=>⟨s',i',j',a1,a2,.inl ⟨a3,rfl⟩⟩) (fun i' j' p' s' H' a1 a2 a3 t' a4 a5 a6=>⟨t',i',j',a1,a2,.inr ⟨a3,p',s',rfl,a4,a5,a6⟩⟩) fun h H' s'=>q2 (hr _ (.stuck h)) H' (s1.trans s')
    rintro σ H2 ⟨s2,v,⟨i',j',hi',hj',hc⟩,rfl⟩
    rcases hc with ⟨hw,rfl⟩ | ⟨hw,p',s',rfl,hsn,hp',hL'⟩
    ·repeat (first | rfl' | simp only[yq,zw,zH,yy,yw,zv])
     exact⟨bs,acc,s1.trans s2,s2 _ _ hH1,hI1.same (wy s2),hB,by lia,fun r h=>hr r (.same hi' hj' hw h)⟩
    ·repeat (first | rfl' | simp only[yq,zw,zH,yy,yw,zv])
     rw[if_pos not_false]
     have hdl:=Uh hB hG hEe hi'.most hj'.most
     refine zj (fun σ H'=>H'=H2/\¬ qW (yU bs e i' j')/\σ=[some (.ref o),some (.ref a),some (.ref D),some (.ref pe),some (.ref p')]) ?_ ?_
     ·repeat (first | rfl' | simp only[yq,zw,zH,yy,yw,zv])
      exact Xt (SqT.of hp') hL'.is hdl.1 hdl.2 (fun h=>⟨rfl,h⟩) fun h=>q2 (hr _ (.far hi' hj' hw h)) H2 (s1.trans s2)
     rintro σ H3 ⟨rfl,hF,rfl⟩
     have hEd:=VV hB hEe hF
     have hH3:=s2 _ _ hH1
     have fin:∀(v:V) (H4:Hp),Same H3 H4->EnA K (ja D H4) (yu k l ns (yU bs e i' j')) v->zbk K H D k l ns zs (i+1) (upd H4 D (.lst (acc ++ [v]))):=fun v H4 s4 hv=>by
      refine⟨bs ++ [yu k l ns (yU bs e i' j')],acc ++ [v],zK (s1.trans (s2.trans s4)) hD,ze,?_,hB.snoc (by lia) hEd hw,by rw[au];show bs.length+1<=i+1;lia,fun r h=>hr r (.new hi' hj' hw hF h)⟩
      exact (hI1.same ((wy (s2.trans s4)).trans xD)).snoc (hv.same xD)
     repeat (first | rfl' | simp only[yq,zw,zH,yy,yw,zv])
     refine⟨.inl ⟨_,SqL.of hH3⟩,jx (ho.same (s1.trans s2)) hG (SqT.of hp') hL'.is hEd (fun er H4 s4=>⟨acc,s4 _ _ hH3,by lia,fin _ _ s4 ?_⟩) fun p2 t2 H4 s4 htn hp2 hL2=>⟨acc,s4 _ _ hH3,by lia,fin _ _ s4 ?_⟩⟩
     ·rw[er]
      exact EnA.new (s4 _ _ hH3) (s4 _ _ hp') (hL'.same s4) (fun z=>by rw[z,hH1] at hsn;cases hsn)
     ·exact EnA.new (s4 _ _ hH3) hp2 hL2 (fun z=>by rw[z,hH3] at htn;cases htn)
   ·rintro σ H' ⟨h,v3,v4,rfl⟩
    rw[hxl] at h
    exact⟨h,_,_,rfl⟩
  rintro σ H2 ⟨⟨bs,acc,s2,hH2,hI2,hB,hbi,hr⟩,v3,v4,rfl⟩
  rw[dX] at hr
  repeat (first | rfl' | simp only[yq,zw,zH,yy,yw,zv])
  exact q1 bs D H2 (hr _ (.nil bs)) hB s2 hD ⟨acc,hH2,hI2.same wA⟩
theorem Uj(rs ss:List zB):uU (rs.map dR) (ss.map dR)=decide (rs=ss):=by
 induction rs generalizing ss with
 | nil=>cases ss with
  | nil=>simp [uU]
  | cons s ss=>simp [uU]
 | cons r rs ih=>cases ss with
  | nil=>simp [uU]
  | cons s ss =>
   rw[ax,ax,uU,ih]
   have h:eqD (dR r) (dR s)=decide (r=s):=by
    obtain⟨a,b⟩:=r
    obtain⟨c,d⟩:=s
    have e1:∀ x y:List Nat,eqD (dS x) (dS y)=decide (x=y):=fun x y=>by
     have:eqD (dS x) (dS y)=decide (tx x=tx y):=by simp only[dS,eqD];rfl
     rw[this]
     exact decide_eq_decide.mpr ⟨jy,fun h=>by rw[h]⟩
    simp only[dR,eqD,uU,e1]
    by_cases h1:a=c <;> by_cases h2:b=d <;> simp [h1,h2]
   rw[h]
   by_cases h1:r=s <;> by_cases h2:rs=ss <;> simp [h1,h2]
theorem Lined.eb{k:Nat}{l:List Nat}{ns:List Int}{es zs:List Ent}(h:Lined k l ns es zs)(hE:∀ e ∈ es,EB l e):∀ e ∈ zs,EB l e:=fun e he=>by
 have hm:=h.perm.mem_iff.mp he
 unfold qZ at hm
 obtain⟨y,hy,rfl⟩:=List.mem_map.mp hm
 exact (hE y (List.mem_filter.mp hy).1).rule
theorem Lined.len{k:Nat}{l:List Nat}{ns:List Int}{es zs:List Ent}(h:Lined k l ns es zs):zs.length<=es.length:=by
 rw[h.perm.length_eq]
 exact Z0 k l ns es
noncomputable def Z7(K:ot)(CO CR CW T CF:Addr):Sp:=fun vs H Q E=>∃(o a:Addr) (k:Nat) (l:List Nat) (ns:List Int) (es:List Ent),vs=[.ref o,.ref a]/\OrdAt CO CR CW H o k l ns/\OG l ns k/\EnsL K H a es/\es.length<64/\(∀ e ∈ es,EB l e)/\TabOk H T lp lq /\
 (∀(bs:List Ent) (D:Addr) (H':Hp),ug k l ns 20 es (some bs)->BG k l ns bs->SamT T H H'->TabOk H' T lp lq->EnsM K H' D bs->Q (.ref D) H')/\(ug k l ns 20 es none->∀ H',SamT T H H'->TabOk H' T lp lq->E (.ref CF) none H')
noncomputable def zcb(K:ot)(T:Addr)(H:Hp)(k:Nat)(l:List Nat)(ns:List Int)(es:List Ent)(n:Nat)(H':Hp)(b:Addr):Prop:=∃ fs:List Ent,SamT T H H'/\TabOk H' T lp lq/\(∀ r,ug k l ns n fs r->ug k l ns 20 es r)/\EnsL K H' b fs/\fs.length<64/\∀ e ∈ fs,EB l e
theorem iS:zr ["order","entries","turn","lined_up"] ["order","entries"] (zb xS):=⟨rfl,rfl,rfl,by decide +kernel,rfl,by decide +kernel,by decide +kernel⟩
theorem Xd{f CO CR CW TB CF:Addr}{fd:FuncData}(B:Bt mg)(T:Kd K mg CF)(TM:TMo mg)(F:Fun K "thinned" "thinned" xS f fd)(nH:Df P w K mg base CX0 6 "in_order" ["order","entries"] [] (uB K CO CR CW TB))(nk:Df P w K mg base (CXx P w) 6 "built_anew" ["order","entries"] [] (uJ K CO CR CW CF))(fW:Df P w K mg base CX0 1 "pairs_of" ["entries"] [] (wm K)):ye P w K mg base (CXx P w) 7 f fd ["order","entries"] (Z7 K CO CR CW TB CF):=by
 obtain⟨t9,g9⟩:=TM.p
 refine Fun.okX F iS (fun vs H Q E h=>?_) (fun cdv A outer s H vs Q E hr hx h=>?_)
 ·obtain⟨o,a,k,l,ns,es,rfl,_⟩:=h
  rfl
 ·obtain⟨o,a,k,l,ns,es,rfl,ho,hG,hA,hz,hE,hTab,q1,q2⟩:=h
  refine⟨_,(zi (yV PassesOwn.leaving rfl (x0 rfl B.range (za (yZ (v:=.int 20) rfl g9 ⟨t9,rfl⟩) zc)) (zA (i:=2) iS.nd rfl (Or.inl rfl))
    (zi (zx (i:=3) iS.nd rfl (Or.inl rfl) (cl0 nH hr .nil rfl (za (pv 0) (za (pv 1) zc))))
    (zi (zx (i:=1) iS.nd rfl (Or.inl rfl) (clP hx nk hr .nil rfl (za (pv 0) (za (pv 3) zc))))
    (zh (zZ (zE (Kr (qG hr)) (cl0 fW hr .nil rfl (za (pv 1) zc)) (cl0 fW hr .nil rfl (za (pv 3) zc)) (zJ _))
     (zh (zu (pv 1)))
     zC)))))
   (zh (yS hx rfl T.xi.toXC T.ini rfl T.g (za xy zc)))),?_⟩
  have s16:=yf
  obtain⟨ps0,hps0,_⟩:=id hTab
  refine zj (fun σ H'=>∃ b:Addr,zcb K TB H k l ns es 0 H' b) ?_ ?_
  ·repeat (first | rfl' | simp only[yq,zw,zH,yy,yw,zv])
   refine⟨by lia,by lia,ForR.by (fun i σ H'=>∃(b:Addr) (v2 v3:Option V),zcb K TB H k l ns es (20 - i) H' b/\σ=[some (.ref o),some (.ref b),v2,v3]) ⟨a,none,none,⟨es,SamT.of (Same.refl _),hTab,fun r h=>h,hA,hz,hE⟩,rfl⟩ ?_ ?_⟩
   ·rintro i σ H1 hi ⟨b,v2,v3,⟨fs,s1,hT1,hr,hF,hfl,hFE⟩,rfl⟩
    have ho1:=ho.samT s1 hps0
    have hi20:i<20:=hi
    obtain⟨n,hn⟩:∃ n,20 - i=n+1:=⟨20 - i - 1,by lia⟩
    rw[hn] at hr
    simp only[xK,bp,bo]
    refine zj (fun σ H'=>SamT TB H1 H'/\TabOk H' TB lp lq/\∃(z:Addr),(∃ zs:List Ent,Lined k l ns fs zs/\EnsM K H' z zs)/\∃ v2,σ=[some (.ref o),some (.ref b),v2,some (.ref z)]) ?_ ?_
    ·repeat (first | rfl' | simp only[yq,zw,zH,yy,yw,zv])
     exact WK ho1 hG hF hfl hFE hT1 fun D zs H' s' hT' _ hLn hM=>⟨s',hT',D,⟨zs,hLn,hM⟩,rfl⟩
    rintro σ H2 ⟨s2,hT2,z,⟨zs,hLn,hZ⟩,v2,rfl⟩
    have s12:=s1.trans s2
    have ho2:=ho.samT s12 hps0
    have hzE:=hLn.eb hFE
    have hzl:=hLn.len
    refine zj (fun σ H'=>Same H2 H'/\∃(c:Addr),(∃ bs:List Ent,xx k l ns [] zs (some bs)/\BG k l ns bs/\EnsM K H' c bs)/\σ=[some (.ref o),some (.ref c),v2,some (.ref z)]) ?_ ?_
    ·repeat (first | rfl' | simp only[yq,zw,zH,yy,yw,zv])
     exact WE ho2 hG hZ.l (by lia) hzE (fun bs D H' hb hB s' _ hM=>⟨s',D,⟨bs,hb,hB,hM⟩,rfl⟩) fun hb H' s'=>q2 (hr _ (.bad hLn hb)) H' (s12.trans (SamT.of s')) (hT2.same s')
    rintro σ H3 ⟨s3,c,⟨bs,hb,hB,hM⟩,rfl⟩
    have hbn:=hB.n
    repeat (first | rfl' | simp only[yq,zw,zH,yy,yw,zv])
    refine wD hM.l.is (by lia) fun P1 H4 _ s4 hP1=>wD ((hZ.same s3).same s4).l.is (by lia) fun P2 H5 _ s5 hP2=>Jt (.inl ⟨(hP1.same s5).is,hP2.is⟩) (bY (Qv _) (by decide)) ?_
    rw[Uj]
    have s45:=s4.trans s5
    have s15:=s12.trans (SamT.of (s3.trans s45))
    have hT5:=hT2.same (s3.trans s45)
    refine⟨_,rfl,xa (fun h=>?_) fun h=>?_⟩
    ·exact q1 bs c H5 (hr _ (.done hLn hb (of_decide_eq_true h))) hB s15 hT5 (hM.same s45)
    ·have e:20 - (i+1)=n:=by lia
     rw[e]
     exact⟨bs,s15,hT5,fun r h'=>hr r (.more hLn hb (fun z=>h (decide_eq_true z)) h'),(hM.same s45).l,hbn,hB.e⟩
   ·rintro σ H' ⟨b,v2,v3,h,rfl⟩
    exact⟨b,h⟩
  rintro σ H2 ⟨b,fs,s2,hT2,hr,_⟩
  repeat (first | rfl' | simp only[yq,zw,zH,yy,yw,zv])
  exact⟨by lia,q2 (hr _ (.out fs)) H2 s2 hT2⟩
noncomputable def qA(K:ot):Sp:=fun vs H Q _=>∃(a:Addr) (ns:List Int) (k:Int),vs=[.ref a,.int k]/\SqL K H a (ns.map V.int)/\(∀ z ∈ ns,qd z)/\0<=k/\∀ c:Int,qd c->Q (.int c) H
theorem uV{a:Addr}{ns:List Int}{k:Int}{H:Hp}{Q:VK}{E:XK}(hS:SqL K H a (ns.map V.int))(hB:∀ z ∈ ns,qd z)(hk:0<=k)(h:∀ c:Int,qd c->Q (.int c) H):qA K [.ref a,.int k] H Q E:=⟨a,ns,k,rfl,hS,hB,hk,h⟩
theorem Ja:zr ["_law_script","_law_k"] ["_law_script","_law_k"] (zb jr):=⟨rfl,rfl,rfl,by decide +kernel,rfl,by decide +kernel,by decide +kernel⟩
theorem QQ{f:Addr}{fd:FuncData}(B:Bt mg)(F:Fun K "_law_cell" "_law_cell" jr f fd) : ye P w K mg base CX0 1 f fd ["_law_script","_law_k"] (qA K):=by
 refine F.ok Ja (fun vs H Q E h=>?_) (fun cdv A outer s H vs Q E hr h=>?_)
 ·obtain⟨a,ns,k,rfl,_⟩:=h
  rfl
 ·obtain⟨a,ns,k,rfl,hS,hB,hk,q⟩:=h
  refine⟨_,(zM (zZ (zE U1 (pv 1) (zm yb rfl B.len ay (za (pv 0) zc)) (zJ _))
    (zh (zu (zp VC (pv 0) (pv 1) (fun _ _=>rfl))))
    zC)
   (zh (zu zg))),?_⟩
  have s16:=yf
  rfl'
  refine⟨_,.inl ⟨_,hS,rfl⟩,xa (fun c=>?_) (fun c=>q 0 (by unfold qd;decide))⟩
  obtain⟨v,h1,h2⟩:=jp hk c
  rw[aE] at h2
  obtain⟨z,hz,rfl⟩:=Option.map_eq_some_iff.mp h2
  exact .inl ⟨_,hS,_,h1,q z (hB z (ac hz))⟩
noncomputable def wM:Sp:=fun vs H Q _=>∃(c t:Int),vs=[.int c,.int t]/\qd c/\0<=t/\t<=100/\∀ z:Int,0<=z->Q (.int z) H
theorem vo{c t:Int}{H:Hp}{Q:VK}{E:XK}(hc:qd c)(h0:0<=t)(h1:t<=100)(q:∀ z:Int,0<=z->Q (.int z) H):wM [.int c,.int t] H Q E:=⟨c,t,rfl,hc,h0,h1,q⟩
theorem nq:zr ["_law_cell_here","_law_turn","_law_number"] ["_law_cell_here","_law_turn"] (zb vN):=⟨rfl,rfl,rfl,by decide +kernel,rfl,by decide +kernel,by decide +kernel⟩
theorem U0{f:Addr}{fd:FuncData}(B:Bt mg)(F:Fun K "_law_mixed" "_law_mixed" vN f fd) : ye P w K mg base CX0 1 f fd ["_law_cell_here","_law_turn"] wM:=by
 refine F.ok nq (fun vs H Q E h=>?_) (fun cdv A outer s H vs Q E hr h=>?_)
 ·obtain⟨c,t,rfl,_⟩:=h
  rfl
 ·obtain⟨c,t,rfl,hc,h0,h1,q⟩:=h
  refine⟨_,(zM (zx (i:=2) nq.nd rfl (Or.inl rfl) (zI op_add (zI op_mul (zI Uu (pv 0) (pv 0)) zg) (zI op_mul (zI op_mul (pv 0) zg) (zI op_add (pv 1) zg))))
   (zh (zu (zI wI (zI wJ (zI op_add (pv 2) (zI op_mul (pv 1) zg)) zg) zg)))),?_⟩
  have s16:=yf
  rfl'
  exact⟨hc,hc,.inr ⟨by decide,by decide⟩,.inr ⟨by decide,by decide⟩,.inr ⟨by lia,by lia⟩,.inr ⟨by decide,by decide⟩,by decide,⟨by decide,by decide⟩,q _ (Int.ediv_nonneg (bJ _ (by decide)) (by decide))⟩
noncomputable def wQ:Sp:=fun vs H Q _=>∃ c m:Int,vs=[.int c,.int m]/\qd c/\0<=m/\m<=26/\∀ l:List Nat,(l.length:Int)=m->l.Nodup->Ya l->Q (.str (tx l)) H
theorem ZR{c m:Int}{H:Hp}{Q:VK}{E:XK}(h:qd c)(h0:0<=m)(h1:m<=26)(q:∀ l:List Nat,(l.length:Int)=m->l.Nodup->Ya l->Q (.str (tx l)) H):wQ [.int c,.int m] H Q E:=⟨c,m,rfl,h,h0,h1,q⟩
noncomputable def zbU(c m:Int)(i:Nat)(σ:L2.St):Prop:=∃(left found:List Nat) (number:Int) (v5 v6:Option V),found.length=i/\(found ++ left).Perm alpha/\σ=[some (.int c),some (.int m),some (.str (tx left)),some (.int number),some (.str (tx found)),v5,v6]
theorem fL:zr ["_law_cell_here","_law_many","_law_left","_law_number","_law_letters_here","_law_k","_law_at"] ["_law_cell_here","_law_many"] (zb xQ):=⟨rfl,rfl,rfl,by decide +kernel,rfl,by decide +kernel,by decide +kernel⟩
theorem XA{f:Addr}{fd:FuncData}(B:Bt mg)(F:Fun K "_law_letters" "_law_letters" xQ f fd)(iU:Df P w K mg base CX0 1 "_law_mixed" ["_law_cell_here","_law_turn"] [] wM):ye P w K mg base CX0 2 f fd ["_law_cell_here","_law_many"] wQ:=by
 refine F.ok fL (fun vs H Q E h=>?_) (fun cdv A outer s H vs Q E hr h=>?_)
 ·obtain⟨c,m,rfl,_⟩:=h
  rfl
 ·obtain⟨c,m,rfl,hc,h0,h1,q⟩:=h
  refine⟨_,(zi (zx (i:=2) fL.nd rfl (Or.inl rfl) xy)
   (zi (zx (i:=3) fL.nd rfl (Or.inl rfl) (cl0 iU hr .nil rfl (za (pv 0) (za zg zc))))
   (zi (zx (i:=4) fL.nd rfl (Or.inl rfl) xy)
   (zi (yV PassesOwn.never rfl (x0 rfl B.range (za (pv 1) zc)) (zA (i:=5) fL.nd rfl (Or.inl rfl))
    (zi (zx (i:=6) fL.nd rfl (Or.inl rfl) (zI wJ (pv 3) (zm yb rfl B.len ay (za (pv 2) zc))))
    (zi (zx (i:=3) fL.nd rfl (Or.inl rfl) (zI wI (pv 3) (zm yb rfl B.len ay (za (pv 2) zc))))
    (zi (zx (i:=4) fL.nd rfl (Or.inl rfl) (zI op_add_str (pv 4) (zp Vo (pv 2) (pv 6) (fun _ _=>rfl))))
    (zh (zx (i:=2) fL.nd rfl (Or.inl rfl) (zI op_add_str (yA wB (pv 2) xN (yC (pv 6))) (yA wB (pv 2) (yC (zI op_add (pv 6) zg)) xN))))))))
   (zh (zu (pv 4))))))),?_⟩
  have s16:=yf
  have ha:alpha.length=26:=rfl
  refine zj (fun σ H'=>H'=H/\σ=[some (.int c),some (.int m),some (.str (tx alpha)),none,none,none,none]) ?_ ?_
  ·rfl'
   exact WD
  rintro σ H1 ⟨rfl,rfl⟩
  refine zj (fun σ H'=>H'=H1/\∃ z:Int,σ=[some (.int c),some (.int m),some (.str (tx alpha)),some (.int z),none,none,none]) ?_ ?_
  ·rfl'
   exact vo hc (by decide) (by decide) fun z _=>⟨rfl,z,rfl⟩
  rintro σ H2 ⟨rfl,z,rfl⟩
  refine zj (fun σ H'=>H'=H2/\σ=[some (.int c),some (.int m),some (.str (tx alpha)),some (.int z),some (.str (tx [])),none,none]) ?_ ?_
  ·rfl'
   rfl
  rintro σ H3 ⟨rfl,rfl⟩
  refine zj (fun σ H'=>H'=H3/\zbU c m m.toNat σ) ?_ ?_
  ·rfl'
   refine⟨by lia,by lia,ForR.by (fun i σ H'=>H'=H3/\zbU c m i σ) ⟨rfl,alpha,[],z,none,none,rfl,.refl _,rfl⟩ ?_ fun σ H' h=>h⟩
   rintro i σ H' hi ⟨rfl,left,found,number,v5,v6,hf,hp,rfl⟩
   have hpl:=hp.length_eq
   rw[au] at hpl
   have hl:left.length+i=26:=by lia
   have hm0:=bJ number (b:=(left.length:Int)) (by lia)
   have hm1:=bE number (b:=(left.length:Int)) (by lia)
   generalize hz:number % (left.length:Int)=at_ at hm0 hm1
   obtain⟨v,e1,e2⟩:=jp hm0 hm1
   simp only[xK,bp,bo]
   refine zj (fun σ H''=>H''=H'/\∃ v5,σ=[some (.int c),some (.int m),some (.str (tx left)),some (.int number),some (.str (tx found)),v5,some (.int at_)]) ?_ ?_
   ·rfl'
    exact⟨by lia,by lia,hz⟩
   rintro σ G1 ⟨rfl,v5',rfl⟩
   refine zj (fun σ H''=>H''=G1/\∃ n v5,σ=[some (.int c),some (.int m),some (.str (tx left)),some (.int n),some (.str (tx found)),v5,some (.int at_)]) ?_ ?_
   ·rfl'
    exact⟨by lia,⟨by lia,by lia⟩⟩
   rintro σ G2 ⟨rfl,n,v5',rfl⟩
   refine zj (fun σ H''=>H''=G2/\∃ v5,σ=[some (.int c),some (.int m),some (.str (tx left)),some (.int n),some (.str (tx (found ++ [v]))),v5,some (.int at_)]) ?_ ?_
   ·rfl'
    exact⟨by lia,v,e1,by lia,rfl⟩
   rintro σ G3 ⟨rfl,v5',rfl⟩
   have hc1:=ww left none (some at_)
   have hc2:=ww left (some (at_+1)) none
   rfl'
   refine⟨by lia,by lia,by lia,_,_,_,_,_,by rw[au,hf];rfl,?_,rfl⟩
   rw[kJ _ hm0,uK _ (by lia),aV]
   have e3:(at_+1).toNat=at_.toNat+1:=by lia
   rw[e3]
   exact ((Wh e2).append_left found).trans hp
  rintro σ H4 ⟨rfl,left,found,number,v5,v6,hf,hp,rfl⟩
  rfl'
  have hnd:(found ++ left).Nodup:=hp.nodup_iff.mpr (by decide)
  refine q found (by lia) (List.nodup_append.mp hnd).1 fun c hc=>?_
  have h:c ∈ alpha:=hp.mem_iff.mp (br _ hc)
  exact (by decide:∀ c ∈ alpha,97<=c/\c<=122) c h
noncomputable def jV:Sp:=fun vs H Q _=>∃(ls:List Nat) (c m:Int),vs=[.int c,.str (tx ls),.int m]/\0<=c/\1<=ls.length/\ls.length<=26/\0<=m/\m<=100/\∀ l:List Nat,(l.length:Int)<=m->(∀ x ∈ l,x ∈ ls)->Q (.str (tx l)) H
theorem YX{ls:List Nat}{c m:Int}{H:Hp}{Q:VK}{E:XK}(h0:0<=c)(h1:1<=ls.length)(h2:ls.length<=26)(h3:0<=m)(h4:m<=100)(h:∀ l:List Nat,(l.length:Int)<=m->(∀ x ∈ l,x ∈ ls)->Q (.str (tx l)) H):jV [.int c,.str (tx ls),.int m] H Q E :=
 ⟨ls,c,m,rfl,h0,h1,h2,h3,h4,h⟩
theorem im:zr ["_law_number","_law_letters_here","_law_most","_law_size","_law_word_here","_law_k"] ["_law_number","_law_letters_here","_law_most"] (zb jm):=⟨rfl,rfl,rfl,by decide +kernel,rfl,by decide +kernel,by decide +kernel⟩
theorem QS{f:Addr}{fd:FuncData}(B:Bt mg)(F:Fun K "_law_word" "_law_word" jm f fd) : ye P w K mg base CX0 1 f fd ["_law_number","_law_letters_here","_law_most"] jV:=by
 refine F.ok im (fun vs H Q E h=>?_) (fun cdv A outer s H vs Q E hr h=>?_)
 ·obtain⟨ls,c,m,rfl,_⟩:=h
  rfl
 ·obtain⟨ls,c,m,rfl,h0,h1,h2,h3,h4,q⟩:=h
  refine⟨_,(zM (zx (i:=3) im.nd rfl (Or.inl rfl) (zI wJ (pv 0) (zI op_add (pv 2) zg)))
   (zM (zx (i:=0) im.nd rfl (Or.inl rfl) (zI wI (pv 0) (zI op_add (pv 2) zg)))
   (zM (zx (i:=4) im.nd rfl (Or.inl rfl) xy)
   (zM (yV PassesOwn.never rfl (x0 rfl B.range (za (pv 3) zc)) (zA (i:=5) im.nd rfl (Or.inl rfl))
    (zM (zx (i:=4) im.nd rfl (Or.inl rfl) (zI op_add_str (pv 4) (zp Vo (pv 1) (zI wJ (pv 0) (zm yb rfl B.len ay (za (pv 1) zc))) (fun _ _=>rfl))))
    (zh (zx (i:=0) im.nd rfl (Or.inl rfl) (zI wI (pv 0) (zm yb rfl B.len ay (za (pv 1) zc)))))))
   (zh (zu (pv 4))))))),?_⟩
  have s16:=yf
  rfl'
  have m0:=bJ c (b:=m+1) (by lia)
  have m1:=bE c (b:=m+1) (by lia)
  refine⟨by lia,⟨by lia,by lia⟩,by lia,by lia,ForR.by (fun i σ H'=>H'=H/\∃(found:List Nat) (number:Int) (v5:Option V),σ=[some (.int number),some (.str (tx ls)),some (.int m),some (.int (c % (m+1))),some (.str (tx found)),v5]/\found.length=i/\∀ x ∈ found,x ∈ ls)
   ⟨rfl,[],_,none,rfl,rfl,fun x h=>(nomatch h)⟩ ?_ ?_⟩
  ·rintro i σ H' hi ⟨rfl,found,number,v5,rfl,hf,hm⟩
   rfl'
   have hm0:=bJ number (b:=(ls.length:Int)) (by lia)
   have hm1:=bE number (b:=(ls.length:Int)) (by lia)
   obtain⟨v,e1,e2⟩:=jp hm0 hm1
   repeat (refine And.intro (by first | lia | decide | exact⟨by lia,by lia⟩ | assumption) ?_)
   refine⟨v,e1,?_⟩
   repeat (refine And.intro (by first | lia | decide | exact⟨by lia,by lia⟩ | assumption) ?_)
   refine⟨by rw[au,hf];rfl,fun x hx=>?_⟩
   rcases List.mem_append.mp hx with h | h
   ·exact hm x h
   ·rw[List.mem_singleton.mp h]
    exact ac e2
  ·rintro σ H' ⟨rfl,found,number,v5,rfl,hf,hm⟩
   rfl'
   exact q found (by lia) hm
noncomputable def qH:Sp:=fun vs H Q _=>∃(ls:List Nat) (c m:Int),vs=[.int c,.str (tx ls),.int m]/\qd c/\1<=ls.length/\ls.length<=26/\0<=m/\m<=100/\∀(o n:List Nat) (p:Addr),(o.length:Int)<=m->(n.length:Int)<=m->(∀ x ∈ o,x ∈ ls)->(∀ x ∈ n,x ∈ ls)->H p=none->Q (.ref p) (upd H p (.tup [.str (tx o),.str (tx n)]))
theorem Uk{ls:List Nat}{c m:Int}{H:Hp}{Q:VK}{E:XK}(h0:qd c)(h1:1<=ls.length)(h2:ls.length<=26)(h3:0<=m)(h4:m<=100)(h:∀(o n:List Nat) (p:Addr),(o.length:Int)<=m->(n.length:Int)<=m->(∀ x ∈ o,x ∈ ls)->(∀ x ∈ n,x ∈ ls)->H p=none->Q (.ref p) (upd H p (.tup [.str (tx o),.str (tx n)]))):qH [.int c,.str (tx ls),.int m] H Q E:=⟨ls,c,m,rfl,h0,h1,h2,h3,h4,h⟩
theorem QK:zr ["_law_cell_here","_law_letters_here","_law_most"] ["_law_cell_here","_law_letters_here","_law_most"] (zb jo):=⟨rfl,rfl,rfl,by decide +kernel,rfl,by decide +kernel,by decide +kernel⟩
theorem QJ{f:Addr}{fd:FuncData}(B:Bt mg)(F:Fun K "_law_pair" "_law_pair" jo f fd)(nL:Df P w K mg base CX0 1 "_law_word" ["_law_number","_law_letters_here","_law_most"] [] jV)(iU:Df P w K mg base CX0 1 "_law_mixed" ["_law_cell_here","_law_turn"] [] wM):ye P w K mg base CX0 2 f fd ["_law_cell_here","_law_letters_here","_law_most"] qH:=by
 refine F.ok QK (fun vs H Q E h=>?_) (fun cdv A outer s H vs Q E hr h=>?_)
 ·obtain⟨ls,c,m,rfl,_⟩:=h
  rfl
 ·obtain⟨ls,c,m,rfl,hc,h1,h2,h3,h4,q⟩:=h
  refine⟨_,(zh (zu (yo (za (cl0 nL hr .nil rfl (za (cl0 iU hr .nil rfl (za (pv 0) (za zg zc))) (za (pv 1) (za (pv 2) zc)))) (za (cl0 nL hr .nil rfl (za (cl0 iU hr .nil rfl (za (pv 0) (za zg zc))) (za (pv 1) (za (pv 2) zc)))) zc))))),?_⟩
  have s16:=yf
  rfl'
  exact vo hc (by decide) (by decide) fun z hz=>YX hz h1 h2 h3 h4 fun o ho mo=>vo hc (by decide) (by decide) fun z hz=>YX hz h1 h2 h3 h4 fun n hn mn=>⟨by lia,fun p hp=>q o n p ho hn mo mn hp⟩
structure zcf(K:ot):Prop where
 ii:aP K (.type "int") (.type "int")=some true
 ib:aP K (.type "int") (.type "bool")=some false
noncomputable def uP:Sp:=fun vs H Q _=>∃ i:Int,vs=[.int i]/\Q (.bl true) H
theorem Zi{i:Int}{H:Hp}{Q:VK}{E:XK}(h:Q (.bl true) H):uP [.int i] H Q E:=⟨i,rfl,h⟩
theorem UY:zr ["_law_found"] ["_law_found"] (zb vI):=⟨rfl,rfl,rfl,by decide +kernel,rfl,by decide +kernel,by decide +kernel⟩
theorem VR{f:Addr}{fd:FuncData}(B:Bt mg)(T:zcf K)(F:Fun K "_law_whole" "_law_whole" vI f fd):ye P w K mg base CX0 1 f fd ["_law_found"] uP:=by
 refine F.ok UY (fun vs H Q E h=>?_) (fun cdv A outer s H vs Q E hr h=>?_)
 ·obtain⟨a,rfl,_⟩:=h
  rfl
 ·obtain⟨i,rfl,q⟩:=h
  refine⟨_,(zh (zu (zan (xz rfl B.isi (pv 0) rfl B.int PySem.Pv.boot_int) (Qt (QG (xz rfl B.isi (pv 0) rfl B.bool PySem.Pv.boot_bool)))))),?_⟩
  rfl'
  exact⟨_,.inl (.int _),true,T.ii,zcy ⟨_,.inl (.int _),false,T.ib,q⟩⟩
structure TLs(K:ot):Prop where
 ll:aP K (.type "list") (.type "list")=some true
 tt:aP K (.type "tuple") (.type "tuple")=some true
 bb:aP K (.type "bool") (.type "bool")=some true
noncomputable def j8(K:ot):Sp:=fun vs H Q _=>∃(t:Addr) (ss:List Stp),vs=[.ref t]/\Is K H (.lst (ss.map dSt)) (.ref t)/\Q (.bl true) H
theorem nt:zr ["_law_found","_law_step"] ["_law_found"] (zb vT):=⟨rfl,rfl,rfl,by decide +kernel,rfl,by decide +kernel,by decide +kernel⟩
theorem UU{f:Addr}{fd:FuncData}(B:Bt mg)(T:TLs K)(F:Fun K "_law_steps" "_law_steps" vT f fd)(nG:Df P w K mg base CX0 1 "_law_whole" ["_law_found"] [] uP):ye P w K mg base CX0 2 f fd ["_law_found"] (j8 K):=by
 refine F.ok nt (fun vs H Q E h=>?_) (fun cdv A outer s H vs Q E hr h=>?_)
 ·obtain⟨t,ss,rfl,_⟩:=h
  rfl
 ·obtain⟨t,ss,rfl,hT,q⟩:=h
  refine⟨_,(zi (zZ (yn (xv (xz rfl B.isi (pv 0) rfl B.list PySem.Pv.boot_list) (fun _=>rfl)))
    (zh (zu y0))
    zC)
   (zi (yV PassesOwn.never rfl (yI (pv 0)) (zA (i:=1) nt.nd rfl (Or.inl rfl))
    (zi (zZ (PW.pt (vt (yn (xv (xz rfl B.isi (pv 1) rfl B.tuple PySem.Pv.boot_tuple) (fun _=>rfl))) (vt (zE ZU (zm yb rfl B.len ay (za (pv 1) zc)) zg (zJ _)) (vz (yn (xv (xz rfl B.isi (zp ix_tup (pv 1) zg (fun _ _=>rfl)) rfl B.bool PySem.Pv.boot_bool) (fun _=>rfl)))))))
     (zh (zu y0))
     zC)
    (zh (zZ (PW.pt (vt (yn (xv (cl0 nG hr .nil rfl (za (zp ix_tup (pv 1) zg (fun _ _=>rfl)) zc)) (fun _=>rfl))) (vz (yn (xv (cl0 nG hr .nil rfl (za (zp ix_tup (pv 1) zg (fun _ _=>rfl)) zc)) (fun _=>rfl))))))
     (zh (zu y0))
     zC))))
   (zh (zu y0)))),?_⟩
  have s16:=yf
  simp only[Is] at hT
  obtain⟨_,ts,e,hTs,hJ⟩:=hT
  cases e
  refine zj (fun σ H'=>H'=H/\σ=[some (.ref t),none]) ?_ ?_
  ·rfl'
   exact⟨_,.inr (.inr (.inl ⟨_,_,rfl,rfl,hTs⟩)),true,T.ll,VN trivial⟩
  rintro σ H1 ⟨rfl,rfl⟩
  refine zj (fun σ H'=>H'=H1/\∃ v1,σ=[some (.ref t),v1]) ?_ ?_
  ·rfl'
   refine⟨⟨_,hTs⟩,ForL.by (xs:=ts) (fun i σ H'=>H'=H1/\∃ v1,σ=[some (.ref t),v1]) ⟨rfl,_,rfl⟩ (fun i σ H' _ h=>by rw[h.1];exact hTs) ?_ fun σ H' h=>h⟩
   rintro i x σ H' hx ⟨rfl,v1,rfl⟩
   obtain⟨u,pu,hui,rfl,hqu⟩:=vB hJ hx
   simp only[xK,bp,bo]
   refine zj (fun σ H''=>H''=H'/\σ=[some (.ref t),some (.ref pu)]) ?_ ?_
   ·rfl'
    exact⟨_,.inr (.inr (.inr ⟨_,_,rfl,rfl,hqu⟩)),true,T.tt,VN ⟨_,.inr ⟨_,hqu,rfl⟩,xa (fun h=>absurd rfl h) fun _=>⟨_,hqu,_,rfl,_,.inl (.bl _),true,T.bb,VN trivial⟩⟩⟩
   rintro σ G ⟨rfl,rfl⟩
   rfl'
   exact⟨_,hqu,_,rfl,Zi ⟨true,rfl,VN ⟨_,hqu,_,rfl,Zi ⟨true,rfl,VN rfl⟩⟩⟩⟩
  rintro σ H2 ⟨rfl,v1,rfl⟩
  rfl'
  exact q
noncomputable def uO(K:ot):Sp:=fun vs H Q _=>∃(a t:Addr) (rs:List zB) (w w':List Nat) (s:Stp),vs=[.ref a,.str (tx w),.ref t]/\Is K H (.lst (rs.map dR)) (.ref a)/\j9 rs/\w.length<=100000/\SqT K H t [.int s.1,.int s.2.1,.bl s.2.2]/\yF rs w s=some w'/\Q (.str (tx w')) H
theorem Ve{a t:Addr}{rs:List zB}{w w':List Nat}{s:Stp}{H:Hp}{Q:VK}{E:XK}(h1:Is K H (.lst (rs.map dR)) (.ref a))(h2:j9 rs)(h3:w.length<=100000)(h4:SqT K H t [.int s.1,.int s.2.1,.bl s.2.2])(h5:yF rs w s=some w')(q:Q (.str (tx w')) H):uO K [.ref a,.str (tx w),.ref t] H Q E:=⟨a,t,rs,w,w',s,rfl,h1,h2,h3,h4,h5,q⟩
theorem lx:zr ["_law_pacts","_law_word_here","_law_step","_law_old","_law_new"] ["_law_pacts","_law_word_here","_law_step"] (zb jk):=⟨rfl,rfl,rfl,by decide +kernel,rfl,by decide +kernel,by decide +kernel⟩
theorem QY{f:Addr}{fd:FuncData}(B:Bt mg)(F:Fun K "_law_used" "_law_used" jk f fd) : ye P w K mg base CX0 1 f fd ["_law_pacts","_law_word_here","_law_step"] (uO K):=by
 refine F.ok lx (fun vs H Q E h=>?_) (fun cdv A outer s H vs Q E hr h=>?_)
 ·obtain⟨a,t,rs,w,w',s,rfl,_⟩:=h
  rfl
 ·obtain⟨a,t,rs,w,w',s,rfl,hR,ok,hw,ht,ha,q⟩:=h
  refine⟨_,(zi (zx (i:=3) lx.nd rfl (Or.inl rfl) (zp ix_tup (zp ix_list (pv 0) (zp ix_tup (pv 2) zg (fun _ _=>rfl)) (fun _ _=>rfl)) zg (fun _ _=>rfl)))
   (zi (zx (i:=4) lx.nd rfl (Or.inl rfl) (zp ix_tup (zp ix_list (pv 0) (zp ix_tup (pv 2) zg (fun _ _=>rfl)) (fun _ _=>rfl)) zg (fun _ _=>rfl)))
   (zi (zZ (yn (xv (zp ix_tup (pv 2) zg (fun _ _=>rfl)) (fun _=>rfl)))
    (zM (zx (i:=3) lx.nd rfl (Or.inl rfl) (zp ix_tup (zp ix_list (pv 0) (zp ix_tup (pv 2) zg (fun _ _=>rfl)) (fun _ _=>rfl)) zg (fun _ _=>rfl)))
    (zh (zx (i:=4) lx.nd rfl (Or.inl rfl) (zp ix_tup (zp ix_list (pv 0) (zp ix_tup (pv 2) zg (fun _ _=>rfl)) (fun _ _=>rfl)) zg (fun _ _=>rfl)))))
    zC)
   (zh (zu (zI op_add_str (zI op_add_str (yA wB (pv 1) xN (yC (zp ix_tup (pv 2) zg (fun _ _=>rfl)))) (pv 4)) (yA wB (pv 1) (yC (zI op_add (zp ix_tup (pv 2) zg (fun _ _=>rfl)) (zm yb rfl B.len ay (za (pv 3) zc)))) xN))))))),?_⟩
  have s16:=yf
  simp only[Is] at hR
  obtain⟨_,xs,e,hX,hI⟩:=hR
  cases e
  have hb:0<=s.1/\s.1<rs.length:=bB fun hb=>by rw[xl hb] at ha;cases ha
  obtain⟨p,a1,_,hp⟩:=zaa hI hb.1 hb.2
  have gl:=Yf ok s.1.toNat
  rw[y8 hb] at ha
  generalize rs.getD s.1.toNat ([],[])=r at *
  refine zj (fun σ H'=>H'=H/\σ=[some (.ref a),some (.str (tx w)),some (.ref t),some (.str (tx r.1)),none]) ?_ ?_
  ·rfl'
   exact⟨_,ht,_,rfl,_,_,rfl,hX,_,a1,_,rfl,_,hp,rfl⟩
  rintro σ H1 ⟨rfl,rfl⟩
  refine zj (fun σ H'=>H'=H1/\σ=[some (.ref a),some (.str (tx w)),some (.ref t),some (.str (tx r.1)),some (.str (tx r.2))]) ?_ ?_
  ·rfl'
   exact⟨_,ht,_,rfl,_,_,rfl,hX,_,a1,_,rfl,_,hp,rfl⟩
  rintro σ H2 ⟨rfl,rfl⟩
  refine zj (fun σ H'=>H'=H2/\σ=[some (.ref a),some (.str (tx w)),some (.ref t),some (.str (tx (sdl r s.2.2).1)),some (.str (tx (sdl r s.2.2).2))]) ?_ ?_
  ·rfl'
   refine⟨_,ht,_,rfl,_,rfl,xa (fun h=>⟨_,ht,_,rfl,_,_,rfl,hX,_,a1,_,rfl,_,hp,_,rfl,_,ht,_,rfl,_,_,rfl,hX,_,a1,_,rfl,_,hp,_,rfl,?_⟩) fun h=>?_⟩
   ·rw[h]
    exact⟨rfl,rfl⟩
   ·rw[Bool.not_eq_false] at h
    rw[h]
    exact⟨rfl,rfl⟩
  rintro σ H3 ⟨rfl,rfl⟩
  have hol:(sdl r s.2.2).1.length<=100:=by
   cases s.2.2
   ·exact gl.2
   ·exact gl.1
  have hnl:(sdl r s.2.2).2.length<=100:=by
   cases s.2.2
   ·exact gl.1
   ·exact gl.2
  generalize sdl r s.2.2=on at *
  have hst:zy w s.2.1 on.1=true:=bB fun hst=>by rw[if_neg hst] at ha;cases ha
  rw[if_pos hst] at ha
  obtain⟨_,_,h0,h1⟩:=yR hst
  have c1:=ww w none (some s.2.1)
  have c2:=ww w (some (s.2.1 + ↑on.1.length)) none
  rfl'
  refine⟨_,ht,_,rfl,_,rfl,by lia,by lia,_,ht,_,rfl,by lia,_,rfl,by lia,?_,?_⟩
  ·rw[au]
   lia
  ·rw[QX h0]
   cases ha
   exact q
theorem Y4{H:Hp}{a p:Addr}{xs:List V}{ys zs:List V}(hp:H p=some (.lst ys))(h:SqT K H a xs):SqT K (upd H p (.lst zs)) a xs:=by
 rcases h with (h | ⟨o,h⟩) | h
 ·exact .inl (.inl (by rw[zq (fun e=>by rw[e,hp] at h;cases h)];exact h))
 ·exact .inl (.inr ⟨o,by rw[zq (fun e=>by rw[e,hp] at h;cases h)];exact h⟩)
 ·exact .inr h
theorem X6{rs:List zB}{w w':List Nat}{s:Stp}(h:yF rs w s=some w'):0<=s.1/\s.1<rs.length:=bB fun hb=>by rw[xl hb] at h;cases h
noncomputable def Zo(K:ot):Sp:=fun vs H Q _=>∃(a t:Addr) (rs:List zB) (w w':List Nat) (ss:List Stp),vs=[.ref a,.str (tx w),.ref t]/\Is K H (.lst (rs.map dR)) (.ref a)/\j9 rs/\w.length<=60/\Is K H (.lst (ss.map dSt)) (.ref t)/\ss.length<=600/\yt rs w ss=some w'/\Q (.str (tx w')) H
theorem JO{a t:Addr}{rs:List zB}{w w':List Nat}{ss:List Stp}{H:Hp}{Q:VK}{E:XK}(h1:Is K H (.lst (rs.map dR)) (.ref a))(h2:j9 rs)(h3:w.length<=60)(h4:Is K H (.lst (ss.map dSt)) (.ref t))(h5:ss.length<=600)(h6:yt rs w ss=some w')(q:Q (.str (tx w')) H):Zo K [.ref a,.str (tx w),.ref t] H Q E:=⟨a,t,rs,w,w',ss,rfl,h1,h2,h3,h4,h5,h6,q⟩
theorem Wf{rs:List zB}{w w':List Nat}{ss:List Stp}(h:yt rs w ss=some w'){i:Nat}{s:Stp}(hs:ss[i]? = some s){w1:List Nat}(h1:yt rs w (ss.take i)=some w1):∃ w2,yF rs w1 s=some w2/\yt rs w (ss.take (i+1))=some w2:=by
 have e:ss=ss.take (i+1) ++ ss.drop (i+1):=(bZ _ _).symm
 rw[e,wk] at h
 obtain⟨w2,h2,_⟩:=Option.bind_eq_some_iff.mp h
 refine⟨w2,?_,h2⟩
 rw[zV hs,wk,h1] at h2
 simp only[yt,bM] at h2
 obtain⟨w3,h3,h4⟩:=Option.bind_eq_some_iff.mp h2
 cases h4
 exact h3
theorem mJ:zr ["_law_pacts","_law_word_here","_law_steps_here","_law_step","_law_old"] ["_law_pacts","_law_word_here","_law_steps_here"] (zb XB):=⟨rfl,rfl,rfl,by decide +kernel,rfl,by decide +kernel,by decide +kernel⟩
theorem K1{f:Addr}{fd:FuncData}(B:Bt mg)(F:Fun K "_law_end" "_law_end" XB f fd)(nW:Df P w K mg base CX0 1 "_law_used" ["_law_pacts","_law_word_here","_law_step"] [] (uO K)):ye P w K mg base CX0 2 f fd ["_law_pacts","_law_word_here","_law_steps_here"] (Zo K):=by
 refine F.ok mJ (fun vs H Q E h=>?_) (fun cdv A outer s H vs Q E hr h=>?_)
 ·obtain⟨a,t,rs,w,w',ss,rfl,_⟩:=h
  rfl
 ·obtain⟨a,t,rs,w,w',ss,rfl,hR,ok,hw,hT,hsl,hwk,q⟩:=h
  refine⟨_,(zi (yV PassesOwn.never rfl (yI (pv 2)) (zA (i:=3) mJ.nd rfl (Or.inl rfl))
    (zi (zZ (PW.pt (vt (zE U1 (zp ix_tup (pv 3) zg (fun _ _=>rfl)) zg (zJ _)) (vt (zE op_ge' (zp ix_tup (pv 3) zg (fun _ _=>rfl)) (zm yb rfl B.len ay (za (pv 0) zc)) (zJ _)) (vz (zE U1 (zp ix_tup (pv 3) zg (fun _ _=>rfl)) zg (zJ _))))))
     (zh (zu xO))
     zC)
    (zi (zx (i:=4) mJ.nd rfl (Or.inl rfl) (zp ix_tup (zp ix_list (pv 0) (zp ix_tup (pv 3) zg (fun _ _=>rfl)) (fun _ _=>rfl)) (zI vA zg (xW VJ rfl B.int PySem.Pv.boot_int (za (zp ix_tup (pv 3) zg (fun _ _=>rfl)) zc))) (fun _ _=>rfl)))
    (zi (zZ (PW.pt (vt (zE op_gt (zI op_add (zp ix_tup (pv 3) zg (fun _ _=>rfl)) (zm yb rfl B.len ay (za (pv 4) zc))) (zm yb rfl B.len ay (za (pv 1) zc)) (zJ _)) (vz (zE ZU (yA wB (pv 1) (yC (zp ix_tup (pv 3) zg (fun _ _=>rfl))) (yC (zI op_add (zp ix_tup (pv 3) zg (fun _ _=>rfl)) (zm yb rfl B.len ay (za (pv 4) zc))))) (pv 4) (zJ _)))))
     (zh (zu xO))
     zC)
    (zh (zx (i:=1) mJ.nd rfl (Or.inl rfl) (cl0 nW hr .nil rfl (za (pv 0) (za (pv 1) (za (pv 3) zc))))))))))
   (zh (zu (pv 1)))),?_⟩
  have s16:=yf
  have hR':=hR
  have hT':=hT
  simp only[Is] at hR' hT'
  obtain⟨_,xs,e,hX,hI⟩:=hR'
  cases e
  obtain⟨_,ts,e,hTs,hJ⟩:=hT'
  cases e
  have htl:=hJ.len
  rw[ag] at htl
  refine zj (fun σ H'=>H'=H/\∃ v3 v4,σ=[some (.ref a),some (.str (tx w')),some (.ref t),v3,v4]) ?_ ?_
  ·rfl'
   refine⟨⟨_,hTs⟩,ForL.by (xs:=ts) (fun i σ H'=>H'=H/\∃ w1 v3 v4,yt rs w (ss.take i)=some w1/\w1.length<=60+i * 100/\σ=[some (.ref a),some (.str (tx w1)),some (.ref t),v3,v4]) ⟨rfl,w,_,_,rfl,by lia,rfl⟩ (fun i σ H' _ h=>by rw[h.1];exact hTs) ?_ ?_⟩
   ·rintro i x σ H' hx ⟨rfl,w1,v3,v4,hw1,hl1,rfl⟩
    obtain⟨s,ps,hsi,rfl,hqs⟩:=vB hJ hx
    have hil:=(List.getElem?_eq_some_iff.mp hsi).1
    obtain⟨w2,haf,hw2⟩:=Wf hwk hsi hw1
    have hl2:=Wz ok haf
    have hb:=X6 haf
    obtain⟨p,a1,_,hp⟩:=zaa hI hb.1 hb.2
    have gl:=Yf ok s.1.toNat
    have ha:=haf
    rw[y8 hb] at ha
    generalize rs.getD s.1.toNat ([],[])=r at *
    have hst:zy w1 s.2.1 (sdl r s.2.2).1=true:=bB fun hst=>by rw[if_neg hst] at ha;cases ha
    obtain⟨_,_,h0,h1⟩:=yR hst
    simp only[xK,bp,bo]
    refine zj (fun σ H''=>H''=H'/\σ=[some (.ref a),some (.str (tx w1)),some (.ref t),some (.ref ps),v4]) ?_ ?_
    ·rfl'
     exact⟨_,hqs,_,rfl,_,rfl,xa (fun h=>absurd hb.1 (by lia)) fun _=>⟨_,hqs,_,rfl,_,.inl ⟨_,hX,rfl⟩,_,rfl,xa (fun h=>absurd hb.2 (by have:=hI.len;rw[ag] at this;lia)) fun _=>⟨_,hqs,_,rfl,_,rfl,xa (fun h=>absurd h0 (by lia)) fun _=>trivial⟩⟩⟩
    rintro σ G ⟨rfl,rfl⟩
    refine zj (fun σ H''=>H''=G/\σ=[some (.ref a),some (.str (tx w1)),some (.ref t),some (.ref ps),some (.str (tx (sdl r s.2.2).1))]) ?_ ?_
    ·rfl'
     refine⟨_,hqs,_,rfl,_,_,rfl,hX,_,a1,_,hqs,_,rfl,.inr ⟨_,rfl,_,rfl,_,hp,?_⟩⟩
     cases s.2.2 <;> rfl
    rintro σ G1 ⟨rfl,rfl⟩
    refine zj (fun σ H''=>H''=G1/\σ=[some (.ref a),some (.str (tx w1)),some (.ref t),some (.ref ps),some (.str (tx (sdl r s.2.2).1))]) ?_ ?_
    ·rfl'
     have hol:(sdl r s.2.2).1.length<=100:=by
      cases s.2.2
      ·exact gl.2
      ·exact gl.1
     refine⟨_,hqs,_,rfl,by lia,_,rfl,by lia,xa (fun h=>absurd h1 (by lia)) fun _=>⟨_,hqs,_,rfl,_,rfl,_,hqs,_,rfl,by lia,_,rfl,by lia,xa (fun h=>absurd ?_ h) fun _=>trivial⟩⟩
     have hst':=hst
     unfold zy at hst'
     rw[decide_eq_true_eq] at hst'
     rw[ZO _ h0 (by lia) (by lia)]
     have e:(s.2.1+((sdl r s.2.2).1.length:Int) - s.2.1).toNat=(sdl r s.2.2).1.length:=by lia
     rw[e]
     exact hst'.2.2
    rintro σ G2 ⟨rfl,rfl⟩
    rfl'
    refine Ve hR ok (by lia) hqs haf ⟨rfl,w2,hw2,by lia,rfl⟩
   ·rintro σ H' ⟨rfl,w1,v3,v4,hw1,hl1,rfl⟩
    rw[htl,aM,hwk] at hw1
    cases hw1
    exact⟨rfl,_,_,rfl⟩
  rintro σ H2 ⟨rfl,v3,v4,rfl⟩
  rfl'
  exact q
theorem zbX{X:Cx}{E:XK}{k j:Nat}{C:Addr}{ps:List Str}{sp:Sp}{e:Expr}{es:List Expr}{t:TA}{pos p:Pos}{x:Str}(hx:XE X E)(D:DMk X.prog X.w X.K X.mg X.base (CXx X.prog X.w) k C ps sp)(hr:Room j X.A)(hg:Gl X x)(hm:X.mg x=some (.ref C))(ha:PA X (e::es) t)(hdb:(x == ("__debug__" : Str))=false:=by decide)(he:oo (e::es) X.env=(false,eval e X.env)::oo es X.env:=by rfl)
  (hpl:(backTo pos (oo es X.env)).any (·.1)=false:=by rfl) (hj:k+1<=j:=by decide):PE X (.Call (.Name x p) (e::es) [] pos) (UR C sp [] E t):=by
 obtain⟨f,fd,M,F,hb⟩:=D.ex
 exact Vj M F (hr.mono hj) hg hm hb .nil (YJ hx) ha hdb he hpl
noncomputable def kj(K:ot)(CO CR CW:Addr):Sp:=fun vs H Q _=>∃(z:Int) (l:List Nat) (D:Addr) (ws:List Int),vs=[.int z,.str (tx l),.ref D]/\0<=z/\z<3/\uq l=true/\H D=some (.lst (ws.map V.int))/\ws.length=l.length/\(∀ n ∈ ws,1<=n/\n<=1000000)/\∀(o:Addr) (H':Hp),Same H H'->OrdAt CO CR CW H' o z.toNat l ws->Q (.ref o) H'
theorem Uy:zr ["_law_kind","_law_letters_here","_law_weights"] ["_law_kind","_law_letters_here","_law_weights"] (zb vK):=⟨rfl,rfl,rfl,by decide +kernel,rfl,by decide +kernel,by decide +kernel⟩
theorem V0{f CO CR CW:Addr}{fd:FuncData}(B:Bt mg)(T:TWS P w K mg base CO CR CW)(F:Fun K "_law_order" "_law_order" vK f fd) : ye P w K mg base CX0 6 f fd ["_law_kind","_law_letters_here","_law_weights"] (kj K CO CR CW):=by
 refine F.ok Uy (fun vs H Q E h=>?_) (fun cdv A outer s H vs Q E hr h=>?_)
 ·obtain⟨z,l,D,ws,rfl,_⟩:=h
  rfl
 ·obtain⟨z,l,D,ws,rfl,z0,z3,hg,hD,hwl,hwb,q⟩:=h
  refine⟨_,(zM (zZ (zE qo (pv 0) zg (zJ _))
    (zh (zu (mkC T.mR hr rfl T.gR (za (pv 1) zc))))
    zC)
   (zM (zZ (zE qo (pv 0) zg (zJ _))
    (zh (zu (zbX xe0 T.mW hr rfl T.gW (za (pv 1) (za (xW xE rfl B.list PySem.Pv.boot_list (za (pv 2) zc)) zc)))))
    zC)
   (zh (zu (mkC T.mO hr rfl T.gO (za (pv 1) zc)))))),?_⟩
  have s16:=yf
  repeat (first | rfl' | simp only[yq,zw,zH,yy,yw,zv])
  refine xa (fun h1=>?_) fun h1=>xa (fun h2=>?_) fun h2=>?_
  ·intro x dx hx hdx hne
   have sd:=zf (o:=.own x) hdx
   refine⟨x,CR,dx,l,rfl,hg,T.cR,T.lR,ze,rfl,q x _ (fun b o' e=>?_) ⟨dx,.inr (.inl ⟨by rw[h1];rfl,ze⟩)⟩⟩
   rw[zq (zF e hx),zq (zF e hx)]
   exact sd _ _ e
  ·refine⟨_,.inl (SqL.of hD),fun E1 hE=>?_⟩
   have se:=zf (o:=.lst (ws.map V.int)) hE
   intro x dx hx hdx hne
   have sd:=zf (o:=.own x) hdx
   have k1:∀ b o',(upd H E1 (.lst (ws.map V.int))) b=some o'->(upd (upd (upd H E1 (.lst (ws.map V.int))) dx (.own x)) x (.ins CW dx [])) b=some o':=fun b o' e=>by
    rw[zq (zF e hx)]
    exact sd _ _ e
   exact⟨x,dx,E1,l,ws,rfl,hg,SqL.of (k1 _ _ ze),hwl,hwb,ze,fun w H' hw hwx kp ht hx'=>⟨rfl,q x _ (fun b o' e=>kp b o' (zF (se _ _ e) hx) (k1 b o' (se _ _ e))) ⟨dx,.inr (.inr ⟨by lia,hwl,w,hx',ht⟩)⟩⟩⟩
  ·intro x dx hx hdx hne
   have sd:=zf (o:=.own x) hdx
   refine⟨x,CO,dx,l,rfl,hg,T.cO,T.lO,ze,rfl,q x _ (fun b o' e=>?_) ⟨dx,.inl ⟨by lia,ze⟩⟩⟩
   rw[zq (zF e hx),zq (zF e hx)]
   exact sd _ _ e
theorem XY:∀ ws:List (List Nat),Str.join (tx []) (ws.map tx)=tx ws.flatten
 | []=>rfl
 | [w]=>by
  show tx w=_
  simp
 | w::v::r=>by
  have ih:=XY (v::r)
  show tx w ++ tx [] ++ Str.join (tx []) ((v::r).map tx)=_
  rw[ih,wC,wC]
  simp
theorem Ul{ws:List (List Nat)}(h:ws.flatten.length<=100000):JoinOk (tx []) (ws.map tx)=true:=by
 have s16:=yf
 have hf:∀(l:List (List Nat)) (n:Nat),(l.map tx).foldl (fun a y=>a+y.length+0) n=n+l.flatten.length:=fun l=>by
  induction l with
  | nil=>intro n;rfl
  | cons c r ih =>
   intro n
   rw[ax,List.foldl_cons,ih,zQ,da,au]
   lia
 have e:JoinOk (tx []) (ws.map tx)=!PySem.Builtin.Str.tooLong ((ws.map tx).foldl (fun a y=>a+y.length+0) 0):=by
  unfold JoinOk
  rw[List.foldl_toArray]
  rfl
 rw[e,hf]
 unfold PySem.Builtin.Str.tooLong
 rw[dO,decide_eq_false_iff_not]
 lia
noncomputable def Yb:Sp:=fun vs H Q _=>∃(c:Int),vs=[.int c]/\qd c/\∀(k:Int) (l:List Nat) (ws:List Int) (p W:Addr) (H':Hp),0<=k->k<3->uq l=true->ws.length=l.length->(∀ n ∈ ws,1<=n/\n<=1000000)->Same H H'->H' p=some (.tup [.int k,.str (tx l),.ref W])->H' W=some (.lst (ws.map V.int))->Q (.ref p) H'
theorem mT:zr ["_law_cell_here","_law_letters_here","_law_number"] ["_law_cell_here"] (zb jn):=⟨rfl,rfl,rfl,by decide +kernel,rfl,by decide +kernel,by decide +kernel⟩
theorem Jd{f:Addr}{fd:FuncData}(B:Bt mg)(F:Fun K "_law_draw" "_law_draw" jn f fd)(nM:Df P w K mg base CX0 2 "_law_letters" ["_law_cell_here","_law_many"] [] wQ)(iU:Df P w K mg base CX0 1 "_law_mixed" ["_law_cell_here","_law_turn"] [] wM):ye P w K mg base CX0 3 f fd ["_law_cell_here"] Yb:=by
 refine F.ok mT (fun vs H Q E h=>?_) (fun cdv A outer s H vs Q E hr h=>?_)
 ·obtain⟨c,rfl,_⟩:=h
  rfl
 ·obtain⟨c,rfl,hc,q⟩:=h
  refine⟨_,(zi (zx (i:=1) mT.nd rfl (Or.inl rfl) (cl0 nM hr .nil rfl (za (pv 0) (za (zI op_add zg (zI wJ (zI wI (pv 0) zg) zg)) zc))))
   (zi (zx (i:=2) mT.nd rfl (Or.inl rfl) (cl0 iU hr .nil rfl (za (pv 0) (za zg zc))))
   (zh (zu (yo (za (zI wJ (pv 0) zg) (za (pv 1) (za (yA sl_list (ue (za (zI op_add zg (zI wJ (pv 2) zg)) (za (zI op_add zg (zI wJ (zI wI (pv 2) zg) zg)) (za (zI op_add zg (zI wJ (zI wI (pv 2) zg) zg)) zc)))) xN (yC (zm yb rfl B.len ay (za (pv 1) zc)))) zc)))))))),?_⟩
  have s16:=yf
  have s16:=yf
  refine zj (fun σ H'=>H'=H/\∃ l:List Nat,l.length<=3/\uq l=true/\σ=[some (.int c),some (.str (tx l)),none]) ?_ ?_
  ·rfl'
   have e0:=bJ (c / 3) (b:=2) (by decide)
   have e1:=bE (c / 3) (b:=2) (by decide)
   exact⟨⟨by decide,by decide⟩,by decide,ZR hc (by lia) (by lia) fun l h1 h2 h3=>⟨rfl,l,by lia,decide_eq_true ⟨by lia,by lia,h3,h2⟩,rfl⟩⟩
  rintro σ H1 ⟨rfl,l,l3,hg,rfl⟩
  refine zj (fun σ H'=>H'=H1/\∃ z:Int,σ=[some (.int c),some (.str (tx l)),some (.int z)]) ?_ ?_
  ·rfl'
   exact vo hc (by decide) (by decide) fun z _=>⟨rfl,z,rfl⟩
  rintro σ H2 ⟨rfl,z,rfl⟩
  rfl'
  refine⟨by decide,by decide,⟨by decide,by decide⟩,by decide,⟨by decide,by decide⟩,by decide,by lia,fun p hp=>⟨by lia,_,SqL.of ze,fun p1 hp1=>⟨by lia,fun p2 hp2=>?_⟩⟩⟩
  have l1:=(of_decide_eq_true hg).1
  have e:Ke [V.int (1+z % 3),V.int (1+z / 3 % 3),V.int (1+z / 9 % 3)] none (some (l.length:Int))=([1+z % 3,1+z / 3 % 3,1+z / 9 % 3].take l.length).map V.int:=by
   rcases (show l.length=1\/l.length=2\/l.length=3 by lia) with h | h | h <;> rw[h] <;> rfl
  refine q (c % 3) l ([1+z % 3,1+z / 3 % 3,1+z / 9 % 3].take l.length) p2 p1 _ (bJ _ (by decide)) (bE _ (by decide)) hg ?_ (fun n hn=>?_) ((zf hp).trans ((zf hp1).trans (zf hp2))) ze ?_
  ·rw[aJ]
   show min l.length 3=l.length
   lia
  ·have hn':=bu hn
   have m:∀ y:Int,0<=y % 3/\y % 3<3:=fun y=>⟨bJ _ (by decide),bE _ (by decide)⟩
   have m0:=m z
   have m1:=m (z / 3)
   have m2:=m (z / 9)
   simp only[df,List.not_mem_nil,or_false] at hn'
   rcases hn' with rfl | rfl | rfl <;> lia
  ·rw[zf hp2 _ _ ze,e]
structure KXs(K:ot):Prop where
 ss:aP K (.type "str") (.type "str")=some true
noncomputable def Yg(K:ot):Sp:=fun vs H Q _=>∃(a:Addr) (es:List Ent),vs=[.ref a]/\Is K H (.lst (es.map dE)) (.ref a)/\Q (.bl true) H
theorem mK:zr ["_law_found","_law_entry"] ["_law_found"] (zb xY):=⟨rfl,rfl,rfl,by decide +kernel,rfl,by decide +kernel,by decide +kernel⟩
theorem Xi{f:Addr}{fd:FuncData}(B:Bt mg)(T:TLs K)(TX:KXs K)(F:Fun K "_law_entries" "_law_entries" xY f fd)(nR:Df P w K mg base CX0 2 "_law_steps" ["_law_found"] [] (j8 K)):ye P w K mg base CX0 3 f fd ["_law_found"] (Yg K):=by
 refine F.ok mK (fun vs H Q E h=>?_) (fun cdv A outer s H vs Q E hr h=>?_)
 ·obtain⟨a,es,rfl,_⟩:=h
  rfl
 ·obtain⟨a,es,rfl,hA,q⟩:=h
  refine⟨_,(zi (zZ (yn (xv (xz rfl B.isi (pv 0) rfl B.list PySem.Pv.boot_list) (fun _=>rfl)))
    (zh (zu y0))
    zC)
   (zi (yV PassesOwn.never rfl (yI (pv 0)) (zA (i:=1) mK.nd rfl (Or.inl rfl))
    (zi (zZ (PW.pt (vt (yn (xv (xz rfl B.isi (pv 1) rfl B.tuple PySem.Pv.boot_tuple) (fun _=>rfl))) (vt (zE ZU (zm yb rfl B.len ay (za (pv 1) zc)) zg (zJ _)) (vz (yn (xv (cl0 nR hr .nil rfl (za (zp ix_tup (pv 1) zg (fun _ _=>rfl)) zc)) (fun _=>rfl)))))))
     (zh (zu y0))
     zC)
    (zh (zZ (PW.pt (vt (yn (xv (xz rfl B.isi (zp ix_tup (pv 1) zg (fun _ _=>rfl)) rfl B.str PySem.Pv.boot_str) (fun _=>rfl))) (vz (yn (xv (xz rfl B.isi (zp ix_tup (pv 1) zg (fun _ _=>rfl)) rfl B.str PySem.Pv.boot_str) (fun _=>rfl))))))
     (zh (zu y0))
     zC))))
   (zh (zu y0)))),?_⟩
  have s16:=yf
  simp only[Is] at hA
  obtain⟨_,xs,e,hX,hI⟩:=hA
  cases e
  refine zj (fun σ H'=>H'=H/\σ=[some (.ref a),none]) ?_ ?_
  ·rfl'
   exact⟨_,.inr (.inr (.inl ⟨_,_,rfl,rfl,hX⟩)),true,T.ll,VN trivial⟩
  rintro σ H1 ⟨rfl,rfl⟩
  refine zj (fun σ H'=>H'=H1/\∃ v1,σ=[some (.ref a),v1]) ?_ ?_
  ·rfl'
   refine⟨⟨_,hX⟩,ForL.by (xs:=xs) (fun i σ H'=>H'=H1/\∃ v1,σ=[some (.ref a),v1]) ⟨rfl,_,rfl⟩ (fun i σ H' _ h=>by rw[h.1];exact hX) ?_ fun σ H' h=>h⟩
   rintro i x σ H' hx ⟨rfl,v1,rfl⟩
   obtain⟨e,pe,se,hei,rfl,hqe,hse⟩:=Yu hI hx
   simp only[xK,bp,bo]
   refine zj (fun σ H''=>H''=H'/\σ=[some (.ref a),some (.ref pe)]) ?_ ?_
   ·rfl'
    exact⟨_,.inr (.inr (.inr ⟨_,_,rfl,rfl,hqe⟩)),true,T.tt,VN ⟨_,.inr ⟨_,hqe,rfl⟩,xa (fun h=>absurd rfl h) fun _=>⟨_,hqe,_,rfl,se,e.2.2,rfl,hse,true,rfl,VN rfl⟩⟩⟩
   rintro σ G ⟨rfl,rfl⟩
   rfl'
   exact⟨_,hqe,_,rfl,_,.inl (.str _),true,TX.ss,VN ⟨_,hqe,_,rfl,_,.inl (.str _),true,TX.ss,VN trivial⟩⟩
  rintro σ H2 ⟨rfl,v1,rfl⟩
  rfl'
  exact q
noncomputable def uS:Sp:=fun vs H Q _=>∃(k:Int) (l:List Nat) (W:Addr) (ws:List Int) (w:List Nat),vs=[.int k,.str (tx l),.ref W,.str (tx w)]/\0<=k/\k<3/\uq l=true/\H W=some (.lst (ws.map V.int))/\ws.length=l.length/\(∀ n ∈ ws,1<=n/\n<=1000000)/\w.length<=1000/\(∀ x ∈ w,x ∈ l)/\∀(p q:Addr) (H':Hp),Same H H'->H' p=some (.tup [.int (zt k.toNat l ws w),.ref q])->H' q=some (.lst ((wX k.toNat l w).map V.int))->Q (.ref p) H'
theorem uZ{k:Int}{l:List Nat}{W:Addr}{ws:List Int}{w:List Nat}{H:Hp}{Q:VK}{E:XK}(k0:0<=k)(k3:k<3)(hg:uq l=true)(hD:H W=some (.lst (ws.map V.int)))(hwl:ws.length=l.length)(hwb:∀ n ∈ ws,1<=n/\n<=1000000)(hw:w.length<=1000)(hm:∀ x ∈ w,x ∈ l)(q:∀(p q:Addr) (H':Hp),Same H H'->H' p=some (.tup [.int (zt k.toNat l ws w),.ref q])->H' q=some (.lst ((wX k.toNat l w).map V.int))->Q (.ref p) H'):uS [.int k,.str (tx l),.ref W,.str (tx w)] H Q E:=⟨k,l,W,ws,w,rfl,k0,k3,hg,hD,hwl,hwb,hw,hm,q⟩
theorem ly:zr ["_law_kind","_law_letters_here","_law_weights","_law_word_here","_law_seen","_law_weight"] ["_law_kind","_law_letters_here","_law_weights","_law_word_here"] (zb vC):=⟨rfl,rfl,rfl,by decide +kernel,rfl,by decide +kernel,by decide +kernel⟩
theorem Jk{f:Addr}{fd:FuncData}(B:Bt mg)(F:Fun K "_law_rank" "_law_rank" vC f fd) : ye P w K mg base CX0 1 f fd ["_law_kind","_law_letters_here","_law_weights","_law_word_here"] uS:=by
 refine F.ok ly (fun vs H Q E h=>?_) (fun cdv A outer s H vs Q E hr h=>?_)
 ·obtain⟨k,l,W,ws,w,rfl,_⟩:=h
  rfl
 ·obtain⟨k,l,W,ws,w,rfl,k0,k3,hg,hW,hwl,hwb,hw,hm,q⟩:=h
  refine⟨_,(zi (zx (i:=4) ly.nd rfl (Or.inl rfl) (pv 3))
   (zi (zx (i:=5) ly.nd rfl (Or.inl rfl) (zm yb rfl B.len ay (za (pv 3) zc)))
   (zi (zZ (zE qo (pv 0) zg (zJ _))
    (zh (zx (i:=4) ly.nd rfl (Or.inl rfl) (qF bz PySem.F.slot_str_join PySem.F.type_str_join K5 xy (za (yD (own:=["_law_k"]) (caps:=["_law_word_here"]) (ix:=[3]) (tt:=wu) (te:=(tOp (rIx K) (yK 1) (tOp (rI0 fun i j=>.int (i - j)) (tOp (rI0 fun i j=>.int (i - j)) (tCB (Uw K) (zN (yK 1) wq)) (tC (.int 1))) (yK 0)))) rfl (zO (sc:=zb vC) rfl (by decide +kernel) (by decide +kernel) (by decide +kernel) rfl (by decide +kernel) (by decide +kernel) rfl) (x0 rfl B.range (za (zm yb rfl B.len ay (za (pv 3) zc)) zc)) (fun _ _ _ _ _ _=>zA (i:=0) (show List.Nodup [_,_] by decide) rfl (Or.inl rfl)) (fun _ _ _ _ _ _=>yE) (fun _ _ _ _ _ _=>(zp VC (pv 1) (zI vA (zI vA (zm yb rfl B.len ay (za (pv 1) zc)) zg) (pv 0)) (fun _ _=>rfl)))) zc))))
    zC)
   (zi (zZ (zE qo (pv 0) zg (zJ _))
    (zh (zx (i:=5) ly.nd rfl (Or.inl rfl) (zm (Kq rfl) rfl B.sum eI (za (yD (own:=["_law_sign"]) (caps:=["_law_weights","_law_letters_here"]) (ix:=[2,1]) (tt:=wu) (te:=(tOp (rIx K) (yK 1) (tBM K "str" UT (yK 2) (zN (yK 0) wq)))) rfl (zO (sc:=zb vC) rfl (by decide +kernel) (by decide +kernel) (by decide +kernel) rfl (by decide +kernel) (by decide +kernel) rfl) (Zj (pv 3)) (fun _ _ _ _ _ _=>zA (i:=0) (show List.Nodup [_,_,_] by decide) rfl (Or.inl rfl)) (fun _ _ _ _ _ _=>yE) (fun _ _ _ _ _ _=>(zp VC (pv 1) (qF bz di dj U9 (pv 2) (za (pv 0) zc)) (fun _ _=>rfl)))) zc))))
    zC)
   (zh (zu (yo (za (pv 5) (za (yD (own:=["_law_sign"]) (caps:=["_law_letters_here"]) (ix:=[1]) (tt:=wu) (te:=(tBM K "str" UT (yK 1) (zN (yK 0) wq))) rfl (zO (sc:=zb vC) rfl (by decide +kernel) (by decide +kernel) (by decide +kernel) rfl (by decide +kernel) (by decide +kernel) rfl) (Zj (pv 4)) (fun _ _ _ _ _ _=>zA (i:=0) (show List.Nodup [_,_] by decide) rfl (Or.inl rfl)) (fun _ _ _ _ _ _=>yE) (fun _ _ _ _ _ _=>(qF bz di dj U9 (pv 1) (za (pv 0) zc)))) zc))))))))),?_⟩
  have s16:=yf
  have s16:=yf
  obtain⟨l1,l6,lsm,lnd⟩:=of_decide_eq_true hg
  refine zj (fun σ H'=>H'=H/\σ=[some (.int k),some (.str (tx l)),some (.ref W),some (.str (tx w)),some (.str (tx w)),none]) ?_ ?_
  ·rfl'
  rintro σ H1 ⟨rfl,rfl⟩
  refine zj (fun σ H'=>H'=H1/\σ=[some (.int k),some (.str (tx l)),some (.ref W),some (.str (tx w)),some (.str (tx w)),some (.int (w.length:Nat))]) ?_ ?_
  ·rfl'
   lia
  rintro σ H2 ⟨rfl,rfl⟩
  refine zj (fun σ H'=>Same H2 H'/\σ=[some (.int k),some (.str (tx l)),some (.ref W),some (.str (tx w)),some (.str (tx (yx k.toNat w))),some (.int (w.length:Nat))]) ?_ ?_
  ·rfl'
   refine xa (fun hk=>⟨by lia,by lia,by lia,fun D hD=>CompR.by (fun i acc H'=>Same H2 H'/\H' D=some (.lst acc)/\acc=(((w.reverse.take i).map fun c=>[c]).map tx).map V.str) ⟨zf hD,ze,rfl⟩ ?_ ?_⟩) fun hk=>?_
   ·rintro i acc H' hi ⟨hs,hH,rfl⟩
    rw[aW] at hi
    have hr:w.reverse[i]? = some (w[w.length - 1 - i]'(by lia)):=by
     rw[bj hi,ak (by lia)]
    have ha:atI w ((w.length:Int) - 1 - (0+(i:Int)))=some (w[w.length - 1 - i]'(by lia)):=by
     rw[show (w.length:Int) - 1 - (0+(i:Int))=((w.length - 1 - i:Nat):Int) by lia]
     exact jZ (ak (by lia))
    simp only[wu]
    rfl'
    refine⟨xj,by lia,by lia,_,ha,hH,by simp only[ag,aJ,bW];lia,CNx.mk (by rw[aW];exact hi) ⟨zK hs hD,ze,?_⟩⟩
    rw[zV hr,aD,aD,aD]
    rfl
   ·rintro acc H' ⟨hs,hH,rfl⟩
    rw[aW,<- bW,aM] at hH
    have hfl:(w.reverse.map fun c=>[c]).flatten=w.reverse:=by
     induction w.reverse with
     | nil=>rfl
     | cons a r ih=>rw[ax,da,ih];rfl
    refine⟨tx [],D,(w.reverse.map fun c=>[c]).map tx,rfl,rfl,SqL.of hH,Ul (by rw[hfl,bW];lia),?_⟩
    have e:Txt.join (tx []) ((w.reverse.map fun c=>[c]).map tx)=Str.join (tx []) ((w.reverse.map fun c=>[c]).map tx):=StrLaws.glued_eq_join _ _
    rw[e,XY,hfl]
    refine⟨hs,?_⟩
    rw[hk]
    rfl
   ·refine⟨Same.refl _,?_⟩
    unfold yx
    rw[if_neg (by lia)]
  rintro σ H3 ⟨s3,rfl⟩
  have hW3:=s3 _ _ hW
  refine zj (fun σ H'=>Same H3 H'/\σ=[some (.int k),some (.str (tx l)),some (.ref W),some (.str (tx w)),some (.str (tx (yx k.toNat w))),some (.int (zt k.toNat l ws w))]) ?_ ?_
  ·rfl'
   refine xa (fun hk=>fun D hD=>CompS.by (fun i acc H'=>Same H3 H'/\H' D=some (.lst acc)/\acc=((w.take i).map fun c=>ws.getD (l.idxOf c) 0).map V.int) ⟨zf hD,ze,rfl⟩ ?_ ?_) fun hk=>?_
   ·rintro i c acc H' hc ⟨hs,hH,rfl⟩
    have hci:=(List.getElem?_eq_some_iff.mp hc).1
    have hcl:=hm c (ac hc)
    have hlt:=bI hcl
    have ea:atI (ws.map V.int) ((l.idxOf c:Nat):Int)=some (.int (ws.getD (l.idxOf c) 0)):=by
     refine jZ ?_
     rw[aE,ae,ak (by lia)]
     rfl
    simp only[wu]
    rfl'
    refine⟨xj,.inl ⟨_,SqL.of (hs _ _ hW3),_,by rw[Wg hcl];exact ea,hH,by simp only[ag,aJ];lia,CNx.mk hci ⟨zK hs hD,ze,?_⟩⟩⟩
    rw[zV hc,aD,aD]
    rfl
   ·rintro acc H' ⟨hs,hH,rfl⟩
    rw[aM] at hH
    refine⟨D,_,rfl,SqL.of hH,hs,congrArg V.int ?_⟩
    have e2:=jK (ls:=l) (ns:=ws) lnd hwl (w:=w) hm
    unfold V3 at e2
    unfold zt
    rw[if_pos (by lia),<- e2]
    rfl
   ·refine⟨Same.refl _,?_⟩
    unfold zt
    rw[if_neg (by lia)]
  rintro σ H4 ⟨s4,rfl⟩
  rfl'
  intro D hD
  have hsm:∀ c ∈ yx k.toNat w,c ∈ l:=fun c hc=>by
   unfold yx at hc
   split at hc
   ·exact hm c (List.mem_reverse.mp hc)
   ·exact hm c hc
  have hsl:(yx k.toNat w).length<=1000:=by
   unfold yx
   split
   ·rw[bW];exact hw
   ·exact hw
  refine CompS.by (fun i acc H'=>Same H4 H'/\H' D=some (.lst acc)/\acc=(uz l ((yx k.toNat w).take i)).map V.int) ⟨zf hD,ze,rfl⟩ ?_ ?_
  ·rintro i c acc H' hc ⟨hs,hH,rfl⟩
   have hci:=(List.getElem?_eq_some_iff.mp hc).1
   have hcl:=hsm c (ac hc)
   simp only[wu]
   rfl'
   rw[Wg hcl]
   refine⟨xj,hH,by rw[ag];unfold uz;rw[ag,aJ];lia,CNx.mk hci ⟨zK hs hD,ze,?_⟩⟩
   unfold uz
   rw[zV hc,aD,aD]
   rfl
  ·rintro acc H' ⟨hs,hH,rfl⟩
   rw[aM] at hH
   exact⟨by lia,fun p hp=>q p D _ (s3.trans (s4.trans (hs.trans (zf hp)))) ze (zf hp _ _ hH)⟩
theorem ThinL.pairs{k:Nat}{l:List Nat}{ns:List Int}{zs bs:List Ent}(h:ThinL k l ns zs)(hp:zd bs=zd zs)(hE:∀ e ∈ bs,EB l e):ThinL k l ns bs:=by
 have key:∀(i:Nat) (a:Ent),bs[i]? = some a->∃ z,zs[i]? = some z/\z.1=a.1/\z.2.1=a.2.1:=fun i a ha=>by
  have h1:(zd bs)[i]? = some (a.1,a.2.1):=by unfold zd;rw[aE,ha];rfl
  rw[hp] at h1
  unfold zd at h1
  rw[aE] at h1
  obtain⟨z,hz,e⟩:=Option.map_eq_some_iff.mp h1
  exact⟨z,hz,(Prod.ext_iff.mp e).1,(Prod.ext_iff.mp e).2⟩
 refine⟨⟨hE,fun e he=>?_⟩,fun i j a b ha hb hij=>?_,fun i j a b ha hb hij=>?_,fun i j a b ha hb=>?_⟩
 ·obtain⟨i,hi⟩:=List.mem_iff_getElem?.mp he
  obtain⟨z,hz,e1,e2⟩:=key i e hi
  rw[<- e1,<- e2]
  exact h.rl.lt z (ac hz)
 all_goals
  obtain⟨x,hx,e1,e2⟩:=key i a ha
  obtain⟨y,hy,f1,f2⟩:=key j b hb
  rw[<- f1]
 ·rw[<- e1]
  exact h.up i j x y hx hy hij
 ·rw[<- e1]
  exact h.no1 i j x y hx hy hij
 ·rw[<- e2]
  exact h.no2 i j x y hx hy
theorem Ug{k:Nat}{l:List Nat}{ws:List Int}{u v:List Nat}{p p' r r':Addr}{H:Hp}{Q:VK}(hp:H p=some (.tup [.int (zt k l ws u),.ref p']))(hp':H p'=some (.lst ((wX k l u).map V.int)))(hr:H r=some (.tup [.int (zt k l ws v),.ref r']))(hr':H r'=some (.lst ((wX k l v).map V.int)))(q:Q (.bl (zR k l ws u v)) H):zaM K (.ref p) (.ref r) H Q:=by
 refine Vr (vL hp hp') (vL hr hr') (by simp only[dpD,v0,jX];decide) (by simp only[okD,jB];exact⟨trivial,vw _ _,trivial⟩) ?_
 rw[Z9]
 exact q
theorem KS{w p:List Nat}{b:Bool}(h:¬ Within p w)(hb:b=true ↔ ∃ q:Nat,q+p.length<=w.length/\(w.drop q).take p.length=p):b=false:=by
 cases b with
 | false=>rfl
 | true =>
  obtain⟨q,h1,h2⟩:=hb.mp rfl
  refine absurd (W3 (q:=q) ?_) h
  exact decide_eq_true ⟨by lia,by lia,by rw[aW];exact h2⟩
noncomputable abbrev zbo(mg:Str->Option Value):Prop:=mg "any" = none
noncomputable def RkAt(H:Hp)(R:Addr)(k:Nat)(l:List Nat)(ws:List Int)(u:List Nat):Prop:=∃ R':Addr,H R=some (.tup [.int (zt k l ws u),.ref R'])/\H R'=some (.lst ((wX k l u).map V.int))
theorem RkAt.same{H H':Hp}{R:Addr}{k:Nat}{l:List Nat}{ws:List Int}{u:List Nat}(h:RkAt H R k l ws u)(s:Same H H'):RkAt H' R k l ws u:=let ⟨R',a,b⟩:=h; ⟨R',s _ _ a,s _ _ b⟩
theorem RkAt.lt{H:Hp}{R R2:Addr}{k:Nat}{l:List Nat}{ws:List Int}{u v:List Nat}{Q:VK}(h:RkAt H R k l ws u)(h2:RkAt H R2 k l ws v)(q:Q (.bl (zR k l ws u v)) H):zaM K (.ref R) (.ref R2) H Q:=by
 obtain⟨R',a,b⟩:=h
 obtain⟨R2',a2,b2⟩:=h2
 exact Ug a b a2 b2 q
noncomputable def j7(K:ot):Sp:=fun vs H Q _=>∃(D W:Addr) (k:Int) (l:List Nat) (ws:List Int) (bs:List Ent),vs=[.ref D,.int k,.str (tx l),.ref W]/\0<=k/\k<3/\uq l=true/\H W=some (.lst (ws.map V.int))/\ws.length=l.length/\(∀ n ∈ ws,1<=n/\n<=1000000)/\EnsL K H D bs/\ThinL k.toNat l ws bs/\∀ H',Same H H'->Q (.bl true) H'
theorem io:zr ["_law_found","_law_kind","_law_letters_here","_law_weights","_law_k","_law_entry","_law_rank_here","_law_ahead","_law_n","_law_other"] ["_law_found","_law_kind","_law_letters_here","_law_weights"] (zb qr):=⟨rfl,rfl,rfl,by decide +kernel,rfl,by decide +kernel,by decide +kernel⟩
theorem QW{f:Addr}{fd:FuncData}(B:Bt mg)(hany:zbo mg)(F:Fun K "_law_thin" "_law_thin" qr f fd)(nv:Df P w K mg base CX0 1 "_law_rank" ["_law_kind","_law_letters_here","_law_weights","_law_word_here"] [] uS):ye P w K mg base CX0 2 f fd ["_law_found","_law_kind","_law_letters_here","_law_weights"] (j7 K):=by
 refine F.ok io (fun vs H Q E h=>?_) (fun cdv A outer s H vs Q E hr h=>?_)
 ·obtain⟨D,W,k,l,ws,bs,rfl,_⟩:=h
  rfl
 ·obtain⟨D,W,k,l,ws,bs,rfl,k0,k3,hg,hW,hwl,hwb,hM,hT,q⟩:=h
  refine⟨_,(zi (yV PassesOwn.never rfl (wl rfl B.enum (za (pv 0) zc)) (vD (n:=2) rfl (zU (zA (i:=4) io.nd rfl (Or.inl rfl)) (zU (zA (i:=5) io.nd rfl (Or.inl rfl)) wd)))
    (zi (zx (i:=6) io.nd rfl (Or.inl rfl) (cl0 nv hr .nil rfl (za (pv 1) (za (pv 2) (za (pv 3) (za (zp ix_tup (pv 5) zg (fun _ _=>rfl)) zc))))))
    (zi (zZ (xv (zm (Jv rfl) rfl hany dk (za (yD (own:=["_law_sign"]) (caps:=["_law_letters_here"]) (ix:=[2]) (tt:=wu) (te:=(tOp zaU (yK 0) (yK 1))) rfl (zO (sc:=zb qr) rfl (by decide +kernel) (by decide +kernel) (by decide +kernel) rfl (by decide +kernel) (by decide +kernel) rfl) (Zj (zI op_add_str (zp ix_tup (pv 5) zg (fun _ _=>rfl)) (zp ix_tup (pv 5) zg (fun _ _=>rfl)))) (fun _ _ _ _ _ _=>zA (i:=0) (show List.Nodup [_,_] by decide) rfl (Or.inl rfl)) (fun _ _ _ _ _ _=>yE) (fun _ _ _ _ _ _=>(wo zaq (pv 0) (pv 1) (by with_unfolding_all rfl)))) zc)) (fun _=>rfl))
     (zh (zu y0))
     zC)
    (zi (zZ (yn (zE (Ww (qG hr)) (cl0 nv hr .nil rfl (za (pv 1) (za (pv 2) (za (pv 3) (za (zp ix_tup (pv 5) zg (fun _ _=>rfl)) zc))))) (pv 6) (zJ _)))
     (zh (zu y0))
     zC)
    (zi (zZ (zE op_gt (pv 4) zg (zJ _))
     (zi (zx (i:=7) io.nd rfl (Or.inl rfl) (cl0 nv hr .nil rfl (za (pv 1) (za (pv 2) (za (pv 3) (za (zp ix_tup (zp ix_list (pv 0) (zI vA (pv 4) zg) (fun _ _=>rfl)) zg (fun _ _=>rfl)) zc))))))
     (zh (zZ (yn (zE (Ww (qG hr)) (pv 7) (pv 6) (zJ _)))
      (zh (zu y0))
      zC)))
     zC)
    (zh (yV PassesOwn.never rfl (wl rfl B.enum (za (pv 0) zc)) (vD (n:=2) rfl (zU (zA (i:=8) io.nd rfl (Or.inl rfl)) (zU (zA (i:=9) io.nd rfl (Or.inl rfl)) wd)))
     (zh (zZ (PW.pt (vt (zE Qn (zp ix_tup (pv 9) zg (fun _ _=>rfl)) (zp ix_tup (pv 5) zg (fun _ _=>rfl)) (by with_unfolding_all rfl)) (vz (PW.pt (KK (zE ZU (pv 8) (pv 4) (zJ _)) (Q5 (zE Qn (zp ix_tup (pv 9) zg (fun _ _=>rfl)) (zp ix_tup (pv 5) zg (fun _ _=>rfl)) (by with_unfolding_all rfl))))))))
      (zh (zu y0))
      zC)))))))))
   (zh (zu y0))),?_⟩
  have s16:=yf
  have s16:=yf
  obtain⟨xs,hX,hI⟩:=id hM
  have hxl:=hI.len
  refine zj (fun σ H'=>Same H H') ?_ ?_
  ·rfl'
   refine⟨⟨_,hX⟩,ForEL.by (xs:=xs) (fun i σ H'=>Same H H'/\∃ v4 v5 v6 v7 v8 v9,σ=[some (.ref D),some (.int k),some (.str (tx l)),some (.ref W),v4,v5,v6,v7,v8,v9]) ⟨Same.refl _,none,none,none,none,none,none,rfl⟩ (fun i σ H' _ h=>h.1.seq hX) ?_ fun σ H' h=>h.1⟩
   rintro i x σ H1 p hx ⟨s1,v4,v5,v6,v7,v8,v9,rfl⟩ hp
   obtain⟨e,pe,se,hei,rfl,hqe,hse⟩:=hI.get hx
   have hEe:=hT.rl.e e (ac hei)
   have hie:=(List.getElem?_eq_some_iff.mp hei).1
   have sp:=zf (o:=.tup [.int (i:Nat),.ref pe]) hp
   have s1p:=s1.trans sp
   rfl'
   refine⟨_,SqT.of ze,rfl,_,_,rfl,_,_,rfl,rfl,?_⟩
   generalize upd H1 p (.tup [.int (i:Nat),.ref pe])=H2 at s1p
   refine zj (fun σ H'=>Same H H'/\∃ R:Addr,RkAt H' R k.toNat l ws e.1/\σ=[some (.ref D),some (.int k),some (.str (tx l)),some (.ref W),some (.int (i:Nat)),some (.ref pe),some (.ref R),v7,v8,v9]) ?_ ?_
   ·rfl'
    exact⟨_,zk s1p hqe,_,rfl,uZ k0 k3 hg (s1p _ _ hW) hwl hwb (by have:=hEe.a;lia) hEe.ma fun R R' H' s' h1 h2=>⟨s1p.trans s',R,⟨R',h1,h2⟩,rfl⟩⟩
   rintro σ H3 ⟨s3,R,hR,rfl⟩
   have hq3:=zk s3 hqe
   have ha:=hEe.a
   have hb:=hEe.b
   refine zj (fun σ H'=>Same H3 H'/\σ=[some (.ref D),some (.int k),some (.str (tx l)),some (.ref W),some (.int (i:Nat)),some (.ref pe),some (.ref R),v7,v8,v9]) ?_ ?_
   ·rfl'
    refine⟨_,hq3,_,rfl,_,hq3,_,rfl,_,rfl,_,rfl,by rw[zQ,zQ];lia,fun A2 hA2=>?_⟩
    rw[wC]
    have hmem:∀ x ∈ e.1 ++ e.2.1,x ∈ l:=fun x hx=>(List.mem_append.mp hx).elim (hEe.ma x) (hEe.mb x)
    have hfl:(e.1 ++ e.2.1).length<=120:=by rw[au];lia
    generalize e.1 ++ e.2.1=fl at *
    refine CompS.by (fun i acc H''=>Same H3 H''/\H'' A2=some (.lst acc)/\acc=(aO i false).map V.bl) ⟨zf hA2,ze,rfl⟩ ?_ ?_
    ·rintro i c2 acc H'' hc2 ⟨hs2,hH2,rfl⟩
     have hci:=(List.getElem?_eq_some_iff.mp hc2).1
     have hcl:=hmem c2 (ac hc2)
     simp only[wu]
     rfl'
     refine⟨xj,hH2,by rw[ag,bi];lia,CNx.mk hci ⟨zK hs2 hA2,ze,?_⟩⟩
     rw[dv,aD]
     simp [hcl]
    ·rintro acc H'' ⟨hs2,hH2,rfl⟩
     refine⟨A2,aO fl.length false,rfl,SqL.of hH2,false,by simp,?_⟩
     rw[if_neg (by decide)]
     exact hs2
   rintro σ H4 ⟨s4,rfl⟩
   have s34:=s3.trans s4
   refine zj (fun σ H'=>Same H4 H'/\σ=[some (.ref D),some (.int k),some (.str (tx l)),some (.ref W),some (.int (i:Nat)),some (.ref pe),some (.ref R),v7,v8,v9]) ?_ ?_
   ·rfl'
    refine⟨_,zk s4 hq3,_,rfl,uZ k0 k3 hg (s34 _ _ hW) hwl hwb (by lia) hEe.mb fun R2 R2' H' s' h1 h2=>RkAt.lt ⟨R2',h1,h2⟩ (hR.same (s4.trans s')) ?_⟩
    rw[hT.rl.lt e (ac hei)]
    refine⟨true,rfl,?_⟩
    rw[if_neg (by decide)]
    exact s'
   rintro σ H5 ⟨s5,rfl⟩
   have s35:=s34.trans s5
   refine zj (fun σ H'=>Same H5 H'/\∃ v7,σ=[some (.ref D),some (.int k),some (.str (tx l)),some (.ref W),some (.int (i:Nat)),some (.ref pe),some (.ref R),v7,v8,v9]) ?_ ?_
   ·rfl'
    refine xa (fun hi0=>?_) fun _=>by first | exact⟨Same.refl _,rfl⟩ | exact Same.refl _
    have hi1:1<=i:=by lia
    have hgx:xs[i - 1]? = some (xs[i - 1]'(by lia)):=ak (by lia)
    obtain⟨g,pg,sg,hgi,hgv,hqg,_⟩:=hI.get hgx
    rw[hgv] at hgx
    have hEg:=hT.rl.e g (ac hgi)
    have hat:atI xs ((i:Int) - 1)=some (.ref pg):=by
     rw[show (i:Int) - 1=((i - 1:Nat):Int) by lia]
     exact jZ hgx
    refine zj (fun σ H'=>Same H5 H'/\∃ R2:Addr,RkAt H' R2 k.toNat l ws g.1/\σ=[some (.ref D),some (.int k),some (.str (tx l)),some (.ref W),some (.int (i:Nat)),some (.ref pe),some (.ref R),some (.ref R2),v8,v9]) ?_ ?_
    ·rfl'
     exact⟨_,s35.seq hX,_,hat,_,rfl,_,zk s35 hqg,_,rfl,uZ k0 k3 hg (s35 _ _ hW) hwl hwb (by have:=hEg.a;lia) hEg.ma fun R2 R2' H' s' h1 h2=>⟨s',R2,⟨R2',h1,h2⟩,rfl⟩⟩
    rintro σ H6 ⟨s6,R2,hR2,rfl⟩
    rfl'
    refine RkAt.lt hR2 (hR.same (s4.trans (s5.trans s6))) ?_
    rw[hT.up (i - 1) i g e hgi hei (by lia)]
    refine⟨true,rfl,?_⟩
    rw[if_neg (by decide)]
    first | exact⟨s6,rfl⟩ | exact s6
   rintro σ H6 ⟨s6,v7',rfl⟩
   have s36:=s35.trans s6
   rfl'
   refine⟨⟨_,s36.seq hX⟩,ForEL.by (xs:=xs) (fun j σ H'=>Same H H'/\∃ v7 v8 v9,σ=[some (.ref D),some (.int k),some (.str (tx l)),some (.ref W),some (.int (i:Nat)),some (.ref pe),some (.ref R),v7,v8,v9]) ⟨s36,_,_,_,rfl⟩ (fun i σ H' _ h=>h.1.seq hX) ?_ ?_⟩
   ·rintro j y σ H7 p2 hy ⟨s7,w7,w8,w9,rfl⟩ hp2
    obtain⟨f,pf,sf,hfj,rfl,hqf,_⟩:=hI.get hy
    have sp2:=s7.trans (zf (o:=.tup [.int (j:Nat),.ref pf]) hp2)
    rfl'
    refine⟨_,SqT.of ze,rfl,_,_,rfl,_,_,rfl,rfl,_,rfl,_,zk sp2 hqf,_,rfl,_,zk sp2 hqe,_,rfl,f.1,e.2.1,rfl,rfl,fun b hb=>?_⟩
    rw[KS (hT.no2 i j e f hei hfj) hb]
    refine⟨false,rfl,?_⟩
    rw[if_neg (by decide)]
    refine⟨rfl,xa (fun hne=>⟨_,rfl,_,zk sp2 hqf,_,rfl,_,zk sp2 hqe,_,rfl,f.1,e.1,rfl,rfl,fun b2 hb2=>?_⟩) fun _=>sp2⟩
    rw[KS (hT.no1 i j e f hei hfj (fun z=>hne (by rw[z]))) hb2]
    refine⟨false,rfl,?_⟩
    rw[if_neg (by decide)]
    exact sp2
   ·rintro σ H' ⟨h,w7,w8,w9,rfl⟩
    exact⟨h,_,_,_,_,_,_,rfl⟩
  rintro σ H2 s2
  rfl'
  exact q _ s2
structure TNT(K:ot)(mg:Str->Option Value)(C:Addr):Prop where
 xi:XI K C
 g:mg "NotTurned" = some (.ref C)
 na:NoAttr K C "number"
theorem vW:zr ["self","number"] ["self","number"] (zb z6):=⟨rfl,rfl,rfl,by decide +kernel,rfl,by decide +kernel,by decide +kernel⟩
theorem vX{f C:Addr}{fd:FuncData}(T:TNT K mg C)(F:Fun K "__init__" "NotTurned.__init__" z6 f fd):ye P w K mg base CX0 1 f fd ["self","number"] (vk C "number"):=by
 refine F.ok vW (fun vs H Q E h=>?_) (fun cdv A outer s H vs Q E hr h=>?_)
 ·obtain⟨x,v,rfl,_⟩:=h
  rfl
 ·obtain⟨x,v,rfl,hx,q⟩:=h
  refine⟨_,(zh (WP (pv 0) (pv 1) rfl)),?_⟩
  simp only[QO]
  rfl'
  exact⟨C,hx,T.xi.toXC,T.na,q⟩
structure DNT(P:Program)(w:World)(K:ot)(mg:Str->Option Value)(base:Heap)(C:Addr):Prop extends TNT K mg C where
 ini:∃ f fd,af K (.ref C) "__init__" = some (some (.ref f))/\aY K (.ref f)=true/\ye P w K mg base CX0 1 f fd ["self","number"] (vk C "number")/\Binds K fd ["self","number"] []
structure K2(K:ot)(mg:Str->Option Value)(CH:Addr):Prop where
 cl:Cls K CH
 g:mg "System" = some (.ref CH)
 no:NoAttr K CH "order"
 nr:NoAttr K CH "rules"
noncomputable def wF(k:Nat)(l:List Nat)(ns:List Int):List zB->Nat->Option Nat
 | [],_=>none
 | r::rs,i=>if zR k l ns r.2 r.1=true then wF k l ns rs (i+1) else some i
theorem Y3{k:Nat}{l:List Nat}{ns:List Int}:∀{ps:List zB} {j i:Nat} {r:zB},(∀(m:Nat) (p:zB),m<i->ps[m]? = some p->zR k l ns p.2 p.1=true)->ps[i]? = some r->zR k l ns r.2 r.1=false->wF k l ns ps j=some (j+i)
 | [],_,_,_,_,h,_=>by simp at h
 | p::ps,j,0,r,_,h,hl=>by
  cases h
  rw[wF,hl,if_neg aC]
  rfl
 | p::ps,j,i+1,r,hb,h,hl=>by
  rw[wF,if_pos (hb 0 p (Nat.succ_pos _) rfl),Y3 (i:=i) (fun m q hm e=>hb (m+1) q (by lia) e) h hl]
  congr 1
  lia
theorem vU{k:Nat}{l:List Nat}{ns:List Int}:∀{ps:List zB} {j:Nat},(∀(m:Nat) (p:zB),ps[m]? = some p->zR k l ns p.2 p.1=true)->wF k l ns ps j=none
 | [],_,_=>rfl
 | p::ps,j,hb=>by
  rw[wF,if_pos (hb 0 p rfl)]
  exact vU fun m q e=>hb (m+1) q e
noncomputable def InL(l:List Nat)(ps:List zB):Prop:=∀ p ∈ ps,p.1.length<=1000/\p.2.length<=1000/\(∀ c ∈ p.1,c ∈ l)/\∀ c ∈ p.2,c ∈ l
noncomputable def uD(K:ot)(CO CR CW CT CH:Addr):Sp:=fun vs H Q E=>∃(x dx o a:Addr) (k:Nat) (l:List Nat) (ns:List Int) (ps:List zB) (xs:List V),vs=[.ref x,.ref o,.ref a]/\H x=some (.ins CH dx [])/\OrdAt CO CR CW H o k l ns/\OG l ns k/\H a=some (.lst xs)/\Iss K H (ps.map dR) xs/\InL l ps /\
 (∀ i,wF k l ns ps 0=some i->∀ H1,Same H H1->∀ d H',zbB H1 d "number" (.int (i:Nat)) H'->E (.ref CT) (some d) H') /\
 (wF k l ns ps 0=none->∀(q:Addr) (H':Hp),(∀ b o',b≠x->H b=some o'->H' b=some o')->H' x=some (.ins CH dx [("order",.ref o),("rules",.ref q)])->H' q=some (.lst xs)->H q=none->Q .non H')
theorem ip:zr ["self","order","rules","number","rule"] ["self","order","rules"] (zb yB):=⟨rfl,rfl,rfl,by decide +kernel,rfl,by decide +kernel,by decide +kernel⟩
theorem jb{f CO CR CW CT CH:Addr}{fd:FuncData}(B:Bt mg)(T:DNT P w K mg base CT)(TS:K2 K mg CH)(DBk:DB P w K mg base CO CR CW)(F:Fun K "__init__" "System.__init__" yB f fd) : ye P w K mg base (CXx P w) 5 f fd ["self","order","rules"] (uD K CO CR CW CT CH):=by
 obtain⟨fi,fdi,hi,hfn,Fi,Bi⟩:=T.ini
 refine Fun.okX F ip (fun vs H Q E h=>?_) (fun cdv A outer s H vs Q E hr hx h=>?_)
 ·obtain⟨x,dx,o,a,k,l,ns,ps,xs,rfl,_⟩:=h
  rfl
 ·obtain⟨x,dx,o,a,k,l,ns,ps,xs,rfl,hx0,ho,hG,hA,hI,hP,q1,q2⟩:=h
  refine⟨_,(zi (yV PassesOwn.leaving rfl (wl rfl B.enum (za (pv 2) zc)) (vD (n:=2) rfl (zU (zA (i:=3) ip.nd rfl (Or.inl rfl)) (zU (zA (i:=4) ip.nd rfl (Or.inl rfl)) wd)))
    (zh (zZ (yn (xv (Kc DBk hr (pv 1) (za (zp ix_tup (pv 4) zg (fun _ _=>rfl)) (za (zp ix_tup (pv 4) zg (fun _ _=>rfl)) zc))) (fun _=>rfl)))
     (zh (Zg hx rfl T.xi.toXC hi hfn Fi (hr.mono (by decide)) Bi rfl T.g (za (pv 3) zc)))
     zC)))
   (zi (Yl (pv 0) (pv 1) rfl)
   (zh (Yl (pv 0) (xW xE rfl B.list PySem.Pv.boot_list (za (pv 2) zc)) rfl)))),?_⟩
  have s16:=yf
  refine zj (fun σ H'=>Same H H'/\wF k l ns ps 0=none/\∃ v3 v4,σ=[some (.ref x),some (.ref o),some (.ref a),v3,v4]) ?_ ?_
  ·repeat (first | rfl' | simp only[yq,zw,zH,yy,yw,zv])
   refine⟨⟨_,SqL.of hA⟩,ForEL.by (xs:=xs) (fun i σ H'=>Same H H'/\(∀(j:Nat) (p:zB),j<i->ps[j]? = some p->zR k l ns p.2 p.1=true)/\∃ v3 v4,σ=[some (.ref x),some (.ref o),some (.ref a),v3,v4]) ⟨Same.refl _,fun j p h=>absurd h (cP j),_,_,rfl⟩ ?_ ?_ ?_⟩
   ·rintro i σ H' _ ⟨hs,_⟩
    exact SqL.of (hs _ _ hA)
   ·rintro i y σ H' p hy ⟨hs,hb,v3,v4,rfl⟩ hpn
    obtain⟨r,pr,hri,rfl,hqr⟩:=hI.getR hy
    have hm:=hP r (ac hri)
    have s2:=hs.trans (zf (o:=.tup [.int (i:Nat),.ref pr]) hpn)
    have ho2:=ho.same s2
    have hq2:=zk s2 hqr
    obtain⟨C,dy,fs,hf,hoC,hn,_⟩:=ho2.fam
    have hn1:fs.lookup ("before" : Str)=none:=hn _ (by decide) (by decide)
    repeat (first | rfl' | simp only[yq,zw,zH,yy,yw,zv])
    refine⟨_,SqT.of ze,rfl,_,_,rfl,_,_,rfl,rfl,C,hf,dy,fs,hoC,hn1,_,rfl,_,hq2,_,rfl,_,rfl,_,hq2,_,rfl,o,k,l,ns,r.2,r.1,rfl,ho2,hG,hm.2.1,hm.1,hm.2.2.2,hm.2.2.1,fun H3 s3=>?_⟩
    have s16:=yf
    refine⟨_,rfl,xa (fun e=>⟨by lia,VL (q1 i (by have:=Y3 (j:=0) hb hri e;simpa using this) H3 (s2.trans s3))⟩) fun e=>⟨s2.trans s3,fun j p' hj hp'=>?_⟩⟩
    by_cases hj':j<i
    ·exact hb j p' hj' hp'
    ·have:j=i:=by lia
     rw[this,hri] at hp'
     cases hp'
     simpa using e
   ·rintro σ H' ⟨hs,hb,v3,v4,rfl⟩
    have hxl:=hI.len
    rw[ag] at hxl
    exact⟨hs,vU fun m p e=>hb m p (by have:=(List.getElem?_eq_some_iff.mp e).1;lia) e,v3,v4,rfl⟩
  rintro σ H1 ⟨s1,hf,v3,v4,rfl⟩
  refine zj (fun σ H'=>H'=upd H1 x (.ins CH dx [("order",.ref o)])/\σ=[some (.ref x),some (.ref o),some (.ref a),v3,v4]) ?_ ?_
  ·repeat (first | rfl' | simp only[yq,zw,zH,yy,yw,zv])
   exact⟨_,_,_,s1 _ _ hx0,TS.cl,TS.no,by decide,rfl⟩
  rintro σ H2 ⟨rfl,rfl⟩
  repeat (first | rfl' | simp only[yq,zw,zH,yy,yw,zv])
  have hax:a≠x:=fun e=>by rw[e,hx0] at hA;cases hA
  refine⟨xs,.inl (SqL.of (by rw[zq hax];exact s1 _ _ hA)),fun q hq=>?_⟩
  have hqx:q≠x:=fun e=>by rw[e,ze] at hq;cases hq
  rw[zq hqx] at hq
  have hqH:H q=none:=by
   cases e:H q with
   | none=>rfl
   | some o'=>rw[s1 _ _ e] at hq;cases hq
  refine⟨CH,dx,_,by rw[zq hqx.symm,ze],TS.cl,TS.nr,by show 1<1000;decide,q2 hf q _ (fun b o' hb e=>?_) ze (by rw[zq hqx,ze]) hqH⟩
  rw[zq hb,zq (fun z=>by rw[z,hqH] at e;cases e),zq hb]
  exact s1 _ _ e
noncomputable def UV(K:ot)(CH:Addr)(H:Hp)(y o q:Addr)(ps:List zB):Prop:=∃ dx xs,H y=some (.ins CH dx [("order",.ref o),("rules",.ref q)])/\H q=some (.lst xs)/\Iss K H (ps.map dR) xs
noncomputable def wb(l m:List Nat)(k:Nat):Bool:=decide ((l.drop k).take m.length=m.take (l.length - k))
noncomputable def lf(rs:List zB)(i:Nat):List Nat:=(rs.getD i ([],[])).1
theorem vH{rs:List zB}{i:Nat}{r:zB}(h:rs[i]? = some r):lf rs i=r.1:=by unfold lf;rw[ae,h];rfl
noncomputable def ZF(rs:List zB)(i j n:Nat):List N3:=((aS n).filter fun k=>(decide (i≠j) || decide (k≠0)) && wb (lf rs i) (lf rs j) k).map fun k=>(i,j,k)
noncomputable def ovI(rs:List zB)(i m:Nat):List N3:=(aS m).flatMap fun j=>ZF rs i j (lf rs i).length
noncomputable def ovA(rs:List zB)(m:Nat):List N3:=(aS m).flatMap fun i=>ovI rs i rs.length
theorem qu(rs:List zB)(i j n:Nat):ZF rs i j (n+1)=ZF rs i j n ++ (if ((decide (i≠j) || decide (n≠0)) && wb (lf rs i) (lf rs j) n)=true then [(i,j,n)] else []):=by
 unfold ZF
 rw[cy,cz,aD]
 congr 1
 simp only[d6,cQ]
 split <;> rfl
theorem uL(rs:List zB)(i m:Nat):ovI rs i (m+1)=ovI rs i m ++ ZF rs i m (lf rs i).length:=by
 unfold ovI
 rw[cy,cH]
 simp
theorem ka(rs:List zB)(m:Nat):ovA rs (m+1)=ovA rs m ++ ovI rs m rs.length:=by
 unfold ovA
 rw[cy,cH]
 simp
theorem uI(rs:List zB)(i j n:Nat):(ZF rs i j n).length<=n:=by
 unfold ZF
 rw[ag]
 have:=cC (fun k=>(decide (i≠j) || decide (k≠0)) && wb (lf rs i) (lf rs j) k) (aS n)
 rw[db] at this
 exact this
theorem KN{rs:List zB}(h:j9 rs)(i:Nat):(lf rs i).length<=100:=by
 cases e:rs[i]? with
 | none=>unfold lf;rw[ae,e];exact aG _
 | some r=>rw[vH e];exact (h.2 r (ac e)).1
theorem ZS{rs:List zB}(h:j9 rs)(i m:Nat):(ovI rs i m).length<=m * 100:=by
 induction m with
 | zero=>exact aG _
 | succ m ih =>
  rw[uL,au]
  have h1:=uI rs i m (lf rs i).length
  have h2:=KN h i
  lia
theorem XU{rs:List zB}(h:j9 rs)(m:Nat):(ovA rs m).length<=m * 3000:=by
 induction m with
 | zero=>exact aG _
 | succ m ih =>
  rw[ka,au]
  have h1:=ZS h m rs.length
  have h2:=h.1
  lia
noncomputable def uM:Sp:=fun vs H Q _=>∃(l m:List Nat) (k:Nat),vs=[.str (tx l),.str (tx m),.int (k:Nat)]/\l.length<=1000/\m.length<=1000/\k<=l.length/\Q (.bl (wb l m k)) H
theorem Zy{l m:List Nat}{k:Nat}{H:Hp}{Q:VK}{E:XK}(h1:l.length<=1000)(h2:m.length<=1000)(h3:k<=l.length)(h:Q (.bl (wb l m k)) H):uM [.str (tx l),.str (tx m),.int (k:Nat)] H Q E:=⟨l,m,k,rfl,h1,h2,h3,h⟩
theorem US:zr ["one","other","place"] ["one","other","place"] (zb vS):=⟨rfl,rfl,rfl,by decide +kernel,rfl,by decide +kernel,by decide +kernel⟩
theorem Uc{f:Addr}{fd:FuncData}(B:Bt mg)(F:Fun K "agree" "agree" vS f fd) : ye P w K mg base CX0 1 f fd ["one","other","place"] uM:=by
 refine F.ok US (fun vs H Q E h=>?_) (fun cdv A outer s H vs Q E hr h=>?_)
 ·obtain⟨l,m,k,rfl,_⟩:=h
  rfl
 ·obtain⟨l,m,k,rfl,hl,hm,hk,q⟩:=h
  refine⟨_,(zh (zu (wo qo (yA wB (pv 0) (yC (pv 2)) (yC (zI op_add (pv 2) (zm yb rfl B.len ay (za (pv 1) zc))))) (yA wB (pv 1) xN (yC (zI vA (zm yb rfl B.len ay (za (pv 0) zc)) (pv 2)))) (zJ _)))),?_⟩
  have s16:=yf
  rfl'
  refine⟨by lia,by lia,by lia,by lia,?_⟩
  rw[zam _ (by lia) (by lia),kJ _ (by lia)]
  have e1:((k:Int)+(m.length:Int) - (k:Int)).toNat=m.length:=by lia
  have e2:((l.length:Int) - (k:Int)).toNat=l.length - k:=by lia
  rw[e1,e2]
  exact q
noncomputable def wg(K:ot):Sp:=fun vs H Q _=>∃(a:Addr) (rs:List zB),vs=[.ref a]/\Is K H (.lst (rs.map dR)) (.ref a)/\j9 rs/\∀ D H',H D=none->Same H H'->LsA K H' D ((ovA rs rs.length).map d3)->Q (.ref D) H'
theorem Zr{a:Addr}{rs:List zB}{H:Hp}{Q:VK}{E:XK}(h1:Is K H (.lst (rs.map dR)) (.ref a))(h2:j9 rs)(h:∀ D H',H D=none->Same H H'->LsA K H' D ((ovA rs rs.length).map d3)->Q (.ref D) H'):wg K [.ref a] H Q E:=⟨a,rs,rfl,h1,h2,h⟩
theorem gb:zr ["rules","found","i","one","j","other","place"] ["rules"] (zb xu):=⟨rfl,rfl,rfl,by decide +kernel,rfl,by decide +kernel,by decide +kernel⟩
theorem ZW{f:Addr}{fd:FuncData}(B:Bt mg)(F:Fun K "overlaps" "overlaps" xu f fd)(nS:Df P w K mg base CX0 1 "agree" ["one","other","place"] [] uM):ye P w K mg base CX0 2 f fd ["rules"] (wg K):=by
 refine F.ok gb (fun vs H Q E h=>?_) (fun cdv A outer s H vs Q E hr h=>?_)
 ·obtain⟨a,rs,rfl,_⟩:=h
  rfl
 ·obtain⟨a,rs,rfl,hR,ok,q⟩:=h
  refine⟨_,(zM (zx (i:=1) gb.nd rfl (Or.inl rfl) (ue zc))
   (zM (yV PassesOwn.never rfl (wl rfl B.enum (za (pv 0) zc)) (vD (n:=2) rfl (zU (zA (i:=2) gb.nd rfl (Or.inl rfl)) (zU (zA (i:=3) gb.nd rfl (Or.inl rfl)) wd)))
    (zh (yV PassesOwn.never rfl (wl rfl B.enum (za (pv 0) zc)) (vD (n:=2) rfl (zU (zA (i:=4) gb.nd rfl (Or.inl rfl)) (zU (zA (i:=5) gb.nd rfl (Or.inl rfl)) wd)))
     (zh (yV PassesOwn.never rfl (VE rfl B.range (za (kC (zE qo (pv 2) (pv 4) (zJ _)) zg zg) (za (zm yb rfl B.len ay (za (zp ix_tup (pv 3) zg (fun _ _=>rfl)) zc)) zc))) (zA (i:=6) gb.nd rfl (Or.inl rfl))
      (zh (zZ (xv (cl0 nS hr .nil rfl (za (zp ix_tup (pv 3) zg (fun _ _=>rfl)) (za (zp ix_tup (pv 5) zg (fun _ _=>rfl)) (za (pv 6) zc)))) (fun _=>rfl))
       (zh (vJ (qF cq cY cZ wx (pv 1) (za (yo (za (pv 2) (za (pv 4) (za (pv 6) zc)))) zc))))
       zC)))))))
   (zh (zu (pv 1))))),?_⟩
  have s16:=yf
  rfl'
  simp only[Is] at hR
  obtain⟨_,xs,e,hX,hI⟩:=hR
  cases e
  refine⟨by lia,fun D hD=>⟨⟨_,(zf hD).seq hX⟩,ForEL.by (xs:=xs) (fun i σ H'=>∃ v2 v3 v4 v5 v6,σ=[some (.ref a),some (.ref D),v2,v3,v4,v5,v6]/\Same H H'/\LsA K H' D ((ovA rs i).map d3)) ⟨none,none,none,none,none,rfl,zf hD,LsA.nil⟩ ?_ ?_ ?_⟩⟩
  ·rintro i σ H' hi ⟨v2,v3,v4,v5,v6,rfl,hs,_⟩
   exact hs.seq hX
  ·rintro i x σ H' p hx ⟨v2,v3,v4,v5,v6,rfl,hs,hL⟩ hp
   obtain⟨r,pr,hri,rfl,hqr⟩:=hI.getR hx
   have er:=vH hri
   have hr1:=(ok.2 r (ac hri)).1
   rfl'
   refine⟨_,SqT.of ze,rfl,_,_,rfl,_,_,rfl,rfl,⟨_,((hs.trans (zf hp)).seq hX)⟩,ForEL.by (xs:=xs) (fun j σ H''=>∃ v4 v5 v6,σ=[some (.ref a),some (.ref D),some (.int (i:Nat)),some (.ref pr),v4,v5,v6]/\Same H H''/\LsA K H'' D ((ovA rs i ++ ovI rs i j).map d3)) ⟨v4,v5,v6,rfl,hs.trans (zf hp),by rw[show ovI rs i 0=[] from rfl,aU];exact hL.same (zf hp)⟩ ?_ ?_ ?_⟩
   ·rintro j σ H2 hj ⟨v4,v5,v6,rfl,hs2,_⟩
    exact hs2.seq hX
   ·rintro j y σ H2 p2 hy ⟨v4,v5,v6,rfl,hs2,hL2⟩ hp2
    obtain⟨r2,pr2,hri2,rfl,hqr2⟩:=hI.getR hy
    have er2:=vH hri2
    have hr2:=(ok.2 r2 (ac hri2)).1
    have hs3:=hs2.trans (zf (o:=.tup [.int (j:Nat),.ref pr2]) hp2)
    have hq1:=zk hs3 hqr
    have el:(tx r.1).length=r.1.length:=zQ _
    rfl'
    refine⟨_,SqT.of ze,rfl,_,_,rfl,_,_,rfl,rfl,rfl,xa (fun h=>?_) fun h=>?_⟩
    ·have hij:i=j:=by injection h with h;lia
     have z0:ZF rs i j (1+0)=[]:=by
      subst hij
      rw[show 1+0=0+1 from rfl,qu]
      simp [ZF]
     have zn:ZF rs i j (1+((r.1.length:Int) - 1).toNat)=ZF rs i j r.1.length:=by
      by_cases h0:r.1.length=0
      ·rw[h0]
       exact z0
      ·rw[show 1+((r.1.length:Int) - 1).toNat=r.1.length by lia]
     refine⟨_,hq1,_,rfl,_,⟨by lia,rfl⟩,by decide,by decide,by lia,by lia,ForR.by (fun t σ H3=>∃ v6,σ=[some (.ref a),some (.ref D),some (.int (i:Nat)),some (.ref pr),some (.int (j:Nat)),some (.ref pr2),v6]/\Same H H3/\LsA K H3 D ((ovA rs i ++ ovI rs i j ++ ZF rs i j (1+t)).map d3)) ⟨v6,rfl,hs3,(by rw[z0,aU];exact hL2.same (zf hp2))⟩ ?_ ?_⟩
     ·rintro n σ H3 hn ⟨v6,rfl,hs4,hL4⟩
      have hn':1+n<r.1.length:=by lia
      have en:((1:Int)+(n:Int))=((1+n:Nat):Int):=by lia
      rw[en]
      obtain⟨ys,hY,hJ⟩:=hL4
      have hlen:=hJ.len
      have l1:=XU ok i
      have l2:=ZS ok i j
      have l3:=uI rs i j (1+n)
      have i1:=(List.getElem?_eq_some_iff.mp hri).1
      have i2:=(List.getElem?_eq_some_iff.mp hri2).1
      have i3:=ok.1
      simp only[ag,au] at hlen
      have es:=qu rs i j (1+n)
      have etest:(decide (i≠j) || decide (1+n≠0))=true:=by rw[show decide (1+n≠0)=true from decide_eq_true (by lia),dn]
      rw[etest,Bool.true_and,er,er2] at es
      rfl'
      refine⟨_,zk hs4 hqr,_,rfl,_,zk hs4 hqr2,_,rfl,Zy (by lia) (by lia) (by lia) ⟨_,rfl,xa (fun hb=>⟨.inl ⟨_,SqL.of hY⟩,by lia,fun t ht=>⟨_,zf ht _ _ hY,by lia,zK (hs4.trans (zf ht)) hD,?_⟩⟩) fun hb=>⟨hs4,ys,hY,?_⟩⟩⟩
      ·rw[hb,if_pos rfl] at es
       rw[show 1+(n+1)=1+n+1 by lia,es,<- aV,aD]
       exact LsA.pushT hY hJ ht Kk (Yw _) (by simp only[ya,xA,and_self])
      ·have hb':wb r.1 r2.1 (1+n)=false:=by simpa using hb
       rw[hb',if_neg aC,aU] at es
       rw[show 1+(n+1)=1+n+1 by lia,es]
       exact hJ
     ·rintro σ H3 ⟨v6,rfl,hs4,hL4⟩
      refine⟨⟨_,_,_,rfl⟩,hs4,?_⟩
      rw[uL,er,<- aV]
      rw[el,zn] at hL4
      exact hL4
    ·have hij:i≠j:=fun z=>h (by rw[z])
     refine⟨_,hq1,_,rfl,_,⟨by lia,rfl⟩,by decide,by decide,by lia,by lia,ForR.by (fun t σ H3=>∃ v6,σ=[some (.ref a),some (.ref D),some (.int (i:Nat)),some (.ref pr),some (.int (j:Nat)),some (.ref pr2),v6]/\Same H H3/\LsA K H3 D ((ovA rs i ++ ovI rs i j ++ ZF rs i j (0+t)).map d3)) ⟨v6,rfl,hs3,(by rw[show ZF rs i j (0+0)=[] from rfl,aU];exact hL2.same (zf hp2))⟩ ?_ ?_⟩
     ·rintro n σ H3 hn ⟨v6,rfl,hs4,hL4⟩
      have hn':0+n<r.1.length:=by lia
      have en:((0:Int)+(n:Int))=((0+n:Nat):Int):=by lia
      rw[en]
      obtain⟨ys,hY,hJ⟩:=hL4
      have hlen:=hJ.len
      have l1:=XU ok i
      have l2:=ZS ok i j
      have l3:=uI rs i j (0+n)
      have i1:=(List.getElem?_eq_some_iff.mp hri).1
      have i2:=(List.getElem?_eq_some_iff.mp hri2).1
      have i3:=ok.1
      simp only[ag,au] at hlen
      have es:=qu rs i j (0+n)
      have etest:(decide (i≠j) || decide (0+n≠0))=true:=by rw[show decide (i≠j)=true from decide_eq_true hij,Bool.true_or]
      rw[etest,Bool.true_and,er,er2] at es
      rfl'
      refine⟨_,zk hs4 hqr,_,rfl,_,zk hs4 hqr2,_,rfl,Zy (by lia) (by lia) (by lia) ⟨_,rfl,xa (fun hb=>⟨.inl ⟨_,SqL.of hY⟩,by lia,fun t ht=>⟨_,zf ht _ _ hY,by lia,zK (hs4.trans (zf ht)) hD,?_⟩⟩) fun hb=>⟨hs4,ys,hY,?_⟩⟩⟩
      ·rw[hb,if_pos rfl] at es
       rw[show 0+(n+1)=0+n+1 by lia,es,<- aV,aD]
       exact LsA.pushT hY hJ ht Kk (Yw _) (by simp only[ya,xA,and_self])
      ·have hb':wb r.1 r2.1 (0+n)=false:=by simpa using hb
       rw[hb',if_neg aC,aU] at es
       rw[show 0+(n+1)=0+n+1 by lia,es]
       exact hJ
     ·rintro σ H3 ⟨v6,rfl,hs4,hL4⟩
      refine⟨⟨_,_,_,rfl⟩,hs4,?_⟩
      rw[uL,er,<- aV]
      rw[el,show 0+((r.1.length:Int) - 0).toNat=r.1.length by lia] at hL4
      exact hL4
   ·rintro σ H2 ⟨v4,v5,v6,rfl,hs2,hL2⟩
    have e:=hI.len
    rw[ag] at e
    rw[e,<- ka] at hL2
    exact⟨⟨_,_,_,_,_,rfl⟩,hs2,hL2⟩
  ·rintro σ H' ⟨v2,v3,v4,v5,v6,rfl,hs,hL⟩
   have e:=hI.len
   rw[ag] at e
   rw[e] at hL
   rfl'
   exact q D H' hD hs hL
noncomputable def yz(l m:List Nat)(k:Nat):List Nat:=l ++ m.drop (l.length - k)
theorem vE(l m:List Nat)(k:Nat)(hk:k<=l.length):(yz l m k).length=max l.length (k+m.length):=by
 unfold yz
 rw[au,be]
 lia
theorem jz(l m:List Nat)(k:Nat):zy (yz l m k) 0 l=true:=by
  unfold zy yz
  refine decide_eq_true ⟨by decide,by rw[au];lia,?_⟩
  rw[show (0:Int).toNat=0 from rfl,dH,bg (aq _),aM]
theorem qm{l m:List Nat}{k:Nat}(hk:k<=l.length)(h:wb l m k=true):zy (yz l m k) (k:Nat) m=true:=by
 unfold wb at h
 rw[decide_eq_true_eq] at h
 have hl:=vE l m k hk
 unfold zy
 refine decide_eq_true ⟨by lia,by lia,?_⟩
 rw[show ((k:Nat):Int).toNat=k from rfl]
 unfold yz
 rw[bV hk]
 by_cases hm:m.length<=l.length - k
 ·rw[bg (by rw[be];lia),h,bh hm]
 ·rw[bh (by rw[be];lia)] at h
  rw[h,bZ,aM]
theorem UB{rs:List zB}{i j n:Nat}{t:N3}(h:t ∈ ZF rs i j n):t.1=i/\t.2.1=j/\t.2.2<n/\wb (lf rs i) (lf rs j) t.2.2=true:=by
 unfold ZF at h
 obtain⟨k,hk,rfl⟩:=List.mem_map.mp h
 rw[List.mem_filter,eJ,cj] at hk
 exact⟨rfl,rfl,hk.1,hk.2.2⟩
theorem qP{rs:List zB}{t:N3}(h:t ∈ ovA rs rs.length):t.1<rs.length/\t.2.1<rs.length/\t.2.2<(lf rs t.1).length/\wb (lf rs t.1) (lf rs t.2.1) t.2.2=true:=by
 unfold ovA ovI at h
 obtain⟨i,hi,h⟩:=List.mem_flatMap.mp h
 obtain⟨j,hj,h⟩:=List.mem_flatMap.mp h
 obtain⟨e1,e2,e3,e4⟩:=UB h
 rw[e1,e2]
 exact⟨List.mem_range.mp hi,List.mem_range.mp hj,e3,e4⟩
noncomputable def qi(K:ot):Sp:=fun vs H Q _=>∃(a t:Addr) (rs:List zB) (i j k:Nat) (r r2:zB),vs=[.ref a,.ref t]/\Is K H (.lst (rs.map dR)) (.ref a)/\SqT K H t [.int (i:Nat),.int (j:Nat),.int (k:Nat)]/\j9 rs/\rs[i]? = some r/\rs[j]? = some r2/\k<=r.1.length/\wb r.1 r2.1 k=true /\
 ∀ p H',H p=none->Same H H'->H' p=some (.tup [.str (tx (yz r.1 r2.1 k)),.str (tx (xh (yz r.1 r2.1 k) 0 r.1 r.2)),.str (tx (xh (yz r.1 r2.1 k) (k:Nat) r2.1 r2.2))])->Q (.ref p) H'
theorem Y2{a t:Addr}{rs:List zB}{i j k:Nat}{r r2:zB}{H:Hp}{Q:VK}{E:XK}(h1:Is K H (.lst (rs.map dR)) (.ref a))(h2:SqT K H t [.int (i:Nat),.int (j:Nat),.int (k:Nat)])(h3:j9 rs)(h4:rs[i]? = some r)(h5:rs[j]? = some r2)(h6:k<=r.1.length)(h7:wb r.1 r2.1 k=true)
 (h:∀ p H',H p=none->Same H H'->H' p=some (.tup [.str (tx (yz r.1 r2.1 k)),.str (tx (xh (yz r.1 r2.1 k) 0 r.1 r.2)),.str (tx (xh (yz r.1 r2.1 k) (k:Nat) r2.1 r2.2))])->Q (.ref p) H'):qi K [.ref a,.ref t] H Q E:=⟨a,t,rs,i,j,k,r,r2,rfl,h1,h2,h3,h4,h5,h6,h7,h⟩
theorem VH{CU:Addr}{l o n:List Nat}{k:Int}{H:Hp}{Q:VK}{E:XK}(h1:l.length<=10000)(h2:o.length<=10000)(h3:n.length<=10000)(hs:zy l k o=true)(q:Q (.str (tx (xh l k o n))) H):Zf CU [.str (tx l),.int k,.str (tx o),.str (tx n)] H Q E:=⟨l,o,n,k,rfl,h1,h2,h3,fun _=>q,fun h=>by rw[hs] at h;cases h⟩
theorem lA:zr ["rules","overlap","one","other","place","word"] ["rules","overlap"] (zb je):=⟨rfl,rfl,rfl,by decide +kernel,rfl,by decide +kernel,by decide +kernel⟩
theorem Jl{f CU:Addr}{fd:FuncData}(B:Bt mg)(F:Fun K "peak" "peak" je f fd)(ni:Df P w K mg base (CXx P w) 3 "put" ["word","place","old","new"] [] (Zf CU)):ye P w K mg base CX0 4 f fd ["rules","overlap"] (qi K):=by
 refine F.ok lA (fun vs H Q E h=>?_) (fun cdv A outer s H vs Q E hr h=>?_)
 ·obtain⟨a,t,rs,i,j,k,r,r2,rfl,_⟩:=h
  rfl
 ·obtain⟨a,t,rs,i,j,k,r,r2,rfl,hR,ht,ok,hr1,hr2,hk,hag,q⟩:=h
  refine⟨_,(zi (zx (i:=2) lA.nd rfl (Or.inl rfl) (zp ix_list (pv 0) (zp ix_tup (pv 1) zg (fun _ _=>rfl)) (fun _ _=>rfl)))
   (zi (zx (i:=3) lA.nd rfl (Or.inl rfl) (zp ix_list (pv 0) (zp ix_tup (pv 1) zg (fun _ _=>rfl)) (fun _ _=>rfl)))
   (zi (zx (i:=4) lA.nd rfl (Or.inl rfl) (zp ix_tup (pv 1) zg (fun _ _=>rfl)))
   (zi (zx (i:=5) lA.nd rfl (Or.inl rfl) (zI op_add_str (zp ix_tup (pv 2) zg (fun _ _=>rfl)) (yA K8 (zp ix_tup (pv 3) zg (fun _ _=>rfl)) (yC (zI vA (zm yb rfl B.len ay (za (zp ix_tup (pv 2) zg (fun _ _=>rfl)) zc)) (pv 4))) xN)))
   (zh (zu (yo (za (pv 5) (za (clP xe0 ni hr .nil rfl (za (pv 5) (za zg (za (zp ix_tup (pv 2) zg (fun _ _=>rfl)) (za (zp ix_tup (pv 2) zg (fun _ _=>rfl)) zc))))) (za (clP xe0 ni hr .nil rfl (za (pv 5) (za (pv 4) (za (zp ix_tup (pv 3) zg (fun _ _=>rfl)) (za (zp ix_tup (pv 3) zg (fun _ _=>rfl)) zc))))) zc)))))))))),?_⟩
  have s16:=yf
  simp only[Is] at hR
  obtain⟨_,xs,e,hX,hI⟩:=hR
  cases e
  obtain⟨p1,a1,q1⟩:=zaY hI hr1
  obtain⟨p2,a2,q2⟩:=zaY hI hr2
  have b1:=ok.2 r (ac hr1)
  have b2:=ok.2 r2 (ac hr2)
  refine zj (fun σ H'=>H'=H/\σ=[some (.ref a),some (.ref t),some (.ref p1),none,none,none]) ?_ ?_
  ·rfl'
   exact⟨_,ht,_,rfl,_,_,rfl,hX,a1⟩
  rintro σ H1 ⟨rfl,rfl⟩
  refine zj (fun σ H'=>H'=H1/\σ=[some (.ref a),some (.ref t),some (.ref p1),some (.ref p2),none,none]) ?_ ?_
  ·rfl'
   exact⟨_,ht,_,rfl,_,_,rfl,hX,a2⟩
  rintro σ H2 ⟨rfl,rfl⟩
  refine zj (fun σ H'=>H'=H2/\σ=[some (.ref a),some (.ref t),some (.ref p1),some (.ref p2),some (.int (k:Nat)),none]) ?_ ?_
  ·rfl'
   exact⟨_,ht,rfl⟩
  rintro σ H3 ⟨rfl,rfl⟩
  refine zj (fun σ H'=>H'=H3/\σ=[some (.ref a),some (.ref t),some (.ref p1),some (.ref p2),some (.int (k:Nat)),some (.str (tx (yz r.1 r2.1 k)))]) ?_ ?_
  ·rfl'
   refine⟨_,q1,_,rfl,_,q2,_,rfl,_,q1,_,rfl,_,⟨by rw[zQ];lia,rfl⟩,.inr ⟨_,rfl,by rw[zQ];lia,_,rfl,?_,?_⟩⟩
   ·rw[zQ,Xk]
    have:=ww r2.1 (some ((r.1.length:Int) - (k:Int))) none
    lia
   ·rw[zQ,Xk,wC,uK _ (by lia),show ((r.1.length:Int) - (k:Int)).toNat=r.1.length - k by lia]
    rfl
  rintro σ H4 ⟨rfl,rfl⟩
  have hw:=vE r.1 r2.1 k hk
  rfl'
  exact⟨_,q1,_,rfl,_,q1,_,rfl,VH (by lia) (by lia) (by lia) (jz _ _ _) ⟨_,q2,_,rfl,_,q2,_,rfl,VH (by lia) (by lia) (by lia) (qm hk hag) ⟨by lia,fun p hp=>q p _ hp (zf hp) ze⟩⟩⟩
noncomputable def FmOk(ps:List zB)(most:Int)(m:Str->Option V):Prop:=∀ k v,m k=some v->∃(w:List Nat) (J:Nat),k=tx w/\v=.str (tx (wAt ps w J))/\Xf ps w J/\zG (wAt ps w J) ps=none/\(J:Int)<=most
theorem FmOk.get{ps:List zB}{most:Int}{m:Str->Option V}(h:FmOk ps most m){w:List Nat}{v:V}(e:m (tx w)=some v){J:Nat}(hl:Xf ps w J)(hf:zG (wAt ps w J) ps=none):v=.str (tx (wAt ps w J)):=by
 obtain⟨w',J',e1,e2,e3,e4,_⟩:=h _ _ e
 have e5:=jy e1
 subst e5
 rw[e2,Uz e3 e4 hl hf]
theorem FmOk.put{ps:List zB}{most:Int}{m:Str->Option V}(h:FmOk ps most m){w:List Nat}{J:Nat}(hl:Xf ps w J)(hf:zG (wAt ps w J) ps=none)(hJ:(J:Int)<=most):FmOk ps most (fun x=>if x=tx w then some (.str (tx (wAt ps w J))) else m x):=fun k v e=>by
 by_cases hk:k=tx w
 ·simp only[hk,if_true] at e
  cases e
  exact⟨w,J,hk,rfl,hl,hf,hJ⟩
 ·simp only[hk,if_false] at e
  exact h k v e
noncomputable def j0(P:Program)(w:World)(K:ot)(CF:Addr):Sp:=fun vs H Q E=>∃(a F:Addr) (l:List Nat) (ps:List zB) (m:Int) (J n:Nat) (mp:Str->Option V),vs=[.ref a,.str (tx l),.int m,.ref F]/\LsA K H a (ps.map dR)/\NeL ps/\ps.length<=100/\(∀ p ∈ ps,p.1.length<=1000/\p.2.length<=1000)/\Rd ps l J/\H F=some (qV P w F mp n)/\FmOk ps m mp/\n<=10000 /\
 ((zG (wAt ps l J) ps=none/\(J:Int)<=m/\∀(mp':Str->Option V) (n':Nat) (H':Hp),SamT F H H'->H' F=some (qV P w F mp' n')->FmOk ps m mp'->n'<=n+1->Q (.str (tx (wAt ps l J))) H') \/
  (zG (wAt ps l J) ps≠none/\(J:Int)=m/\∀ H',Same H H'->E (.ref CF) none H'))
theorem XG:zr ["rules","word","most","forms"] ["rules","word","most","forms"] (zb xZ):=⟨rfl,rfl,rfl,by decide +kernel,rfl,by decide +kernel,by decide +kernel⟩
theorem Xa{f CF:Addr}{fd:FuncData}{iT:Tok}(B:Bt mg)(F:Fun K "form_of" "form_of" xZ f fd)(mH:Df P w K mg base (CXx P w) 4 "gone" ["rules","word","most"] [] (wL K CF))(DD_gone:Df P w K mg base (CXx P w) 4 "gone" ["rules","word","most"] [.int 4000 iT] (wL K CF)):ye P w K mg base (CXx P w) 5 f fd ["rules","word","most","forms"] (j0 P w K CF):=by
 refine Fun.okX F XG (fun vs H Q E h=>?_) (fun cdv A outer s H vs Q E hr hx h=>?_)
 ·obtain⟨a,F0,l,ps,m,J,n,mp,rfl,_⟩:=h
  rfl
 ·obtain⟨a,F0,l,ps,m,J,n,mp,rfl,hA,hN,hpl,hP,hR,hF,hM,hn,hq⟩:=h
  refine⟨_,(zi (zZ (zE UW (pv 1) (pv 3) (by with_unfolding_all rfl))
    (zh (Qu (zp ix_tup (clP hx mH hr .nil rfl (za (pv 0) (za (pv 1) (za (pv 2) zc)))) zg (fun _ _=>rfl)) (Kp (pv 3) (pv 1) V5 (by intro _;rfl))))
    zC)
   (zh (zu (zp JF (pv 3) (pv 1) (fun _ _=>rfl))))),?_⟩
  have s16:=yf
  have s16:=yf
  refine zj (fun σ H'=>SamT F0 H H'/\zG (wAt ps l J) ps=none/\(J:Int)<=m/\(∃(mp':Str->Option V) (n':Nat),H' F0=some (qV P w F0 mp' n')/\FmOk ps m mp'/\n'<=n+1/\mp' (tx l)=some (.str (tx (wAt ps l J))))/\σ=[some (.ref a),some (.str (tx l)),some (.int m),some (.ref F0)]) ?_ ?_
  ·rfl'
   refine⟨F0,mp,n,tx l,rfl,rfl,hF,_,rfl,xa (fun hnone=>⟨a,l,ps,m,J,rfl,hA,hN,hpl,hP,hR,?_⟩) fun hsome=>?_⟩
   ·rcases hq with ⟨hf,hJ,_⟩ | h
    ·refine .inl ⟨hf,hJ,fun p S H' s' hp _ _=>⟨p,rfl,_,SqT.of hp,_,rfl,?_⟩⟩
     simp only[zbQ]
     rfl'
     exact⟨F0,mp,n,tx l,rfl,rfl,s' _ _ hF,by lia,fun b o hb e=>by rw[zq hb];exact s' _ _ e,hf,hJ,_,_,ze,hM.put hR.live hf hJ,aq _,if_pos rfl⟩
    ·exact .inr h
   ·cases hv:mp (tx l) with
    | none=>rw[hv] at hsome;exact absurd rfl hsome
    | some v =>
     obtain⟨w',J',e1,e2,e3,e4,e5⟩:=hM _ _ hv
     have e6:=jy e1
     subst e6
     rcases hq with ⟨hf,hJ,_⟩ | ⟨hf,hJ,_⟩
     ·exact⟨fun b o _ e=>e,hf,hJ,mp,n,hF,hM,by lia,by rw[hM.get hv hR.live hf] at hv;exact hv⟩
     ·exfalso
      rcases dZ J' J with h | h
      ·exact hR.live J' h e4
      ·have:J'=J:=by lia
       subst this
       exact hf e4
  rintro σ H1 ⟨s1,hf,hJ,⟨mp',n',h1,h2,h3,h4⟩,rfl⟩
  rfl'
  refine⟨F0,mp',n',tx l,_,rfl,rfl,h1,h4,?_⟩
  rcases hq with ⟨_,_,q⟩ | ⟨h,_⟩
  ·exact q mp' n' H1 s1 h1 h2 h3
  ·exact absurd hf h
noncomputable def pkA(ps:List zB)(t:N3):List Nat:=xh (yz (lf ps t.1) (lf ps t.2.1) t.2.2) 0 (lf ps t.1) (ps.getD t.1 ([],[])).2
noncomputable def pkB(ps:List zB)(t:N3):List Nat:=xh (yz (lf ps t.1) (lf ps t.2.1) t.2.2) (t.2.2:Nat) (lf ps t.2.1) (ps.getD t.2.1 ([],[])).2
inductive Kg(ps:List zB)(m:Int)(l:List Nat):Option Nat->Prop where
 | yes {J:Nat} (h:Rd ps l J) (h1:zG (wAt ps l J) ps=none) (h2:(J:Int)<=m):Kg ps m l (some J)
 | no {J:Nat} (h:Rd ps l J) (h1:zG (wAt ps l J) ps≠none) (h2:(J:Int)=m):Kg ps m l none
noncomputable def uH(P:Program)(w:World)(K:ot)(CF:Addr):Sp:=fun vs H Q E=>∃(a t F:Addr) (ps:List zB) (tr:N3) (m:Int) (n:Nat) (mp:Str->Option V) (g1 g2:Option Nat),vs=[.ref a,.ref t,.int m,.ref F]/\LsA K H a (ps.map dR)/\NeL ps/\j9 ps/\SqT K H t [.int (tr.1:Nat),.int (tr.2.1:Nat),.int (tr.2.2:Nat)]/\tr ∈ ovA ps ps.length/\H F=some (qV P w F mp n)/\FmOk ps m mp/\n<=9000/\Kg ps m (pkA ps tr) g1/\Kg ps m (pkB ps tr) g2 /\
 (∀(J1 J2:Nat) (mp':Str->Option V) (n':Nat) (H':Hp),g1=some J1->g2=some J2->SamT F H H'->H' F=some (qV P w F mp' n')->FmOk ps m mp'->n'<=n+2->Q (.bl (decide (wAt ps (pkA ps tr) J1=wAt ps (pkB ps tr) J2))) H') /\
 ((g1=none\/g2=none)->∀ H',SamT F H H'->E (.ref CF) none H')
theorem YW{P:Program}{w:World}{CF a F:Addr}{l:List Nat}{ps:List zB}{m:Int}{n:Nat}{mp:Str->Option V}{g:Option Nat}{H:Hp}{Q:VK}{E:XK}(hA:LsA K H a (ps.map dR))(hN:NeL ps)(hok:j9 ps)(hF:H F=some (qV P w F mp n))(hM:FmOk ps m mp)(hn:n<=10000)(hg:Kg ps m l g)
  (h1:∀(J:Nat) (mp':Str->Option V) (n':Nat) (H':Hp),g=some J->SamT F H H'->H' F=some (qV P w F mp' n')->FmOk ps m mp'->n'<=n+1->Q (.str (tx (wAt ps l J))) H') (h2:g=none->∀ H',Same H H'->E (.ref CF) none H'):j0 P w K CF [.ref a,.str (tx l),.int m,.ref F] H Q E:=by
 have hP:∀ p ∈ ps,p.1.length<=1000/\p.2.length<=1000:=fun p hp=>by have:=hok.2 p hp;lia
 have hl:ps.length<=100:=by have:=hok.1;lia
 cases hg with
 | yes h e1 e2=>exact⟨a,F,l,ps,m,_,n,mp,rfl,hA,hN,hl,hP,h,hF,hM,hn,.inl ⟨e1,e2,fun mp' n' H' a1 a2 a3 a4=>h1 _ mp' n' H' rfl a1 a2 a3 a4⟩⟩
 | no h e1 e2=>exact⟨a,F,l,ps,m,_,n,mp,rfl,hA,hN,hl,hP,h,hF,hM,hn,.inr ⟨e1,e2,h2 rfl⟩⟩
theorem qe{F t:Addr}{H H':Hp}{P:Program}{w:World}{mp:Str->Option V}{n:Nat}{xs:List V}(s:SamT F H H')(hF:H F=some (qV P w F mp n))(h:SqT K H t xs):SqT K H' t xs:=by
 rcases h with (h | ⟨o,h⟩) | h
 ·exact .inl (.inl (s _ _ (fun z=>by rw[z,hF] at h;cases h) h))
 ·exact .inl (.inr ⟨o,s _ _ (fun z=>by rw[z,hF] at h;cases h) h⟩)
 ·exact .inr h
theorem YQ{F a:Addr}{H H':Hp}{P:Program}{w:World}{mp:Str->Option V}{n:Nat}{ps:List zB}(s:SamT F H H')(hF:H F=some (qV P w F mp n))(h:LsA K H a (ps.map dR)):LsA K H' a (ps.map dR):=by
 obtain⟨xs,h1,h2⟩:=h
 refine⟨xs,s _ _ (fun z=>by rw[z,hF] at h1;cases h1) h1,?_⟩
 have key:∀(qs:List zB) (vs:List V),Iss K H (qs.map dR) vs->Iss K H' (qs.map dR) vs:=by
  intro qs
  induction qs with
  | nil=>intro vs h;simp only[aN,Iss] at h ⊢;exact h
  | cons q qs ih =>
   intro vs h
   simp only[ax,Iss] at h ⊢
   obtain⟨v,r,e,h3,h4⟩:=h
   obtain⟨p,rfl,h5⟩:=KP h3
   exact⟨_,r,e,zbG (qe s hF h5),ih r h4⟩
 exact key ps xs h2
theorem lu:zr ["rules","overlap","most","forms","sides","one","other"] ["rules","overlap","most","forms"] (zb wN):=⟨rfl,rfl,rfl,by decide +kernel,rfl,by decide +kernel,by decide +kernel⟩
theorem WM{f CF:Addr}{fd:FuncData}(B:Bt mg)(F:Fun K "is_met" "is_met" wN f fd)(nw:Df P w K mg base CX0 4 "peak" ["rules","overlap"] [] (qi K))(mY:Df P w K mg base (CXx P w) 5 "form_of" ["rules","word","most","forms"] [] (j0 P w K CF)):ye P w K mg base (CXx P w) 6 f fd ["rules","overlap","most","forms"] (uH P w K CF):=by
 refine Fun.okX F lu (fun vs H Q E h=>?_) (fun cdv A outer s H vs Q E hr hx h=>?_)
 ·obtain⟨a,t,F0,ps,tr,m,n,mp,g1,g2,rfl,_⟩:=h
  rfl
 ·obtain⟨a,t,F0,ps,tr,m,n,mp,g1,g2,rfl,hA,hN,hok,ht,htr,hF,hM,hn,hg1,hg2,q1,q2⟩:=h
  refine⟨_,(zi (zx (i:=4) lu.nd rfl (Or.inl rfl) (cl0 nw hr .nil rfl (za (pv 0) (za (pv 1) zc))))
   (zi (zx (i:=5) lu.nd rfl (Or.inl rfl) (clP hx mY hr .nil rfl (za (pv 0) (za (zp ix_tup (pv 4) zg (fun _ _=>rfl)) (za (pv 2) (za (pv 3) zc))))))
   (zi (zx (i:=6) lu.nd rfl (Or.inl rfl) (clP hx mY hr .nil rfl (za (pv 0) (za (zp ix_tup (pv 4) zg (fun _ _=>rfl)) (za (pv 2) (za (pv 3) zc))))))
   (zh (zu (wo qo (pv 5) (pv 6) (zJ _))))))),?_⟩
  have s16:=yf
  have s16:=yf
  obtain⟨i1,i2,i3,i4⟩:=qP htr
  obtain⟨r,hr⟩:∃ r,ps[tr.1]? = some r:=⟨_,ak i1⟩
  obtain⟨r2,hr2⟩:∃ r,ps[tr.2.1]? = some r:=⟨_,ak i2⟩
  have l1:=vH hr
  have l2:=vH hr2
  have d1:ps.getD tr.1 ([],[])=r:=by rw[ae,hr];rfl
  have d2:ps.getD tr.2.1 ([],[])=r2:=by rw[ae,hr2];rfl
  have eA:pkA ps tr=xh (yz r.1 r2.1 tr.2.2) 0 r.1 r.2:=by unfold pkA;rw[l1,l2,d1]
  have eB:pkB ps tr=xh (yz r.1 r2.1 tr.2.2) (tr.2.2:Nat) r2.1 r2.2:=by unfold pkB;rw[l1,l2,d2]
  rw[l1] at i3
  rw[l1,l2] at i4
  refine zj (fun σ H'=>Same H H'/\∃ p:Addr,(∃ x,H' p=some (.tup [x,.str (tx (pkA ps tr)),.str (tx (pkB ps tr))]))/\σ=[some (.ref a),some (.ref t),some (.int m),some (.ref F0),some (.ref p),none,none]) ?_ ?_
  ·rfl'
   exact Y2 hA.is ht hok hr hr2 (by lia) i4 fun p H' _ s' hp=>⟨s',p,⟨_,by rw[eA,eB];exact hp⟩,rfl⟩
  rintro σ H1 ⟨s1,p,⟨x,hp⟩,rfl⟩
  have hF1:=s1 _ _ hF
  refine zj (fun σ H'=>SamT F0 H1 H'/\∃(J1:Nat),g1=some J1/\(∃ mp' n',H' F0=some (qV P w F0 mp' n')/\FmOk ps m mp'/\n'<=n+1)/\σ=[some (.ref a),some (.ref t),some (.int m),some (.ref F0),some (.ref p),some (.str (tx (wAt ps (pkA ps tr) J1))),none]) ?_ ?_
  ·rfl'
   refine⟨_,SqT.of hp,_,rfl,YW (hA.same s1) hN hok hF1 hM (by lia) hg1 (fun J mp' n' H' e a1 a2 a3 a4=>?_) fun e H' s'=>q2 (.inl e) H' (SamT.of (s1.trans s'))⟩
   exact⟨a1,J,e,⟨mp',n',a2,a3,a4⟩,rfl⟩
  rintro σ H2 ⟨s2,J1,e1,⟨mp1,n1,hF2,hM2,hn2⟩,rfl⟩
  have s12:SamT F0 H H2:=(SamT.of s1).trans s2
  have hpF:p≠F0:=fun z=>by rw[z,hF1] at hp;cases hp
  refine zj (fun σ H'=>SamT F0 H2 H'/\∃(J2:Nat),g2=some J2/\(∃ mp' n',H' F0=some (qV P w F0 mp' n')/\FmOk ps m mp'/\n'<=n+2)/\σ=[some (.ref a),some (.ref t),some (.int m),some (.ref F0),some (.ref p),some (.str (tx (wAt ps (pkA ps tr) J1))),some (.str (tx (wAt ps (pkB ps tr) J2)))]) ?_ ?_
  ·rfl'
   exact⟨_,SqT.of (s2 _ _ hpF hp),_,rfl,YW (YQ s2 hF1 (hA.same s1)) hN hok hF2 hM2 (by lia) hg2 (fun J mp' n' H' e a1 a2 a3 a4=>⟨a1,J,e,⟨mp',n',a2,a3,by lia⟩,rfl⟩) fun e H' s'=>q2 (.inr e) H' (s12.trans (SamT.of s'))⟩
  rintro σ H3 ⟨s3,J2,e2,⟨mp2,n2,hF3,hM3,hn3⟩,rfl⟩
  rfl'
  exact q1 J1 J2 mp2 n2 H3 e1 e2 (s12.trans s3) hF3 hM3 hn3
noncomputable def kB(K:ot)(CH:Addr):Sp:=fun vs H Q _=>∃(y o q:Addr) (ps:List zB),vs=[.ref y]/\UV K CH H y o q ps/\∀(r:Addr) (H':Hp),Same H H'->LsA K H' r (ps.map dR)->H r=none->Q (.ref r) H'
theorem wU:zr ["self"] ["self"] (zb zP):=⟨rfl,rfl,rfl,by decide +kernel,rfl,by decide +kernel,by decide +kernel⟩
theorem wV{f CH:Addr}{fd:FuncData}(B:Bt mg)(TS:K2 K mg CH)(F:Fun K "rules_told" "System.rules_told" zP f fd) : ye P w K mg base CX0 1 f fd ["self"] (kB K CH):=by
 refine F.ok wU (fun vs H Q E h=>?_) (fun cdv A outer s H vs Q E hr h=>?_)
 ·obtain⟨y,o,q,ps,rfl,_⟩:=h
  rfl
 ·obtain⟨y,o,q,ps,rfl,hy,k⟩:=h
  refine⟨_,(zh (zu (xW xE rfl B.list PySem.Pv.boot_list (za (Yt (pv 0) rfl) zc)))),?_⟩
  have s16:=yf
  rfl'
  obtain⟨dx,xs,h1,h2,h3⟩:=hy
  exact⟨_,_,_,h1,TS.cl,TS.nr,_,rfl,_,rfl,_,.inl (SqL.of h2),fun r hr'=>k r _ (zf hr') ⟨xs,ze,Iss.same (zf hr') _ _ h3⟩ hr'⟩
noncomputable def goJ(ps:List zB)(m:Nat)(v:List Nat):Option Nat:=(aS (m+1)).find? fun j=>(zG (wAt ps v j) ps).isNone
theorem UP{ps:List zB}{m:Nat}{v:List Nat}{i:Nat}(e:goJ ps m v=some i):i<=m/\Xf ps v i/\zG (wAt ps v i) ps=none:=by
 unfold goJ at e
 have h1:=du e
 have h2:zG (wAt ps v i) ps=none:=Option.isNone_iff_eq_none.mp h1
 have hm:=List.mem_range.mp (dU e)
 refine⟨by lia,fun n hn hno=>?_,h2⟩
 obtain⟨_,as,bs,e2,h3⟩:=List.find?_eq_some_iff_append.mp e
 have hlen:as.length=i:=by
  have:=congrArg (fun l=>l[as.length]?) e2
  simp only[cb (aq _),Nat.sub_self,d9] at this
  obtain⟨h7,h8⟩:=List.getElem?_eq_some_iff.mp this
  rw[eV] at h8
  exact h8
 have h9:(aS (m+1))[n]? = as[n]?:=by rw[e2,cK (by lia)]
 have h10:n<(aS (m+1)).length:=by rw[db];lia
 rw[ak h10,eV] at h9
 have:=h3 n (ac h9.symm)
 rw[hno] at this
 cases this
theorem U4{ps:List zB}{m:Nat}{v:List Nat}(e:goJ ps m v=none):∀ j,j<=m->zG (wAt ps v j) ps≠none:=fun j hj hno=>by
 unfold goJ at e
 have:=List.find?_eq_none.mp e j (List.mem_range.mpr (by lia))
 rw[hno] at this
 exact this rfl
theorem Wt{ps:List zB}{m:Nat}{v:List Nat}(hl:∀ j,j<=m->(wAt ps v j).length<=10000)(hm:m<=10000):Kg ps (m:Int) v (goJ ps m v):=by
 cases e:goJ ps m v with
 | some i =>
  obtain⟨h1,h2,h3⟩:=UP e
  exact .yes ⟨h2,fun j hj=>hl j (by lia),by lia⟩ h3 (by lia)
 | none =>
  have h:=U4 e
  exact .no (J:=m) ⟨fun i hi=>h i (by lia),fun j hj=>hl j hj,hm⟩ (h m (aq _)) rfl
noncomputable def zaV(ps:List zB)(m:Nat)(v:List Nat):List Nat:=wAt ps v ((goJ ps m v).getD 0)
noncomputable def Qm(ps:List zB)(m:Nat)(t:N3):Bool:=decide (zaV ps m (pkA ps t)=zaV ps m (pkB ps t))
noncomputable def OkG(ps:List zB)(m:Nat)(t:N3):Prop:=(goJ ps m (pkA ps t)).isSome=true/\(goJ ps m (pkB ps t)).isSome=true
noncomputable def zb9(ps:List zB)(m:Nat):Prop:=m<=10000/\∀ t ∈ ovA ps ps.length,(∀ j,j<=m->(wAt ps (pkA ps t) j).length<=10000)/\∀ j,j<=m->(wAt ps (pkB ps t) j).length<=10000
theorem JA{ps:List zB}{t:N3}{m J1 J2:Nat}(e1:goJ ps m (pkA ps t)=some J1)(e2:goJ ps m (pkB ps t)=some J2):decide (wAt ps (pkA ps t) J1=wAt ps (pkB ps t) J2)=Qm ps m t:=by
 unfold Qm zaV
 rw[e1,e2]
 rfl
theorem zat{ps:List zB}{m:Nat}{t:N3}(h:goJ ps m (pkA ps t)=none\/goJ ps m (pkB ps t)=none):¬ OkG ps m t:=fun ho=>by
 obtain⟨h1,h2⟩:=ho
 rcases h with h | h
 ·rw[h] at h1
  cases h1
 ·rw[h] at h2
  cases h2
theorem FmOk.nil{ps:List zB}{m:Int}:FmOk ps m fun _=>none:=fun k v e=>by cases e
theorem ZC{F:Addr}{H H':Hp}{P:Program}{w:World}{mp:Str->Option V}{n:Nat}(s:SamT F H H')(hF:H F=some (qV P w F mp n)):∀{ts:List N3} {vs:List V},Iss K H (ts.map d3) vs->Iss K H' (ts.map d3) vs
 | [],vs,h=>by simp only[aN,Iss] at h ⊢;exact h
 | t::ts,vs,h=>by
  simp only[ax,Iss] at h ⊢
  obtain⟨v,r,e,h3,h4⟩:=h
  refine⟨v,r,e,?_,ZC s hF h4⟩
  simp only[d3,Is] at h3 ⊢
  obtain⟨a,xs,e1,e2,e3⟩:=h3
  refine⟨a,xs,e1,qe s hF e2,?_⟩
  simp only[Iss,Is] at e3 ⊢
  exact e3
noncomputable def unG(ps:List zB)(m:Nat):List N3:=(ovA ps ps.length).filter fun t=>!Qm ps m t
noncomputable def vF(K:ot)(CH CF:Addr):Sp:=fun vs H Q E=>∃(y o q:Addr) (ps:List zB) (m:Nat),vs=[.ref y,.int (m:Nat)]/\UV K CH H y o q ps/\NeL ps/\j9 ps/\(ovA ps ps.length).length<=4000/\zb9 ps m /\
 ((∀ t ∈ ovA ps ps.length,OkG ps m t)->∀ D H',Same H H'->H D=none->LsA K H' D ((unG ps m).map d3)->Q (.ref D) H')/\(∀ t ∈ ovA ps ps.length,¬ OkG ps m t->∀ H',Same H H'->E (.ref CF) none H')
theorem mx:zr ["system","most","rules","forms"] ["system","most"] (zb xI):=⟨rfl,rfl,rfl,by decide +kernel,rfl,by decide +kernel,by decide +kernel⟩
theorem VO{f CF CH:Addr}{fd:FuncData}{dV:Value}(B:Bt mg)(TS:K2 K mg CH)(F:FunD K "unmet" "unmet" xI dV f fd)(nI:Df P w K mg base CX0 2 "overlaps" ["rules"] [] (wg K))(nP:Df P w K mg base (CXx P w) 6 "is_met" ["rules","overlap","most","forms"] [] (uH P w K CF))(M_system_rules_told:DM P w K mg base CX0 1 CH "rules_told" ["self"] (kB K CH)):ye P w K mg base (CXx P w) 7 f fd ["system","most"] (vF K CH CF):=by
 refine FunD.okX F mx (fun vs H Q E h=>?_) (fun cdv A outer s H vs Q E hr hx h=>?_)
 ·obtain⟨y,o,q,ps,m,rfl,_⟩:=h
  rfl
 ·obtain⟨y,o,q,ps,m,rfl,hy,hN,hok,hlen,hE,k1,k2⟩:=h
  refine⟨_,(zi (zx (i:=2) mx.nd rfl (Or.inr rfl) (me0 M_system_rules_told TS.cl hr (pv 0)))
   (zi (zx (i:=3) mx.nd rfl (Or.inr rfl) Jr)
   (zh (zu (Wb (EX:=E) (own:=["overlap"]) (caps:=["rules","most","forms"]) (ix:=[2,1,3]) (tt:=(zaG (tBl (qv (uH P w K CF) [] E (zN (yK 1) (zN (yK 0) (zN (yK 2) (zN (yK 3) wq)))))))) (te:=(yK 0)) rfl (zO (sc:=zb xI) rfl (by decide +kernel) (by decide +kernel) (by decide +kernel) rfl (by decide +kernel) (by decide +kernel) rfl) ⟨rfl,rfl⟩ hx (yI (cl0 nI hr .nil rfl (za (pv 2) zc))) (fun _ _ _ _ _ _=>zA (i:=0) (show List.Nodup [_,_,_,_] by decide) rfl (Or.inl rfl)) (fun _ _ _ _ _ _ _ hx'=>(Vi (yn (xv (clP hx' nP hr .nil rfl (za (pv 1) (za (pv 0) (za (pv 2) (za (pv 3) zc))))) (fun _=>rfl))))) (fun _ _ _ _ _ _ _ _=>(pv 0))))))),?_⟩
  have s16:=yf
  have s16:=yf
  obtain⟨dx,xs0,h1,h2,h3⟩:=id hy
  refine zj (fun σ H'=>Same H H'/\∃ r:Addr,LsA K H' r (ps.map dR)/\σ=[some (.ref y),some (.int (m:Nat)),some (.ref r),none]) ?_ ?_
  ·rfl'
   exact⟨_,_,h1,rfl,y,o,q,ps,rfl,hy,fun r H1 s1 hA hr'=>⟨s1,r,hA,rfl⟩⟩
  rintro σ H1 ⟨s1,r,hA,rfl⟩
  refine zj (fun σ H'=>Same H H'/\LsA K H' r (ps.map dR)/\∃ F:Addr,H F=none/\H' F=some (qV P w F (fun _=>none) 0)/\σ=[some (.ref y),some (.int (m:Nat)),some (.ref r),some (.ref F)]) ?_ ?_
  ·rfl'
   simp only[Kz]
   intro F hF
   have s2:=zf (o:=qV P w F (fun _=>none) 0) hF
   rfl'
   exact⟨s1.trans s2,hA.same s2,F,s1.free hF,ze,rfl⟩
  rintro σ H2 ⟨s2,hA2,F,hF0,hF,rfl⟩
  rfl'
  refine Zr hA2.is hok fun O H3 hO s3 hL=>⟨O,rfl,?_,fun D hD=>?_⟩
  ·obtain⟨xs,hX,_⟩:=hL
   exact⟨_,SqL.of hX⟩
  obtain⟨xs,hX,hI⟩:=hL
  have hxl:=hI.len
  rw[ag] at hxl
  have hF3:=s3 _ _ hF
  have s03:=s2.trans s3
  have hDF:D≠F:=fun z=>by rw[z,hF3] at hD;cases hD
  have hOF:O≠F:=fun z=>by rw[z,hF3] at hX;cases hX
  have back:∀{G:Hp},SamT F H3 G->Same H G:=fun {G} sT b o' e=>sT b o' (fun z=>by rw[z,hF0] at e;cases e) (s03 b o' e)
  refine CompL.by (xs:=xs) (fun i acc H'=>SamT F H3 H'/\H' D=some (.lst acc)/\(∃(mp:Str->Option V) (n:Nat),H' F=some (qV P w F mp n)/\FmOk ps (m:Nat) mp/\n<=2 * i)/\Iss K H3 ((((ovA ps ps.length).take i).filter fun t=>!Qm ps m t).map d3) acc/\∀ t ∈ (ovA ps ps.length).take i,OkG ps m t) ⟨SamT.of (zf hD),ze,⟨_,0,by rw[zq (fun z=>hDF z.symm)];exact hF3,FmOk.nil,by lia⟩,by simp only[bG,cQ,aN,Iss],fun t ht=>by simp at ht⟩ (fun i acc H' _ h=>SqL.of (h.1 _ _ hOF hX)) ?_ ?_
  ·rintro i x acc H' hx ⟨sT,hH,⟨mp,n,hFm,hM,hn⟩,hI',hle⟩
   have hil:=(List.getElem?_eq_some_iff.mp hx).1
   obtain⟨t,p,ht,rfl,hp⟩:=hI.get3 hx
   have htm:=ac ht
   have hE':=hE.2 t htm
   have hal:acc.length<=i:=by
    have:=hI'.len
    rw[ag] at this
    have h5:=cC (fun t=>!Qm ps m t) ((ovA ps ps.length).take i)
    rw[aJ] at h5
    lia
   simp only[zaG,tBl]
   rfl'
   refine⟨xj,r,p,F,ps,t,(m:Nat),n,mp,_,_,rfl,YQ sT hF3 (hA2.same s3),hN,hok,qe sT hF3 hp,htm,hFm,hM,by lia,Wt hE'.1 hE.1,Wt hE'.2 hE.1,fun J1 J2 mp' n' H5 e1 e2 s5 hF5 hM5 hn5=>?_,fun h H5 s5=>k2 t htm (zat h) H5 (back (sT.trans s5))⟩
   have hle':∀ t' ∈ (ovA ps ps.length).take (i+1),OkG ps m t':=fun t' ht'=>by
    rw[zV ht] at ht'
    rcases List.mem_append.mp ht' with h | h
    ·exact hle t' h
    ·rw[List.mem_singleton.mp h]
     exact⟨by rw[e1];rfl,by rw[e2];rfl⟩
   rw[JA e1 e2]
   have hcase:∀ b,Qm ps m t=b->(!b)=true->Iss K H3 ((((ovA ps ps.length).take (i+1)).filter fun t=>!Qm ps m t).map d3) (acc ++ [.ref p]):=fun b hb hb'=>by
    rw[zV ht,cz,aD]
    refine Iss.append hI' ?_
    rw[d6,hb,if_pos hb']
    simp only[cQ,ax,aN,Iss]
    refine⟨_,[],rfl,?_,rfl⟩
    simp only[d3,Is,Iss]
    exact⟨p,_,rfl,hp,_,_,rfl,rfl,_,_,rfl,rfl,_,_,rfl,rfl,rfl⟩
   refine⟨_,rfl,?_⟩
   cases hb:Qm ps m t with
   | false =>
    rw[if_pos rfl]
    refine⟨s5 _ _ hDF hH,by lia,CNx.mk hil ⟨fun b o' hbF e=>?_,ze,⟨mp',n',by rw[zq (fun z=>hDF z.symm)];exact hF5,hM5,by lia⟩,hcase _ hb rfl,hle'⟩⟩
    rw[zq (fun z=>by rw[z,hD] at e;cases e)]
    exact s5 b o' hbF (sT b o' hbF e)
   | true =>
    rw[if_neg (by decide)]
    refine CNx.mk hil ⟨sT.trans s5,s5 _ _ hDF hH,⟨mp',n',hF5,hM5,by lia⟩,?_,hle'⟩
    rw[zV ht,cz,d6,hb]
    simp only[Bool.not_true,bD,if_false,cQ,aU]
    exact hI'
  ·rintro acc H' ⟨sT,hH,_,hI',hle⟩
   rw[hxl,aM] at hI' hle
   exact k1 hle D H' (back sT) (s03.free hD) ⟨acc,hH,ZC sT hF3 hI'⟩
theorem zbg{p:Addr}{a b:V}{i j:Nat}{σ:L2.St}{H:Hp}{R:L2.St->Hp->Prop}(h:SqT K H p [a,b])(k:R ((σ.set i (some a)).set j (some b)) H):Kf K 2 (jS (xK i) (jS (xK j) Kh)) (.ref p) σ H R:=by
 simp only[Kf,jS,xK,Kh]
 first
 | exact⟨_,_,rfl,h,rfl,_,_,rfl,_,_,rfl,rfl,k⟩
 | exact⟨_,_,rfl,.inr h,rfl,_,_,rfl,_,_,rfl,rfl,k⟩
theorem EnsA.app{H:Hp}{fs:List Ent}{us:List V}(hf:EnsA K H fs us):∀{es:List Ent} {vs:List V},EnsA K H es vs->EnsA K H (es ++ fs) (vs ++ us)
 | [],vs,h=>by
  simp only[EnsA] at h
  subst h
  exact hf
 | e::es,vs,h=>by
  simp only[EnsA] at h
  obtain⟨x,r,rfl,hx,hr⟩:=h
  simp only[bt,EnsA]
  exact⟨x,r ++ us,rfl,hx,hf.app hr⟩
noncomputable abbrev MkS(P:Program)(w:World)(K:ot)(mg:Str->Option Value)(base:Heap)(CO CR CW CT CH:Addr):Prop:=DMk P w K mg base (CXx P w) 5 CH ["self","order","rules"] (uD K CO CR CW CT CH)
theorem JV{H:Hp}{Q:Addr->Hp->Prop}{CO CR CW CT CH o a:Addr}{k:Nat}{l:List Nat}{ns:List Int}{ps:List zB}(ho:OrdAt CO CR CW H o k l ns)(hG:OG l ns k)(hA:LsA K H a (ps.map dR))(hin:InL l ps)(hf:wF k l ns ps 0=none)(q:∀(y qa:Addr) (H':Hp),Same H H'->UV K CH H' y o qa ps->Q y H'):∀ x dx,H x=none->H dx=none->dx≠x->uD K CO CR CW CT CH [.ref x,.ref o,.ref a] (upd (upd H dx (.own x)) x (.ins CH dx [])) (fun v H'=>v=.non/\Q x H') E0:=by
 intro x dx hx hdx hne
 obtain⟨xs,hX,hI⟩:=hA
 have sd:=zf (o:=.own x) hdx
 have k1:Same H (upd (upd H dx (.own x)) x (.ins CH dx [])):=fun b' o' e=>by
  rw[zq (zF e hx)]
  exact sd _ _ e
 refine⟨x,dx,o,a,k,l,ns,ps,xs,rfl,ze,ho.same k1,hG,k1 _ _ hX,Iss.same k1 _ _ hI,hin,(fun i e=>by rw[hf] at e;cases e),fun _ q1 H'' kp hx' hq' hqn=>⟨rfl,?_⟩⟩
 have k3:Same H H'':=fun b' o' e=>kp b' o' (fun z=>by rw[z,hx] at e;cases e) (k1 _ _ e)
 exact q x q1 H'' k3 ⟨dx,xs,hx',hq',Iss.same k3 _ _ hI⟩
theorem BG.inL{k:Nat}{l:List Nat}{ns:List Int}{bs:List Ent}(h:BG k l ns bs):InL l (zd bs):=fun p hp=>by
 obtain⟨e,he,rfl⟩:=List.mem_map.mp hp
 have b:=h.e e he
 exact⟨aQ b.a (by decide),aQ b.b (by decide),b.ma,b.mb⟩
theorem BG.fault{k:Nat}{l:List Nat}{ns:List Int}{bs:List Ent}(h:BG k l ns bs):wF k l ns (zd bs) 0=none:=vU fun m p e=>by
 obtain⟨e',he,rfl⟩:=List.mem_map.mp (ac e)
 exact h.lt e' he
noncomputable def jJ(K:ot)(CO CR CW CH:Addr):Sp:=fun vs H Q _=>∃(o a:Addr) (k:Nat) (l:List Nat) (ns:List Int) (bs:List Ent),vs=[.ref o,.ref a]/\OrdAt CO CR CW H o k l ns/\OG l ns k/\EnsL K H a bs/\BG k l ns bs/\∀(y qa:Addr) (H':Hp),Same H H'->UV K CH H' y o qa (zd bs)->Q (.ref y) H'
theorem Zx:zr ["order","entries"] ["order","entries"] (zb yX):=⟨rfl,rfl,rfl,by decide +kernel,rfl,by decide +kernel,by decide +kernel⟩
theorem Zs{f CO CR CW CT CH:Addr}{fd:FuncData}(B:Bt mg)(TS:K2 K mg CH)(MS:MkS P w K mg base CO CR CW CT CH)(F:Fun K "system_by" "system_by" yX f fd)(fW:Df P w K mg base CX0 1 "pairs_of" ["entries"] [] (wm K)):ye P w K mg base CX0 7 f fd ["order","entries"] (jJ K CO CR CW CH):=by
 refine F.ok Zx (fun vs H Q E h=>?_) (fun cdv A outer s H vs Q E hr h=>?_)
 ·obtain⟨o,a,k,l,ns,bs,rfl,_⟩:=h
  rfl
 ·obtain⟨o,a,k,l,ns,bs,rfl,ho,hG,hA,hB,q⟩:=h
  refine⟨_,(zh (zu (zbX xe0 MS hr rfl TS.g (za (pv 0) (za (cl0 fW hr .nil rfl (za (pv 1) zc)) zc))))),?_⟩
  have s16:=yf
  repeat (first | rfl' | simp only[yq,zw,zH,yy,yw,zv])
  refine wD hA.is (by have:=hB.n;lia) fun D H' _ s' hL=>?_
  exact JV (ho.same s') hG hL hB.inL hB.fault fun y qa H'' s'' hy=>q y qa H'' (s'.trans s'') hy
noncomputable def fE(i:Nat)(p:zB):Ent:=(p.1,p.2,[((i:Int),(0:Int),true)])
noncomputable def fEs(rs:List zB):Nat->List Ent
 | 0=>[]
 | n+1=>fEs rs n ++ ((rs[n]?).map (fE n)).toList
theorem UQ{rs:List zB}{n:Nat}{p:zB}(h:rs[n]? = some p):fEs rs (n+1)=fEs rs n ++ [fE n p]:=by
 show fEs rs n ++ ((rs[n]?).map (fE n)).toList=_
 rw[h]
 rfl
theorem Vc(rs:List zB):∀ n,(fEs rs n).length<=n
 | 0=>aq _
 | n+1=>by
  have:=Vc rs n
  show (fEs rs n ++ ((rs[n]?).map (fE n)).toList).length<=_
  rw[au]
  cases rs[n]? with
  | none=>simp;lia
  | some p=>simp;lia
theorem ko{rs:List zB}:∀{n:Nat} {e:Ent},e ∈ fEs rs n->∃ i p,i<n/\rs[i]? = some p/\e=fE i p
 | 0,e,h=>(nomatch h)
 | n+1,e,h=>by
  have h':e ∈ fEs rs n ++ ((rs[n]?).map (fE n)).toList:=h
  rcases List.mem_append.mp h' with h | h
  ·obtain⟨i,p,hi,hp,he⟩:=ko h
   exact⟨i,p,by lia,hp,he⟩
  ·cases hn:rs[n]? with
   | none=>rw[hn] at h;simp at h
   | some p =>
    rw[hn] at h
    exact⟨n,p,by lia,hn,by simpa using h⟩
noncomputable def j6(K:ot):Sp:=fun vs H Q _=>∃(a:Addr) (rs:List zB),vs=[.ref a]/\LsA K H a (rs.map dR)/\rs.length<=20/\∀(D:Addr) (H':Hp),Same H H'->H D=none->EnsM K H' D (fEs rs rs.length)->Q (.ref D) H'
theorem ux:zr ["pacts"] ["pacts"] (zb zY):=⟨rfl,rfl,rfl,by decide +kernel,rfl,by decide +kernel,by decide +kernel⟩
theorem ut{f:Addr}{fd:FuncData}(B:Bt mg)(F:Fun K "first_entries" "first_entries" zY f fd) : ye P w K mg base CX0 1 f fd ["pacts"] (j6 K):=by
 refine F.ok ux (fun vs H Q E h=>?_) (fun cdv A outer s H vs Q E hr h=>?_)
 ·obtain⟨a,rs,rfl,_⟩:=h
  rfl
 ·obtain⟨a,rs,rfl,hA,hrl,q⟩:=h
  refine⟨_,(zh (zu (yD (g:=Kf K 2 (jS (xK 0) (jS (xK 1) Kh))) (own:=["number","pact"]) (caps:=[]) (ix:=[]) (tt:=wu) (te:=(QD (zN (tOp (ub K) (yK 1) (tC (.int 0))) (zN (tOp (ub K) (yK 1) (tC (.int 1))) (zN (zbM (zN (QD (zN (yK 0) (zN (tC (.int 0)) (zN (tC (.bl true)) wq)))) wq)) wq))))) rfl (zO (sc:=zb zY) rfl (by decide +kernel) (by decide +kernel) (by decide +kernel) rfl (by decide +kernel) (by decide +kernel) rfl) (wl rfl B.enum (za (pv 0) zc)) (fun _ _ _ _ _ _=>vD (n:=2) rfl (zU (zA (i:=0) (show List.Nodup [_,_] by decide) rfl (Or.inl rfl)) (zU (zA (i:=1) (show List.Nodup [_,_] by decide) rfl (Or.inl rfl)) wd))) (fun _ _ _ _ _ _=>yE) (fun _ _ _ _ _ _=>(yo (za (zp ix_tup (pv 1) zg (fun _ _=>rfl)) (za (zp ix_tup (pv 1) zg (fun _ _=>rfl)) (za (ue (za (yo (za (pv 0) (za zg (za y0 zc)))) zc)) zc)))))))),?_⟩
  have s16:=yf
  have s16:=yf
  obtain⟨xs,hX,hI⟩:=id hA
  have hxl:=hI.len
  rw[ag] at hxl
  repeat (first | rfl' | simp only[yq,zw,zH,yy,yw,zv])
  rw[KG]
  repeat (first | rfl' | simp only[yq,zw,zH,yy,yw,zv])
  refine⟨⟨_,SqL.of hX⟩,fun D hD=>CompEL.by (xs:=xs) (fun i acc H'=>Same H H'/\H' D=some (.lst acc)/\acc.length<=i/\EnsA K (ja D H') (fEs rs i) acc) ⟨zf hD,ze,aq _,rfl⟩ (fun i acc H' _ h=>SqL.of (h.1 _ _ hX)) ?_ ?_⟩
  ·rintro i x acc H' p hx ⟨hs,hH,hal,hEn⟩ hp
   have hil:=(List.getElem?_eq_some_iff.mp hx).1
   obtain⟨r,pr,hri,rfl,hqr⟩:=hI.getR hx
   have u1:=zf (o:=HO.tup [.int (i:Nat),.ref pr]) hp
   have hq:=zk (hs.trans u1) hqr
   refine zbg (SqT.of ze) ?_
   simp only[wu]
   rfl'
   refine⟨Qg,_,hq,_,rfl,_,hq,_,rfl,by lia,fun p1 hp1=>⟨by lia,fun p2 hp2=>⟨by lia,fun p3 hp3=>?_⟩⟩⟩
   have u2:=zf (o:=HO.tup [.int (i:Nat),.int 0,.bl true]) hp1
   have u3:=zf (o:=HO.lst [.ref p1]) hp2
   have u4:=zf (o:=HO.tup [.str (tx r.1),.str (tx r.2),.ref p2]) hp3
   have u:=u1.trans (u2.trans (u3.trans u4))
   have hD4:=u _ _ hH
   have hp2D:p2≠D:=fun z=>by rw[z,u2 _ _ (u1 _ _ hH)] at hp2;cases hp2
   refine⟨hD4,by lia,CNx.mk hil ⟨zK (hs.trans u) hD,ze,by rw[au];simp only[aL,cM];lia,?_⟩⟩
   rw[UQ hri]
   refine (hEn.same ((wy u).trans xD)).snoc (EnA.same ?_ xD)
   refine EnA.new (e:=fE i r) hD4 ze ⟨_,u4 _ _ ze,?_⟩ hp2D
   show Iss K _ [dSt ((i:Int),(0:Int),true)] _
   exact JL (YU (SqT.of (u4 _ _ (u3 _ _ ze))))
  ·rintro acc H' ⟨hs,hH,hal,hEn⟩
   rw[hxl] at hEn
   exact q D H' hs hD ⟨acc,hH,hEn.same wA⟩
noncomputable def jj(es:List Ent):Bool:=decide (12<es.length) || es.any fun e=>decide (10<max e.1.length e.2.1.length)
structure TMc(mg:Str->Option Value):Prop where
 u:∃ t,mg "MOST_USES_completing" = some (.int 40 t)
 e:∃ t,mg "MOST_ENTRIES" = some (.int 12 t)
 d:∃ t,mg "MOST_SIDE_completing" = some (.int 10 t)
 p:∃ t,mg "MOST_PEAKS" = some (.int 8 t)
noncomputable def qL(K:ot):Sp:=fun vs H Q _=>∃(a:Addr) (es:List Ent),vs=[.ref a]/\EnsL K H a es/\es.length<64/\(∀ e ∈ es,e.1.length<=10000/\e.2.1.length<=10000)/\∀ H',Same H H'->Q (.bl (jj es)) H'
theorem kT:zr ["entries"] ["entries"] (zb yH):=⟨rfl,rfl,rfl,by decide +kernel,rfl,by decide +kernel,by decide +kernel⟩
theorem Zt{f:Addr}{fd:FuncData}(B:Bt mg)(hany:zbo mg)(TM:TMc mg)(F:Fun K "is_beyond" "is_beyond" yH f fd) : ye P w K mg base CX0 1 f fd ["entries"] (qL K):=by
 obtain⟨⟨t9,g9⟩,⟨t8,g8⟩⟩:=And.intro TM.e TM.d
 refine F.ok kT (fun vs H Q E h=>?_) (fun cdv A outer s H vs Q E hr h=>?_)
 ·obtain⟨a,es,rfl,_⟩:=h
  rfl
 ·obtain⟨a,es,rfl,hA,hl,hE,q⟩:=h
  refine⟨_,(zi (zZ (zE Zn (zm yb rfl B.len ay (za (pv 0) zc)) (yZ (v:=.int 12) rfl g9 ⟨t9,rfl⟩) (zJ _))
    (zh (zu y0))
    zC)
   (zh (zu (zm (Jv rfl) rfl hany dk (za (yD (own:=["entry"]) (caps:=[]) (ix:=[]) (tt:=wu) (te:=(tOp KU (tCB Jg (zN (tCB (Uw K) (zN (tOp (ub K) (yK 0) (tC (.int 0))) wq)) (zN (tCB (Uw K) (zN (tOp (ub K) (yK 0) (tC (.int 1))) wq)) wq))) (tC (.int 10)))) rfl (zO (sc:=zb yH) rfl (by decide +kernel) (by decide +kernel) (by decide +kernel) rfl (by decide +kernel) (by decide +kernel) rfl) (yI (pv 0)) (fun _ _ _ _ _ _=>zA (i:=0) (show List.Nodup [_] by decide) rfl (Or.inl rfl)) (fun _ _ _ _ _ _=>yE) (fun _ _ _ _ _ _=>(wo Zn (zm (WW rfl) rfl B.max uQ (za (zm yb rfl B.len ay (za (zp ix_tup (pv 0) zg (fun _ _=>rfl)) zc)) (za (zm yb rfl B.len ay (za (zp ix_tup (pv 0) zg (fun _ _=>rfl)) zc)) zc))) (yZ (v:=.int 10) rfl g8 ⟨t8,rfl⟩) (zJ _)))) zc))))),?_⟩
  have s16:=yf
  have s16:=yf
  obtain⟨xs,hX,hEn⟩:=id hA
  have hxl:=hEn.len
  refine zj (fun σ H'=>H'=H/\¬ 12<es.length/\σ=[some (.ref a)]) ?_ ?_
  ·repeat (first | rfl' | simp only[yq,zw,zH,yy,yw,zv])
   refine⟨_,.inl ⟨_,hX,rfl⟩,xa (fun h=>?_) fun h=>by lia⟩
   have e:jj es=true:=by
    unfold jj
    rw[decide_eq_true (by lia),Bool.true_or]
   rw[<- e]
   exact q H (Same.refl _)
  rintro σ H1 ⟨rfl,h12,rfl⟩
  repeat (first | rfl' | simp only[yq,zw,zH,yy,yw,zv])
  refine⟨⟨_,hX⟩,fun D hD=>CompL.by (xs:=xs) (fun i acc H'=>Same H1 H'/\H' D=some (.lst acc)/\acc=((es.take i).map fun e=>decide (10<max e.1.length e.2.1.length)).map V.bl) ⟨zf hD,ze,rfl⟩ (fun i acc H' _ h=>h.1.seq hX) ?_ ?_⟩
  ·rintro i x acc H' hx ⟨hs,hH,rfl⟩
   have hil:=(List.getElem?_eq_some_iff.mp hx).1
   obtain⟨e,p,s,he,rfl,hp,_⟩:=hEn.get hx
   have hq:=zk hs hp
   have hb:=hE e (ac he)
   simp only[wu]
   rfl'
   refine⟨xj,_,hq,_,rfl,_,⟨by rw[zQ];lia,rfl⟩,_,hq,_,rfl,_,⟨by rw[zQ];lia,rfl⟩,hH,by rw[ag,ag,aJ];lia,CNx.mk hil ⟨zK hs hD,ze,?_⟩⟩
   rw[zV he,aD,aD,zQ,zQ]
   congr 1
   show [V.bl _]=[V.bl _]
   congr 2
   refine decide_eq_decide.mpr ?_
   split <;> lia
  ·rintro acc H' ⟨hs,hH,rfl⟩
   rw[hxl,aM] at hH
   refine⟨D,_,rfl,SqL.of hH,?_⟩
   have e:(es.map fun e=>decide (10<max e.1.length e.2.1.length)).any id=jj es:=by
    unfold jj
    rw[decide_eq_false h12,Bool.false_or,List.any_map]
    rfl
   rw[e]
   exact q H' hs
theorem qf{es:List Ent}(h:jj es=false):es.length<=12/\∀ e ∈ es,e.1.length<=10/\e.2.1.length<=10:=by
 unfold jj at h
 rw[Bool.or_eq_false_iff] at h
 refine⟨by have:=of_decide_eq_false h.1;lia,fun e he=>?_⟩
 have:=List.any_eq_false.mp h.2 e he
 have h2:¬ 10<max e.1.length e.2.1.length:=fun z=>this (decide_eq_true z)
 lia
noncomputable def Wc(K:ot)(CO CR CW T:Addr):Sp:=fun vs H Q _=>∃(o a:Addr) (k:Nat) (l:List Nat) (ns:List Int) (es:List Ent),vs=[.ref o,.ref a]/\OrdAt CO CR CW H o k l ns/\OG l ns k/\EnsL K H a es/\es.length<64/\(∀ e ∈ es,EB l e)/\TabOk H T lp lq /\
 (∀(bs:List Ent) (D:Addr) (H':Hp),ug k l ns 20 es (some bs)->BG k l ns bs->jj bs=false->SamT T H H'->TabOk H' T lp lq->EnsM K H' D bs->Q (.ref D) H')/\((ug k l ns 20 es none\/∃ bs,ug k l ns 20 es (some bs)/\jj bs=true)->∀ H',SamT T H H'->TabOk H' T lp lq->Q .non H')
structure zbP(K:ot)(CF:Addr):Prop where
 s:cu K (.ref CF) (.ref CF)=some true
theorem iO:zr ["order","entries","slim"] ["order","entries"] (zb z8):=⟨rfl,rfl,rfl,by decide +kernel,rfl,by decide +kernel,by decide +kernel⟩
theorem vM{f CO CR CW TB CF:Addr}{fd:FuncData}(B:Bt mg)(TFx:Kd K mg CF)(TSb:zbP K CF)(F:Fun K "thinned_within" "thinned_within" z8 f fd)(nN:Df P w K mg base (CXx P w) 7 "thinned" ["order","entries"] [] (Z7 K CO CR CW TB CF))(nC:Df P w K mg base CX0 1 "is_beyond" ["entries"] [] (qL K)):ye P w K mg base CX0 8 f fd ["order","entries"] (Wc K CO CR CW TB):=by
 refine F.ok iO (fun vs H Q E h=>?_) (fun cdv A outer s H vs Q E hr h=>?_)
 ·obtain⟨o,a,k,l,ns,es,rfl,_⟩:=h
  rfl
 ·obtain⟨o,a,k,l,ns,es,rfl,ho,hG,hA,hz,hE,hTab,q1,q2⟩:=h
  refine⟨_,(zi (UI (i:=2) (th:=(zaF (tC .non))) iO.nd rfl (Or.inl rfl) (.inl rfl) ⟨rfl,rfl⟩ (clX nN hr .nil rfl (za (pv 0) (za (pv 1) zc))) rfl TFx.g TFx.xi.ok (fun e=>(zh (zu xO))))
   (zh (zu (kC (xv (cl0 nC hr .nil rfl (za (pv 2) zc)) (fun _=>rfl)) xO (pv 2))))),?_⟩
  have s16:=yf
  have s16:=yf
  refine zj (fun σ H'=>SamT TB H H'/\TabOk H' TB lp lq/\∃(bs:List Ent) (D:Addr),ug k l ns 20 es (some bs)/\BG k l ns bs/\EnsM K H' D bs/\σ=[some (.ref o),some (.ref a),some (.ref D)]) ?_ ?_
  ·simp only[Qh]
   repeat (first | rfl' | simp only[yq,zw,zH,yy,yw,zv])
   exact⟨o,a,k,l,ns,es,rfl,ho,hG,hA,hz,hE,hTab,fun bs D H' h1 h2 h3 h4 h5=>⟨h3,h4,bs,h1,h2,D,h5,rfl⟩,fun h H' h3 h4=>⟨CF,rfl,TSb.s,fun x hx=>q2 (.inl h) _ (h3.trans (SamT.of (zf hx))) (h4.same (zf hx))⟩⟩
  rintro σ H1 ⟨s1,hT1,bs,D,hTh,hB,hM,rfl⟩
  repeat (first | rfl' | simp only[yq,zw,zH,yy,yw,zv])
  exact⟨D,bs,rfl,hM.l,hB.n,fun e he=>⟨aQ (hB.e e he).a (by decide),aQ (hB.e e he).b (by decide)⟩,fun H' s'=>⟨_,rfl,xa (fun h=>q2 (.inr ⟨bs,hTh,h⟩) H' (s1.trans (SamT.of s')) (hT1.same s')) fun h=>q1 bs D H' hTh hB (by simpa using h) (s1.trans (SamT.of s')) (hT1.same s') (hM.same s')⟩⟩
theorem uR(w:List Nat)(k:Int)(o n:List Nat):(xh w k o n).length<=w.length+n.length:=by
 unfold xh
 rw[au,au,aJ,be]
 lia
theorem BG.ok{k:Nat}{l:List Nat}{ns:List Int}{bs:List Ent}(h:BG k l ns bs)(hl:bs.length<=30):j9 (zd bs):=by
 refine⟨by unfold zd;rw[ag];exact hl,fun r hr=>?_⟩
 obtain⟨e,he,rfl⟩:=List.mem_map.mp hr
 exact⟨aQ (h.e e he).a (by decide),aQ (h.e e he).b (by decide)⟩
theorem KW{ps:List zB}(hok:∀ r ∈ ps,r.1.length<=60/\r.2.length<=60){t:N3}(ht:t ∈ ovA ps ps.length):(pkA ps t).length<=180/\(pkB ps t).length<=180:=by
 obtain⟨i1,i2,i3,i4⟩:=qP ht
 obtain⟨r,hr⟩:∃ r,ps[t.1]? = some r:=⟨_,ak i1⟩
 obtain⟨r2,hr2⟩:∃ r,ps[t.2.1]? = some r:=⟨_,ak i2⟩
 have l1:=vH hr
 have l2:=vH hr2
 have d1:ps.getD t.1 ([],[])=r:=by rw[ae,hr];rfl
 have d2:ps.getD t.2.1 ([],[])=r2:=by rw[ae,hr2];rfl
 rw[l1] at i3
 have b1:=hok r (ac hr)
 have b2:=hok r2 (ac hr2)
 have hp:=vE r.1 r2.1 t.2.2 (by lia)
 have p1:=uR (yz r.1 r2.1 t.2.2) 0 r.1 r.2
 have p2:=uR (yz r.1 r2.1 t.2.2) (t.2.2:Nat) r2.1 r2.2
 unfold pkA pkB
 rw[l1,l2,d1,d2]
 lia
theorem zag{ps:List zB}(hN:NeL ps)(hok:∀ r ∈ ps,r.1.length<=60/\r.2.length<=60):zb9 ps 40:=by
 refine⟨by decide,fun t ht=>?_⟩
 obtain⟨h1,h2⟩:=KW hok ht
 have key:∀(v:List Nat),v.length<=180->∀ j,j<=40->(wAt ps v j).length<=10000:=fun v hv j hj=>by
  have:=qy (l:=v) hN (fun p hp=>(hok p hp).2) j
  have h3:j * 60<=40 * 60:=Nat.mul_le_mul hj (aq _)
  lia
 exact⟨key _ h1,key _ h2⟩
noncomputable def XX(K:ot)(CO CR CW:Addr):Sp:=fun vs H Q _=>∃(o a:Addr) (k:Nat) (l:List Nat) (ns:List Int) (bs:List Ent),vs=[.ref o,.ref a]/\OrdAt CO CR CW H o k l ns/\OG l ns k/\EnsL K H a bs/\BG k l ns bs/\bs.length<=30/\(ovA (zd bs) (zd bs).length).length<=4000 /\
 ((∀ t ∈ ovA (zd bs) (zd bs).length,OkG (zd bs) 40 t)->∀ D H',Same H H'->LsA K H' D ((unG (zd bs) 40).map d3)->Q (.ref D) H')/\(∀ t ∈ ovA (zd bs) (zd bs).length,¬ OkG (zd bs) 40 t->∀ H',Same H H'->Q .non H')
theorem qC:zr ["order","entries"] ["order","entries"] (zb yh):=⟨rfl,rfl,rfl,by decide +kernel,rfl,by decide +kernel,by decide +kernel⟩
theorem qO{f CO CR CW CF CH:Addr}{fd:FuncData}{lC:Tok}(B:Bt mg)(TFx:Kd K mg CF)(TSb:zbP K CF)(TM:TMc mg)(F:Fun K "unmet_within" "unmet_within" yh f fd)(nU:Df P w K mg base (CXx P w) 7 "unmet" ["system","most"] [] (vF K CH CF))(DD_unmet:Df P w K mg base (CXx P w) 7 "unmet" ["system","most"] [.int 4000 lC] (vF K CH CF))(nE:Df P w K mg base CX0 7 "system_by" ["order","entries"] [] (jJ K CO CR CW CH)):ye P w K mg base CX0 9 f fd ["order","entries"] (XX K CO CR CW):=by
 obtain⟨t9,g9⟩:=TM.u
 refine F.ok qC (fun vs H Q E h=>?_) (fun cdv A outer s H vs Q E hr h=>?_)
 ·obtain⟨o,a,k,l,ns,bs,rfl,_⟩:=h
  rfl
 ·obtain⟨o,a,k,l,ns,bs,rfl,ho,hG,hA,hB,hbl,hol,q1,q2⟩:=h
  refine⟨_,(zh (UF (th:=(zaF (tC .non))) ⟨rfl,rfl⟩ (clX nU hr .nil rfl (za (cl0 nE hr .nil rfl (za (pv 0) (za (pv 1) zc))) (za (yZ (v:=.int 40) rfl g9 ⟨t9,rfl⟩) zc))) rfl TFx.g TFx.xi.ok (fun e=>(zh (zu xO))))),?_⟩
  have s16:=yf
  have s16:=yf
  simp only[Qc]
  repeat (first | rfl' | simp only[yq,zw,zH,yy,yw,zv])
  have hsd:∀ r ∈ zd bs,r.1.length<=60/\r.2.length<=60:=fun r hr=>by
   obtain⟨e,he,rfl⟩:=List.mem_map.mp hr
   exact⟨(hB.e e he).a,(hB.e e he).b⟩
  exact⟨o,a,k,l,ns,bs,rfl,ho,hG,hA,hB,fun y qa H' s' hy=>⟨y,o,qa,zd bs,40,rfl,hy,hB.ne hG,hB.ok hbl,hol,zag (hB.ne hG) hsd,fun h D H'' s'' _ hL=>q1 h D H'' (s'.trans s'') hL,fun t ht h H'' s''=>⟨CF,rfl,TSb.s,fun x hx=>q2 t ht h _ (s'.trans (s''.trans (zf hx)))⟩⟩⟩
noncomputable def qX(es:List Ent)(t:N3):Ent:=(pkA (zd es) t,pkB (zd es) t,byL es [((t.1:Int),(0:Int),false),((t.2.1:Int),(t.2.2:Int),true)])
noncomputable def uT(K:ot):Sp:=fun vs H Q _=>∃(a t:Addr) (es:List Ent) (tr:N3),vs=[.ref a,.ref t]/\EnsL K H a es/\SqT K H t [.int (tr.1:Nat),.int (tr.2.1:Nat),.int (tr.2.2:Nat)]/\tr ∈ ovA (zd es) (zd es).length/\j9 (zd es)/\(∀ e ∈ es,e.2.2.length<=600)/\∀(p s:Addr) (H':Hp),Same H H'->H' p=some (.tup [.str (tx (qX es tr).1),.str (tx (qX es tr).2.1),.ref s])->LsA K H' s ((qX es tr).2.2.map dSt)->H s=none->Q (.ref p) H'
theorem lw:zr ["entries","overlap","sides","steps"] ["entries","overlap"] (zb xt):=⟨rfl,rfl,rfl,by decide +kernel,rfl,by decide +kernel,by decide +kernel⟩
theorem Z5{f:Addr}{fd:FuncData}(B:Bt mg)(F:Fun K "entry_of" "entry_of" xt f fd)(nw:Df P w K mg base CX0 4 "peak" ["rules","overlap"] [] (qi K))(iR:Df P w K mg base CX0 2 "by_pacts" ["entries","steps"] [] (W8 K))(fW:Df P w K mg base CX0 1 "pairs_of" ["entries"] [] (wm K)):ye P w K mg base CX0 5 f fd ["entries","overlap"] (uT K):=by
 refine F.ok lw (fun vs H Q E h=>?_) (fun cdv A outer s H vs Q E hr h=>?_)
 ·obtain⟨a,t,es,tr,rfl,_⟩:=h
  rfl
 ·obtain⟨a,t,es,tr,rfl,hA,ht,htr,hok,hst,q⟩:=h
  refine⟨_,(zi (zx (i:=2) lw.nd rfl (Or.inl rfl) (cl0 nw hr .nil rfl (za (cl0 fW hr .nil rfl (za (pv 0) zc)) (za (pv 1) zc))))
   (zi (zx (i:=3) lw.nd rfl (Or.inl rfl) (cl0 iR hr .nil rfl (za (pv 0) (za (ue (za (yo (za (zp ix_tup (pv 1) zg (fun _ _=>rfl)) (za zg (za y0 zc)))) (za (yo (za (zp ix_tup (pv 1) zg (fun _ _=>rfl)) (za (zp ix_tup (pv 1) zg (fun _ _=>rfl)) (za y0 zc)))) zc))) zc))))
   (zh (zu (yo (za (zp ix_tup (pv 2) zg (fun _ _=>rfl)) (za (zp ix_tup (pv 2) zg (fun _ _=>rfl)) (za (pv 3) zc)))))))),?_⟩
  have s16:=yf
  have s16:=yf
  have hlp:(zd es).length=es.length:=by unfold zd;rw[ag]
  obtain⟨i1,i2,i3,i4⟩:=qP htr
  obtain⟨r,hr1⟩:∃ r,(zd es)[tr.1]? = some r:=⟨_,ak i1⟩
  obtain⟨r2,hr2⟩:∃ r,(zd es)[tr.2.1]? = some r:=⟨_,ak i2⟩
  have l1:=vH hr1
  have l2:=vH hr2
  have d1:(zd es).getD tr.1 ([],[])=r:=by rw[ae,hr1];rfl
  have d2:(zd es).getD tr.2.1 ([],[])=r2:=by rw[ae,hr2];rfl
  have eA:pkA (zd es) tr=xh (yz r.1 r2.1 tr.2.2) 0 r.1 r.2:=by unfold pkA;rw[l1,l2,d1]
  have eB:pkB (zd es) tr=xh (yz r.1 r2.1 tr.2.2) (tr.2.2:Nat) r2.1 r2.2:=by unfold pkB;rw[l1,l2,d2]
  rw[l1] at i3
  rw[l1,l2] at i4
  refine zj (fun σ H'=>Same H H'/\∃ p:Addr,(∃ x,H' p=some (.tup [x,.str (tx (pkA (zd es) tr)),.str (tx (pkB (zd es) tr))]))/\σ=[some (.ref a),some (.ref t),some (.ref p),none]) ?_ ?_
  ·rfl'
   refine wD hA.is (by have:=hok.1;lia) fun D H1 _ s1 hL=>?_
   exact Y2 hL.is (zk s1 ht) hok hr1 hr2 (by lia) i4 fun p H' _ s' hp=>⟨s1.trans s',p,⟨_,by rw[eA,eB];exact hp⟩,rfl⟩
  rintro σ H1 ⟨s1,p,⟨x,hp⟩,rfl⟩
  refine zj (fun σ H'=>Same H1 H'/\∃ S:Addr,H S=none/\LsA K H' S ((qX es tr).2.2.map dSt)/\σ=[some (.ref a),some (.ref t),some (.ref p),some (.ref S)]) ?_ ?_
  ·have ht1:=zk s1 ht
   rfl'
   refine⟨_,ht1,_,rfl,by lia,fun p1 hp1=>?_⟩
   have u1:=zf (o:=HO.tup [.int (tr.1:Nat),.int 0,.bl false]) hp1
   refine⟨_,zk u1 ht1,_,rfl,_,zk u1 ht1,_,rfl,by lia,fun p2 hp2=>⟨by lia,fun p3 hp3=>?_⟩⟩
   have u2:=zf (o:=HO.tup [.int (tr.2.1:Nat),.int (tr.2.2:Nat),.bl true]) hp2
   have u3:=zf (o:=HO.lst [.ref p1,.ref p2]) hp3
   have u:=u1.trans (u2.trans u3)
   refine W0 (us:=[((tr.1:Int),(0:Int),false),((tr.2.1:Int),(tr.2.2:Int),true)]) (hA.same (s1.trans u)).is (LsA.is ⟨_,ze,?_⟩) (by simp) hst (fun v hv=>?_) fun D H' hDn s' hL=>⟨u.trans s',D,(s1.trans u).free hDn,hL,rfl⟩
   ·simp only[ax,aN,Iss]
    exact⟨_,_,rfl,YU (SqT.of (u3 _ _ (u2 _ _ ze))),_,_,rfl,YU (SqT.of (u3 _ _ ze)),rfl⟩
   ·simp only[df,List.not_mem_nil,or_false] at hv
    rcases hv with rfl | rfl
    ·exact⟨by simp,by show (tr.1:Int)<_;lia⟩
    ·exact⟨by simp,by show (tr.2.1:Int)<_;lia⟩
  rintro σ H2 ⟨s2,S,hSn,hS,rfl⟩
  rfl'
  exact⟨_,SqT.of (s2 _ _ hp),_,rfl,_,SqT.of (s2 _ _ hp),_,rfl,by lia,fun p' hp'=>q p' S _ (s1.trans (s2.trans (zf hp'))) ze (hS.same (zf hp')) hSn⟩
theorem U3{k:Nat}{l:List Nat}{ns:List Int}{e:Ent}(h:¬ qW e):¬ qW (yu k l ns e):=by
 unfold yu
 split
 ·exact h
 ·unfold qW at h ⊢
  rw[xG]
  show ¬ (240<e.2.2.length\/60<e.2.1.length\/60<e.1.length)
  lia
theorem XL{k:Nat}{l:List Nat}{ns:List Int}{bs es:List Ent}{r:Option (List Ent)}(h:xx k l ns bs es r):(∀ e ∈ bs,¬ qW e)->∀ fs,r=some fs->∀ e ∈ fs,¬ qW e:=by
 induction h with
 | nil bs=>exact fun h fs e=>by cases e;exact h
 | same _ _ _ _ ih=>exact ih
 | new _ _ _ h4 _ ih =>
  intro h
  refine ih fun e he=>?_
  rcases List.mem_append.mp he with he | he
  ·exact h e he
  ·rw[List.mem_singleton.mp he]
   exact U3 h4
 | far _ _ _ _=>exact fun _ fs e=>by cases e
 | stuck _=>exact fun _ fs e=>by cases e
theorem qt{k n:Nat}{l:List Nat}{ns:List Int}{es:List Ent}{r:Option (List Ent)}(h:ug k l ns n es r):∀ fs,r=some fs->∀ e ∈ fs,¬ qW e:=by
 induction h with
 | out es=>exact fun fs e=>by cases e
 | bad _ _=>exact fun fs e=>by cases e
 | done _ h2 _=>exact fun fs e=>by cases e;exact XL h2 (fun e he=>(nomatch he)) _ rfl
 | more _ _ _ _ ih=>exact ih
theorem WH{es:List Ent}{M:Nat}(h:∀ e ∈ es,e.2.2.length<=M)(u:Stp):(Xb es u).length<=M:=by
 have hg:(es.getD u.1.toNat ([],[],[])).2.2.length<=M:=by
  rw[ae]
  cases e:es[u.1.toNat]? with
  | none=>exact aG _
  | some x=>exact h x (ac e)
 unfold Xb
 rw[Y5]
 split
 ·exact hg
 ·rw[xG]
  exact hg
inductive Cpl(k:Nat)(l:List Nat)(ns:List Int):Nat->List Ent->List Ent->Bool->List Ent->Prop where
 | out (kept fresh:List Ent):Cpl k l ns 0 kept fresh false kept
 | slim {n:Nat} {kept fresh:List Ent} (h:ug k l ns 20 fresh none\/∃ bs,ug k l ns 20 fresh (some bs)/\jj bs=true):Cpl k l ns (n+1) kept fresh false kept
 | far {n:Nat} {kept fresh bs:List Ent} {t:N3} (h:ug k l ns 20 fresh (some bs)) (hb:jj bs=false) (ht:t ∈ ovA (zd bs) (zd bs).length) (ho:¬ OkG (zd bs) 40 t):Cpl k l ns (n+1) kept fresh false bs
 | whole {n:Nat} {kept fresh bs:List Ent} (h:ug k l ns 20 fresh (some bs)) (hb:jj bs=false) (ho:∀ t ∈ ovA (zd bs) (zd bs).length,OkG (zd bs) 40 t) (hu:unG (zd bs) 40=[]):Cpl k l ns (n+1) kept fresh true bs
 | more {n:Nat} {kept fresh bs es:List Ent} {w:Bool} (h:ug k l ns 20 fresh (some bs)) (hb:jj bs=false) (ho:∀ t ∈ ovA (zd bs) (zd bs).length,OkG (zd bs) 40 t) (hu:unG (zd bs) 40≠[]) (r:Cpl k l ns n bs (bs ++ ((unG (zd bs) 40).take 8).map (qX bs)) w es):Cpl k l ns (n+1) kept fresh w es
theorem KR{ps:List zB}(hl:ps.length<=12)(h:∀ r ∈ ps,r.1.length<=10):(ovA ps ps.length).length<=4000:=by
 have lfl:∀ i,(lf ps i).length<=10:=fun i=>by
  cases e:ps[i]? with
  | none=>unfold lf;rw[ae,e];exact aG _
  | some r=>rw[vH e];exact h r (ac e)
 have oI:∀ i m,(ovI ps i m).length<=m * 10:=fun i m=>by
  induction m with
  | zero=>exact aG _
  | succ m ih =>
   rw[uL,au]
   have h1:=uI ps i m (lf ps i).length
   have h2:=lfl i
   lia
 have oA:∀ m,(ovA ps m).length<=m * 120:=fun m=>by
  induction m with
  | zero=>exact aG _
  | succ m ih =>
   rw[ka,au]
   have h1:=oI m ps.length
   lia
 have:=oA ps.length
 lia
theorem za2{l:List Nat}{ps:List zB}(hin:∀ r ∈ ps,(∀ c ∈ r.1,c ∈ l)/\∀ c ∈ r.2,c ∈ l)(h10:∀ r ∈ ps,r.1.length<=10/\r.2.length<=10){t:N3}(ht:t ∈ ovA ps ps.length):((pkA ps t).length<=60/\∀ c ∈ pkA ps t,c ∈ l)/\(pkB ps t).length<=60/\∀ c ∈ pkB ps t,c ∈ l:=by
 obtain⟨i1,i2,i3,i4⟩:=qP ht
 obtain⟨r,hr⟩:∃ r,ps[t.1]? = some r:=⟨_,ak i1⟩
 obtain⟨r2,hr2⟩:∃ r,ps[t.2.1]? = some r:=⟨_,ak i2⟩
 have l1:=vH hr
 have l2:=vH hr2
 have d1:ps.getD t.1 ([],[])=r:=by rw[ae,hr];rfl
 have d2:ps.getD t.2.1 ([],[])=r2:=by rw[ae,hr2];rfl
 rw[l1] at i3
 have b1:=h10 r (ac hr)
 have b2:=h10 r2 (ac hr2)
 have n1:=hin r (ac hr)
 have n2:=hin r2 (ac hr2)
 have hp:=vE r.1 r2.1 t.2.2 (by lia)
 have p1:=uR (yz r.1 r2.1 t.2.2) 0 r.1 r.2
 have p2:=uR (yz r.1 r2.1 t.2.2) (t.2.2:Nat) r2.1 r2.2
 have hw:∀ c ∈ yz r.1 r2.1 t.2.2,c ∈ l:=fun c hc=>by
  unfold yz at hc
  rcases List.mem_append.mp hc with h | h
  ·exact n1.1 c h
  ·exact n2.1 c (cE h)
 have put:∀(k:Int) (o n:List Nat),(∀ c ∈ n,c ∈ l)->∀ c ∈ xh (yz r.1 r2.1 t.2.2) k o n,c ∈ l:=fun k o n hn c hc=>by
  unfold xh at hc
  rcases List.mem_append.mp hc with hc | hc
  ·rcases List.mem_append.mp hc with hc | hc
   ·exact hw c (bu hc)
   ·exact hn c hc
  ·exact hw c (cE hc)
 unfold pkA pkB
 rw[l1,l2,d1,d2]
 exact⟨⟨by lia,put _ _ _ n1.2⟩,by lia,put _ _ _ n2.2⟩
theorem Wy{k:Nat}{l:List Nat}{ns:List Int}{bs:List Ent}(hB:BG k l ns bs)(hb:jj bs=false)(hs:∀ e ∈ bs,e.2.2.length<=240){t:N3}(ht:t ∈ ovA (zd bs) (zd bs).length):EB l (qX bs t):=by
 obtain⟨b1,b2⟩:=qf hb
 obtain⟨h1,h2⟩:=za2 (l:=l) (ps:=zd bs) (fun r hr=>by
  obtain⟨e,he,rfl⟩:=List.mem_map.mp hr
  exact⟨(hB.e e he).ma,(hB.e e he).mb⟩) (fun r hr=>by
  obtain⟨e,he,rfl⟩:=List.mem_map.mp hr
  exact b2 e he) ht
 refine⟨h1.1,h2.1,?_,h1.2,h2.2⟩
 show (byL bs [((t.1:Int),(0:Int),false),((t.2.1:Int),(t.2.2:Int),true)]).length<=600
 unfold byL
 rw[List.flatMap_cons,List.flatMap_cons,List.flatMap_nil,aU,au]
 have o1:=WH hs ((t.1:Int),(0:Int),false)
 have o2:=WH hs ((t.2.1:Int),(t.2.2:Int),true)
 lia
theorem EnsM.samT{T:Addr}{H H':Hp}{ps:Array Value}{a:Addr}{es:List Ent}(h:EnsM K H a es)(s:SamT T H H')(hT:H T=some (.tbl ps)):EnsM K H' a es:=by
 obtain⟨xs,h1,h2⟩:=h
 exact⟨xs,s.at hT h1 (fun _ z=>by cases z),EnsA.samT s hT h2⟩
noncomputable def zaQ(K:ot)(T:Addr)(H:Hp)(k:Nat)(l:List Nat)(ns:List Int)(rs:List zB)(m n:Nat)(H':Hp)(Dk Df:Addr):Prop:=∃ kept fresh:List Ent,SamT T H H'/\TabOk H' T lp lq/\EnsM K H' Dk kept/\EnsL K H' Df fresh/\fresh.length<64/\(∀ e ∈ fresh,EB l e)/\BG k l ns kept/\∀ w es,Cpl k l ns n kept fresh w es->Cpl k l ns m [] (fEs rs rs.length) w es
noncomputable def WZ(K:ot)(CO CR CW T:Addr):Sp:=fun vs H Q _=>∃(o a:Addr) (k:Nat) (l:List Nat) (ns:List Int) (rs:List zB) (m:Nat),vs=[.ref o,.ref a,.int (m:Nat)]/\OrdAt CO CR CW H o k l ns/\OG l ns k/\LsA K H a (rs.map dR)/\rs.length<=20/\InL l rs/\(∀ r ∈ rs,r.1.length<=60/\r.2.length<=60)/\m<=1000/\TabOk H T lp lq/\∀(w:Bool) (es:List Ent) (p D:Addr) (H':Hp),Cpl k l ns (m+1) [] (fEs rs rs.length) w es->BG k l ns es->SamT T H H'->TabOk H' T lp lq->H' p=some (.tup [.bl w,.ref D])->EnsM K H' D es->Q (.ref p) H'
theorem fB:zr ["order","pacts","rounds","kept","fresh","turn","slim","lacking"] ["order","pacts","rounds"] (zb yG):=⟨rfl,rfl,rfl,by decide +kernel,rfl,by decide +kernel,by decide +kernel⟩
theorem kR{f CO CR CW TB:Addr}{fd:FuncData}(B:Bt mg)(TM:TMc mg)(F:Fun K "completed" "completed" yG f fd)(mL:Df P w K mg base CX0 1 "first_entries" ["pacts"] [] (j6 K))(my:Df P w K mg base CX0 8 "thinned_within" ["order","entries"] [] (Wc K CO CR CW TB))(mU:Df P w K mg base CX0 9 "unmet_within" ["order","entries"] [] (XX K CO CR CW))(nJ:Df P w K mg base CX0 5 "entry_of" ["entries","overlap"] [] (uT K)):ye P w K mg base CX0 10 f fd ["order","pacts","rounds"] (WZ K CO CR CW TB):=by
 obtain⟨t9,g9⟩:=TM.p
 refine F.ok fB (fun vs H Q E h=>?_) (fun cdv A outer s H vs Q E hr h=>?_)
 ·obtain⟨o,a,k,l,ns,rs,m,rfl,_⟩:=h
  rfl
 ·obtain⟨o,a,k,l,ns,rs,m,rfl,ho,hG,hA,hrl,hin,h60,hm,hTab,q⟩:=h
  refine⟨_,(zi (zx (i:=3) fB.nd rfl (Or.inr rfl) (ue zc))
   (zi (zx (i:=4) fB.nd rfl (Or.inl rfl) (cl0 mL hr .nil rfl (za (pv 1) zc)))
   (zi (yV PassesOwn.never rfl (x0 rfl B.range (za (zI op_add (pv 2) zg) zc)) (zA (i:=5) fB.nd rfl (Or.inl rfl))
    (zi (zx (i:=6) fB.nd rfl (Or.inl rfl) (cl0 my hr .nil rfl (za (pv 0) (za (pv 4) zc))))
    (zi (zZ (zE op_isN' (pv 6) xO (zJ _))
     (zh (zu (yo (za y0 (za (pv 3) zc)))))
     zC)
    (zi (zx (i:=3) fB.nd rfl (Or.inr rfl) (pv 6))
    (zi (zx (i:=7) fB.nd rfl (Or.inl rfl) (cl0 mU hr .nil rfl (za (pv 0) (za (pv 3) zc))))
    (zi (zZ (zE op_isN' (pv 7) xO (zJ _))
     (zh (zu (yo (za y0 (za (pv 3) zc)))))
     zC)
    (zi (zZ (zE qo (zm yb rfl B.len ay (za (pv 7) zc)) zg (zJ _))
     (zh (zu (yo (za y0 (za (pv 3) zc)))))
     zC)
    (zh (zx (i:=4) fB.nd rfl (Or.inl rfl) (zI ZZ (pv 3) (yD (own:=["overlap"]) (caps:=["kept"]) (ix:=[3]) (tt:=wu) (te:=(qv (uT K) [] E0 (zN (yK 1) (zN (yK 0) wq)))) rfl (zO (sc:=zb yG) rfl (by decide +kernel) (by decide +kernel) (by decide +kernel) rfl (by decide +kernel) (by decide +kernel) rfl) (yI (yA sl_list (pv 7) xN (yC (yZ (v:=.int 8) rfl g9 ⟨t9,rfl⟩)))) (fun _ _ _ _ _ _=>zA (i:=0) (show List.Nodup [_,_] by decide) rfl (Or.inl rfl)) (fun _ _ _ _ _ _=>yE) (fun _ _ _ _ _ _=>(cl0 nJ hr .nil rfl (za (pv 1) (za (pv 0) zc)))))))))))))))
   (zh (zu (yo (za y0 (za (pv 3) zc)))))))),?_⟩
  have s16:=yf
  have s16:=yf
  have hTt:=hTab
  obtain⟨tp,htp,_⟩:=hTt
  refine zj (fun σ H'=>Same H H'/\∃ Dk:Addr,H' Dk=some (.lst [])/\σ=[some (.ref o),some (.ref a),some (.int (m:Nat)),some (.ref Dk),none,none,none,none]) ?_ ?_
  ·repeat (first | rfl' | simp only[yq,zw,zH,yy,yw,zv])
   exact⟨by lia,fun p hp=>⟨zf hp,ze⟩⟩
  rintro σ H1 ⟨s1,Dk0,hDk0,rfl⟩
  have hE0:∀ e ∈ fEs rs rs.length,EB l e:=fun e he=>by
   obtain⟨i,p,hi,hp,rfl⟩:=ko he
   have h1:=h60 p (ac hp)
   have h2:=hin p (ac hp)
   exact⟨h1.1,h1.2,by show ([((i:Int),(0:Int),true)]:List Stp).length<=600;simp,h2.2.2.1,h2.2.2.2⟩
  refine zj (fun σ H'=>∃ Df:Addr,zaQ K TB H k l ns rs (m+1) (m+1) H' Dk0 Df/\σ=[some (.ref o),some (.ref a),some (.int (m:Nat)),some (.ref Dk0),some (.ref Df),none,none,none]) ?_ ?_
  ·repeat (first | rfl' | simp only[yq,zw,zH,yy,yw,zv])
   exact⟨a,rs,rfl,hA.same s1,hrl,fun Df H' s' _ hM=>⟨Df,⟨[],fEs rs rs.length,SamT.of (s1.trans s'),hTab.same (s1.trans s'),⟨[],s' _ _ hDk0,rfl⟩,hM.l,by have:=Vc rs rs.length;lia,hE0,⟨by simp,fun e he=>(nomatch he),fun e he=>(nomatch he)⟩,fun w es h=>h⟩,rfl⟩⟩
  rintro σ H2 ⟨Df0,hC0,rfl⟩
  refine zj (fun σ H'=>∃(Dk Df:Addr) (v5 v6 v7:Option V),zaQ K TB H k l ns rs (m+1) 0 H' Dk Df/\σ=[some (.ref o),some (.ref a),some (.int (m:Nat)),some (.ref Dk),some (.ref Df),v5,v6,v7]) ?_ ?_
  ·repeat (first | rfl' | simp only[yq,zw,zH,yy,yw,zv])
   refine⟨by lia,by lia,ForR.by (fun i σ H'=>∃(Dk Df:Addr) (v5 v6 v7:Option V),zaQ K TB H k l ns rs (m+1) (m+1 - i) H' Dk Df/\σ=[some (.ref o),some (.ref a),some (.int (m:Nat)),some (.ref Dk),some (.ref Df),v5,v6,v7]) ⟨Dk0,Df0,none,none,none,hC0,rfl⟩ ?_ ?_⟩
   ·rintro i σ H' hi ⟨Dk,Df,v5,v6,v7,⟨kept,fresh,sT,hT,hK,hF,hfl,hfE,hB,hcp⟩,rfl⟩
    have hi':i<m+1:=by lia
    have en:m+1 - i=(m+1 - (i+1))+1:=by lia
    rw[en] at hcp
    have hTt:=hT
    obtain⟨tq,htq,_⟩:=hTt
    have ho':=ho.samT sT htp
    simp only[xK,bp,bo]
    refine zj (fun σ' G=>SamT TB H' G/\TabOk G TB lp lq/\(((ug k l ns 20 fresh none\/∃ bs,ug k l ns 20 fresh (some bs)/\jj bs=true)/\σ'=[some (.ref o),some (.ref a),some (.int (m:Nat)),some (.ref Dk),some (.ref Df),some (.int (0+(i:Int))),some (.non),v7])\/∃(bs:List Ent) (D:Addr),ug k l ns 20 fresh (some bs)/\BG k l ns bs/\jj bs=false/\EnsM K G D bs/\σ'=[some (.ref o),some (.ref a),some (.int (m:Nat)),some (.ref Dk),some (.ref Df),some (.int (0+(i:Int))),some (.ref D),v7])) ?_ ?_
    ·repeat (first | rfl' | simp only[yq,zw,zH,yy,yw,zv])
     exact⟨o,Df,k,l,ns,fresh,rfl,ho',hG,hF,hfl,hfE,hT,fun bs D G h1 h2 h3 h4 h5 h6=>⟨h4,h5,.inr ⟨bs,h1,h2,h3,D,h6,rfl⟩⟩,fun h G h4 h5=>⟨h4,h5,.inl ⟨h,rfl⟩⟩⟩
    rintro σ' G1 ⟨g1,hT1,hcase⟩
    have hK1:=hK.samT g1 htq
    refine zj (fun σ' G=>Same G1 G/\∃(bs:List Ent) (D:Addr),ug k l ns 20 fresh (some bs)/\BG k l ns bs/\jj bs=false/\EnsM K G D bs/\σ'=[some (.ref o),some (.ref a),some (.int (m:Nat)),some (.ref Dk),some (.ref Df),some (.int (0+(i:Int))),some (.ref D),v7]) ?_ ?_
    ·rcases hcase with ⟨hno,rfl⟩ | ⟨bs,D,h1,h2,h3,h4,rfl⟩
     ·repeat (first | rfl' | simp only[yq,zw,zH,yy,yw,zv])
      exact⟨by lia,fun p hp=>q false kept p Dk _ (hcp _ _ (.slim hno)) hB (sT.trans (g1.trans (SamT.of (zf hp)))) (hT1.same (zf hp)) ze (hK1.same (zf hp))⟩
     ·repeat (first | rfl' | simp only[yq,zw,zH,yy,yw,zv])
      exact⟨Same.refl _,bs,h1,h2,h3,h4⟩
    rintro σ' G2 ⟨s2,bs,D,hTh,hBb,hbey,hD,rfl⟩
    refine zj (fun σ' G=>G=G2/\σ'=[some (.ref o),some (.ref a),some (.int (m:Nat)),some (.ref D),some (.ref Df),some (.int (0+(i:Int))),some (.ref D),v7]) ?_ ?_
    ·repeat (first | rfl' | simp only[yq,zw,zH,yy,yw,zv])
    rintro σ' G3 ⟨rfl,rfl⟩
    have sT3:SamT TB H G3:=sT.trans (g1.trans (SamT.of s2))
    have hT3:=hT1.same s2
    have ho3:=ho.samT sT3 htp
    obtain⟨b12,b10⟩:=qf hbey
    have hpl:(zd bs).length=bs.length:=by unfold zd;rw[ag]
    have hol:=KR (ps:=zd bs) (by lia) fun r hr=>by
     obtain⟨e,he,rfl⟩:=List.mem_map.mp hr
     exact (b10 e he).1
    have hnear:∀ e ∈ bs,e.2.2.length<=240:=fun e he=>by
     have:=qt hTh bs rfl e he
     unfold qW at this
     lia
    refine zj (fun σ' G=>Same G3 G/\(((∃ t ∈ ovA (zd bs) (zd bs).length,¬ OkG (zd bs) 40 t)/\σ'=[some (.ref o),some (.ref a),some (.int (m:Nat)),some (.ref D),some (.ref Df),some (.int (0+(i:Int))),some (.ref D),some (.non)])\/∃ L:Addr,(∀ t ∈ ovA (zd bs) (zd bs).length,OkG (zd bs) 40 t)/\LsA K G L ((unG (zd bs) 40).map d3)/\σ'=[some (.ref o),some (.ref a),some (.int (m:Nat)),some (.ref D),some (.ref Df),some (.int (0+(i:Int))),some (.ref D),some (.ref L)])) ?_ ?_
    ·repeat (first | rfl' | simp only[yq,zw,zH,yy,yw,zv])
     exact⟨o,D,k,l,ns,bs,rfl,ho3,hG,hD.l,hBb,by lia,hol,fun h L G s' hL=>⟨s',.inr ⟨h,L,hL,rfl⟩⟩,fun t ht h G s'=>⟨s',.inl ⟨⟨t,ht,h⟩,rfl⟩⟩⟩
    rintro σ' G4 ⟨s4,hcase⟩
    refine zj (fun σ' G=>Same G3 G/\∃ L:Addr,(∀ t ∈ ovA (zd bs) (zd bs).length,OkG (zd bs) 40 t)/\LsA K G L ((unG (zd bs) 40).map d3)/\σ'=[some (.ref o),some (.ref a),some (.int (m:Nat)),some (.ref D),some (.ref Df),some (.int (0+(i:Int))),some (.ref D),some (.ref L)]) ?_ ?_
    ·rcases hcase with ⟨⟨t,ht,hno⟩,rfl⟩ | ⟨L,h1,h2,rfl⟩
     ·repeat (first | rfl' | simp only[yq,zw,zH,yy,yw,zv])
      exact⟨by lia,fun p hp=>q false bs p D _ (hcp _ _ (.far hTh hbey ht hno)) hBb (sT3.trans (SamT.of (s4.trans (zf hp)))) (hT3.same (s4.trans (zf hp))) ze (hD.same (s4.trans (zf hp)))⟩
     ·repeat (first | rfl' | simp only[yq,zw,zH,yy,yw,zv])
      exact⟨s4,h1,h2⟩
    rintro σ' G5 ⟨s5,L,hok,hL,rfl⟩
    refine zj (fun σ' G=>G=G5/\unG (zd bs) 40≠[]/\σ'=[some (.ref o),some (.ref a),some (.int (m:Nat)),some (.ref D),some (.ref Df),some (.int (0+(i:Int))),some (.ref D),some (.ref L)]) ?_ ?_
    ·repeat (first | rfl' | simp only[yq,zw,zH,yy,yw,zv])
     obtain⟨xs,hX,hI⟩:=id hL
     have hxl:=hI.len
     rw[ag] at hxl
     refine⟨_,.inl ⟨_,SqL.of hX,rfl⟩,xa (fun h=>⟨by lia,fun p hp=>q true bs p D _ (hcp _ _ (.whole hTh hbey hok (List.length_eq_zero_iff.mp (by lia)))) hBb (sT3.trans (SamT.of (s5.trans (zf hp)))) (hT3.same (s5.trans (zf hp))) ze (hD.same (s5.trans (zf hp)))⟩) fun h z=>h ?_⟩
     rw[z] at hxl
     show ((xs.length:Nat):Int)=0
     rw[hxl]
     rfl
    rintro σ' G6 ⟨rfl,hne,rfl⟩
    repeat (first | rfl' | simp only[yq,zw,zH,yy,yw,zv])
    obtain⟨xs,hX,hI⟩:=id hL
    have hxl:=hI.len
    rw[ag] at hxl
    have hct:Ke xs none (some 8)=xs.take 8:=kJ xs (k:=8) (by decide)
    refine⟨_,SqL.of hX,fun p hp=>?_⟩
    rw[hct]
    have u1:=zf (o:=HO.lst (xs.take 8)) hp
    have hS7:(upd G6 p (.lst (xs.take 8))) p=some (.lst (xs.take 8)):=ze
    have hX7:=Iss.same u1 _ _ hI
    have hD7:=hD.same (s5.trans u1)
    refine⟨⟨_,SqL.of hS7⟩,fun E1 hE1=>?_⟩
    generalize upd G6 p (.lst (xs.take 8))=G7 at *
    refine CompL.by (xs:=xs.take 8) (fun j acc H'=>Same G7 H'/\H' E1=some (.lst acc)/\acc.length<=j/\EnsA K (ja E1 H') (((unG (zd bs) 40).take j).map (qX bs)) acc) ⟨zf hE1,ze,aq _,rfl⟩ (fun j acc H' _ h=>SqL.of (h.1 _ _ hS7)) ?_ ?_
    ·rintro j x acc H' hx ⟨hs,hH,hal,hEn⟩
     have hjl:=(List.getElem?_eq_some_iff.mp hx).1
     have hj8:j<8:=by rw[aJ] at hjl;lia
     rw[cT hj8] at hx
     obtain⟨t,pt,ht,rfl,hpt⟩:=hX7.get3 hx
     have htm:=(List.mem_filter.mp (ac ht)).1
     simp only[wu]
     rfl'
     refine⟨xj,D,pt,bs,t,rfl,(hD7.same hs).l,zk hs hpt,htm,hBb.ok (by lia),fun e he=>(hBb.e e he).s,fun p' s' H5 h1 h2 h3 h4=>?_⟩
     have hH5:=h1 _ _ hH
     have hsE:s'≠E1:=fun z=>by rw[z,hH] at h4;cases h4
     refine⟨hH5,by lia,CNx.mk hjl ⟨zK (hs.trans h1) hE1,ze,by rw[au];simp only[aL,cM];lia,?_⟩⟩
     rw[zV ht,aD]
     exact (hEn.same ((wy h1).trans xD)).snoc ((EnA.new (e:=qX bs t) hH5 h2 h3 hsE).same xD)
    ·rintro acc H' ⟨hs,hH,hal,hEn⟩
     have hEn':EnsA K H' (((unG (zd bs) 40).take 8).map (qX bs)) acc:=by
      have h1:=hEn.same wA
      rw[aJ,hxl] at h1
      have e:(unG (zd bs) 40).take (min 8 (unG (zd bs) 40).length)=(unG (zd bs) 40).take 8:=by
       rw[<- eK,aM]
      rw[e] at h1
      exact h1
     have hal8:acc.length<=8:=by rw[aJ] at hal;lia
     obtain⟨xk,hxk,hek⟩:=hD7.same hs
     have hkl:=hek.len
     refine⟨E1,rfl,xk,hxk,acc,hH,by lia,fun p2 hp2=>⟨D,p2,⟨bs,_,sT3.trans (SamT.of (s5.trans (u1.trans (hs.trans (zf hp2))))),hT3.same (s5.trans (u1.trans (hs.trans (zf hp2)))),⟨xk,zf hp2 _ _ hxk,hek.same (zf hp2)⟩,⟨xk ++ acc,SqL.of ze,(hEn'.same (zf hp2)).app (hek.same (zf hp2))⟩,?_,fun e he=>?_,hBb,fun w es h=>hcp w es (.more hTh hbey hok hne h)⟩,rfl,rfl⟩⟩
     ·rw[au,ag,aJ]
      lia
     ·rcases List.mem_append.mp he with he | he
      ·exact hBb.e e he
      ·obtain⟨t,ht,rfl⟩:=List.mem_map.mp he
       exact Wy hBb hbey hnear (List.mem_filter.mp (bu ht)).1
   ·rintro σ H' ⟨Dk,Df,v5,v6,v7,hC,rfl⟩
    rw[show ((m:Int)+1).toNat=m+1 by lia,Nat.sub_self] at hC
    exact⟨Dk,Df,hC,_,_,_,rfl⟩
  rintro σ H3 ⟨Dk,Df,v5,v6,v7,⟨kept,fresh,sT,hT,hK,hF,hfl,hfE,hB,hcp⟩,rfl⟩
  repeat (first | rfl' | simp only[yq,zw,zH,yy,yw,zv])
  exact⟨by lia,fun p hp=>q false kept p Dk _ (hcp _ _ (.out kept fresh)) hB (sT.trans (SamT.of (zf hp))) (hT.same (zf hp)) ze (hK.same (zf hp))⟩
theorem ku{ps:List zB}{w:List Nat}{i:Nat}{q:Int}{f:Bool}{r:zB}(hr:ps[i]? = some r)(h:zy w q (sdl r f).1=true):yF ps w ((i:Int),q,f)=some (xh w q (sdl r f).1 (sdl r f).2):=by
 have hi:=(List.getElem?_eq_some_iff.mp hr).1
 have e:ps.getD ((i:Int),q,f).1.toNat ([],[])=r:=by
  show ps.getD ((i:Int)).toNat ([],[])=r
  rw[aW,ae,hr]
  rfl
 rw[y8 (show 0<=((i:Int),q,f).1/\((i:Int),q,f).1<ps.length by constructor <;> simp <;> lia),e,if_pos h]
theorem Uo{rs:List zB}{e:Ent}{n:Nat}(h:e ∈ fEs rs n):EOk rs e:=by
 obtain⟨i,p,hi,hp,rfl⟩:=ko h
 show yt rs p.1 [((i:Int),(0:Int),true)]=some p.2
 have hs:zy p.1 0 (sdl p true).1=true:=by
  show zy p.1 0 p.1=true
  refine decide_eq_true ⟨by lia,by lia,?_⟩
  show (p.1.drop 0).take p.1.length=p.1
  rw[dH,aM]
 simp only[yt,ku hp hs,bM]
 show some (xh p.1 0 p.1 p.2)=some p.2
 congr 1
 unfold xh
 show p.1.take 0 ++ p.2 ++ p.1.drop (0+p.1.length)=p.2
 rw[bG,bT,aX (by lia),aU]
theorem Jx{rs:List zB}{bs:List Ent}(hb:∀ e ∈ bs,EOk rs e){t:N3}(ht:t ∈ ovA (zd bs) (zd bs).length):EOk rs (qX bs t):=by
 obtain⟨i1,i2,i3,i4⟩:=qP ht
 obtain⟨r,hr⟩:∃ r,(zd bs)[t.1]? = some r:=⟨_,ak i1⟩
 obtain⟨r2,hr2⟩:∃ r,(zd bs)[t.2.1]? = some r:=⟨_,ak i2⟩
 have l1:=vH hr
 have l2:=vH hr2
 have d1:(zd bs).getD t.1 ([],[])=r:=by rw[ae,hr];rfl
 have d2:(zd bs).getD t.2.1 ([],[])=r2:=by rw[ae,hr2];rfl
 rw[l1] at i3
 rw[l1,l2] at i4
 have eA:pkA (zd bs) t=xh (yz r.1 r2.1 t.2.2) 0 r.1 r.2:=by unfold pkA;rw[l1,l2,d1]
 have eB:pkB (zd bs) t=xh (yz r.1 r2.1 t.2.2) (t.2.2:Nat) r2.1 r2.2:=by unfold pkB;rw[l1,l2,d2]
 refine kn hb ?_
 show yt (zd bs) (pkA (zd bs) t) [((t.1:Int),(0:Int),false),((t.2.1:Int),(t.2.2:Int),true)]=some (pkB (zd bs) t)
 obtain⟨b1,b2⟩:=Yp r.2 (jz r.1 r2.1 t.2.2)
 rw[eA,eB]
 have h1:=ku (f:=false) (q:=0) hr (w:=xh (yz r.1 r2.1 t.2.2) 0 r.1 r.2) b1
 have h2:=ku (f:=true) (q:=(t.2.2:Int)) hr2 (w:=yz r.1 r2.1 t.2.2) (qm (by lia) i4)
 have h1':yF (zd bs) (xh (yz r.1 r2.1 t.2.2) 0 r.1 r.2) ((t.1:Int),(0:Int),false)=some (yz r.1 r2.1 t.2.2):=by
  rw[h1]
  congr 1
 have h2':yF (zd bs) (yz r.1 r2.1 t.2.2) ((t.2.1:Int),(t.2.2:Int),true)=some (xh (yz r.1 r2.1 t.2.2) (t.2.2:Nat) r2.1 r2.2):=h2
 simp only[yt,h1',h2',bM]
theorem Vk{k:Nat}{l:List Nat}{ns:List Int}{es bs zs:List Ent}(h:ug k l ns 20 es (some bs))(hb:jj bs=false)(hz:ThinL k l ns zs)(hp:zd bs=zd zs):BG k l ns bs:=by
 obtain⟨b1,_⟩:=qf hb
 have key:∀ e ∈ bs,∃ z ∈ zs,z.1=e.1/\z.2.1=e.2.1:=fun e he=>by
  have:(e.1,e.2.1) ∈ zd zs:=by rw[<- hp];exact List.mem_map.mpr ⟨e,he,rfl⟩
  obtain⟨z,hz,e2⟩:=List.mem_map.mp this
  injection e2 with h1 h2
  exact⟨z,hz,h1,h2⟩
 refine⟨by lia,fun e he=>?_,fun e he=>?_⟩
 ·obtain⟨z,hzm,h1,h2⟩:=key e he
  have hE:=hz.rl.e z hzm
  have hn:=qt h bs rfl e he
  unfold qW at hn
  exact⟨by lia,by lia,by lia,by rw[<- h1];exact hE.ma,by rw[<- h2];exact hE.mb⟩
 ·obtain⟨z,hzm,h1,h2⟩:=key e he
  rw[<- h1,<- h2]
  exact hz.rl.lt z hzm
noncomputable def Gd(rs:List zB)(k:Nat)(l:List Nat)(ns:List Int)(es:List Ent):Prop:=(∀ e ∈ es,EOk rs e)/\(es=[]\/(ThinL k l ns es/\jj es=false/\BG k l ns es))
theorem Z2{rs:List zB}{k:Nat}{l:List Nat}{ns:List Int}(G:OG l ns k){es bs:List Ent}(h:ug k l ns 20 es (some bs))(hb:jj bs=false)(he:∀ e ∈ es,EB l e)(ho:∀ e ∈ es,EOk rs e):Gd rs k l ns bs:=by
 obtain⟨h1,zs,hz,hp⟩:=Yx (rs:=rs) G h bs rfl he ho
 have hB:=Vk h hb hz hp
 exact⟨h1,.inr ⟨hz.pairs hp hB.e,hb,hB⟩⟩
theorem zae{rs:List zB}{k n:Nat}{l:List Nat}{ns:List Int}(G:OG l ns k){kept fresh es:List Ent}{w:Bool}(h:Cpl k l ns n kept fresh w es):(∀ e ∈ fresh,EB l e)->(∀ e ∈ fresh,EOk rs e)->Gd rs k l ns kept->Gd rs k l ns es:=by
 induction h with
 | out kept fresh=>exact fun _ _ h=>h
 | slim _=>exact fun _ _ h=>h
 | far h hb _ _=>exact fun he ho _=>Z2 G h hb he ho
 | whole h hb _ _=>exact fun he ho _=>Z2 G h hb he ho
 | @more n kept fresh bs es w h hb ho' hu r ih =>
  intro he ho _
  have hg:=Z2 (rs:=rs) G h hb he ho
  have hB:BG k l ns bs:=by
   obtain⟨h1,zs,hz,hp⟩:=Yx (rs:=rs) G h bs rfl he ho
   exact Vk h hb hz hp
  have hnear:∀ e ∈ bs,e.2.2.length<=240:=fun e hm=>by
   have:=qt h bs rfl e hm
   unfold qW at this
   lia
  refine ih (fun e hm=>?_) (fun e hm=>?_) hg
  ·rcases List.mem_append.mp hm with hm | hm
   ·exact hB.e e hm
   ·obtain⟨t,ht,rfl⟩:=List.mem_map.mp hm
    exact Wy hB hb hnear (List.mem_filter.mp (bu ht)).1
  ·rcases List.mem_append.mp hm with hm | hm
   ·exact hg.1 e hm
   ·obtain⟨t,ht,rfl⟩:=List.mem_map.mp hm
    exact Jx hg.1 (List.mem_filter.mp (bu ht)).1
structure TTl(K:ot):Prop where
 tt:aP K (.type "tuple") (.type "tuple")=some true
 bb:aP K (.type "bool") (.type "bool")=some true
noncomputable def jH(K:ot):Sp:=fun vs H Q _=>∃(p D:Addr) (w:Bool) (es:List Ent),vs=[.ref p]/\H p=some (.tup [.bl w,.ref D])/\EnsL K H D es/\Q (.bl true) H
theorem Q0:zr ["_law_found"] ["_law_found"] (zb jw):=⟨rfl,rfl,rfl,by decide +kernel,rfl,by decide +kernel,by decide +kernel⟩
theorem Jy{f:Addr}{fd:FuncData}(B:Bt mg)(TT':TTl K)(F:Fun K "_law_told" "_law_told" jw f fd)(nO:Df P w K mg base CX0 3 "_law_entries" ["_law_found"] [] (Yg K)):ye P w K mg base CX0 4 f fd ["_law_found"] (jH K):=by
 refine F.ok Q0 (fun vs H Q E h=>?_) (fun cdv A outer s H vs Q E hr h=>?_)
 ·obtain⟨p,D,w,es,rfl,_⟩:=h
  rfl
 ·obtain⟨p,D,w,es,rfl,hp,hE,q⟩:=h
  refine⟨_,(zi (zZ (PW.pt (vt (yn (xv (xz rfl B.isi (pv 0) rfl B.tuple PySem.Pv.boot_tuple) (fun _=>rfl))) (vt (zE ZU (zm yb rfl B.len ay (za (pv 0) zc)) zg (zJ _)) (vz (yn (xv (xz rfl B.isi (zp ix_tup (pv 0) zg (fun _ _=>rfl)) rfl B.bool PySem.Pv.boot_bool) (fun _=>rfl)))))))
    (zh (zu y0))
    zC)
   (zh (zu (cl0 nO hr .nil rfl (za (zp ix_tup (pv 0) zg (fun _ _=>rfl)) zc))))),?_⟩
  have s16:=yf
  refine zj (fun σ H'=>H'=H/\σ=[some (.ref p)]) ?_ ?_
  ·repeat (first | rfl' | simp only[yq,zw,zH,yy,yw,zv])
   exact⟨_,.inl (.tup hp),true,TT'.tt,xa (fun e=>by cases e) fun _=>⟨_,.inr ⟨_,SqT.of hp,rfl⟩,xa (fun e=>absurd rfl e) fun _=>⟨_,SqT.of hp,_,rfl,_,.inl (.bl _),true,TT'.bb,xa (fun e=>by cases e) fun _=>trivial⟩⟩⟩
  rintro σ H1 ⟨rfl,rfl⟩
  repeat (first | rfl' | simp only[yq,zw,zH,yy,yw,zv])
  exact⟨_,SqT.of hp,_,rfl,D,es,rfl,hE.is,q⟩
structure Drw(H:Hp)(k:Int)(l:List Nat)(ws:List Int)(W:Addr):Prop where
 k0:0<=k
 k3:k<3
 g:uq l=true
 n:ws.length=l.length
 b:∀ n ∈ ws,1<=n/\n<=1000000
 w:H W=some (.lst (ws.map V.int))
structure PG(l:List Nat)(rs:List zB):Prop where
 n:rs.length<=6
 s:∀ r ∈ rs,r.1.length<=3/\r.2.length<=3/\(∀ x ∈ r.1,x ∈ l)/\∀ x ∈ r.2,x ∈ l
theorem PG.ok{l:List Nat}{rs:List zB}(h:PG l rs):j9 rs:=⟨by have:=h.n;lia,fun r hr=>by have:=h.s r hr;lia⟩
noncomputable def Yj(K:ot)(T:Addr):Sp:=fun vs H Q _=>∃(a:Addr) (ns:List Int),vs=[.ref a]/\SqL K H a (ns.map V.int)/\(∀ z ∈ ns,qd z)/\H T=some (.tbl #[])/\∀ H',Q (.bl true) H'
theorem iV:zr ["_law_script","_law_kind","_law_letters_here","_law_weights","_law_pacts","_law_handed","_law_found"] ["_law_script"] (zb uu):=⟨rfl,rfl,rfl,by decide +kernel,rfl,by decide +kernel,by decide +kernel⟩
theorem K9{f CO CR CW TB:Addr}{fd:FuncData}(B:Bt mg)(hany:zbo mg)(F:Fun K "law" "law" uu f fd)(nX:Df P w K mg base CX0 3 "_law_draw" ["_law_cell_here"] [] Yb)(nF:Df P w K mg base CX0 10 "completed" ["order","pacts","rounds"] [] (WZ K CO CR CW TB))(mM:Df P w K mg base CX0 1 "_law_cell" ["_law_script","_law_k"] [] (qA K))(nY:Df P w K mg base CX0 2 "_law_pair" ["_law_cell_here","_law_letters_here","_law_most"] [] qH)(nV:Df P w K mg base CX0 6 "_law_order" ["_law_kind","_law_letters_here","_law_weights"] [] (kj K CO CR CW))(nZ:Df P w K mg base CX0 2 "_law_thin" ["_law_found","_law_kind","_law_letters_here","_law_weights"] [] (j7 K))(oa:Df P w K mg base CX0 4 "_law_told" ["_law_found"] [] (jH K))(og:Df P w K mg base CX0 2 "_law_end" ["_law_pacts","_law_word_here","_law_steps_here"] [] (Zo K)):ye P w K mg base CX0 11 f fd ["_law_script"] (Yj K TB):=by
 refine F.ok iV (fun vs H Q E h=>?_) (fun cdv A outer s H vs Q E hr h=>?_)
 ·obtain⟨a,ns,rfl,_⟩:=h
  rfl
 ·obtain⟨a,ns,rfl,hS,hB,hT,q⟩:=h
  refine⟨_,(zi (Qu (cl0 nX hr .nil rfl (za (cl0 mM hr .nil rfl (za (pv 0) (za zg zc))) zc)) (vD (n:=3) rfl (zU (zA (i:=1) iV.nd rfl (Or.inl rfl)) (zU (zA (i:=2) iV.nd rfl (Or.inr rfl)) (zU (zA (i:=3) iV.nd rfl (Or.inl rfl)) wd)))))
   (zi (zx (i:=4) iV.nd rfl (Or.inr rfl) (yD (own:=["_law_k"]) (caps:=["_law_script","_law_letters_here"]) (ix:=[0,2]) (tt:=wu) (te:=(qv qH [] E0 (zN (qv (qA K) [] E0 (zN (yK 1) (zN (tOp Uv (tC (.int 2)) (yK 0)) wq))) (zN (yK 2) (zN (tC (.int 3)) wq))))) rfl (zO (sc:=zb uu) rfl (by decide +kernel) (by decide +kernel) (by decide +kernel) rfl (by decide +kernel) (by decide +kernel) rfl) (x0 rfl B.range (za (zI wJ (cl0 mM hr .nil rfl (za (pv 0) (za zg zc))) zg) zc)) (fun _ _ _ _ _ _=>zA (i:=0) (show List.Nodup [_,_,_] by decide) rfl (Or.inl rfl)) (fun _ _ _ _ _ _=>yE) (fun _ _ _ _ _ _=>(cl0 nY hr .nil rfl (za (cl0 mM hr .nil rfl (za (pv 1) (za (zI ZZ zg (pv 0)) zc))) (za (pv 2) (za zg zc)))))))
   (zi (zx (i:=5) iV.nd rfl (Or.inl rfl) (xW xE rfl B.list PySem.Pv.boot_list (za (pv 4) zc)))
   (zi (zx (i:=6) iV.nd rfl (Or.inl rfl) (cl0 nF hr .nil rfl (za (cl0 nV hr .nil rfl (za (pv 1) (za (pv 2) (za (pv 3) zc)))) (za (pv 5) (za (zI wJ (zI wI (cl0 mM hr .nil rfl (za (pv 0) (za zg zc))) zg) zg) zc)))))
   (zi (zZ (PW.pt (vt (zE (zai (qG hr)) (pv 5) (pv 4) (zJ _)) (vt (yn (xv (cl0 oa hr .nil rfl (za (pv 6) zc)) (fun _=>rfl))) (vz (zE op_gt (zm yb rfl B.len ay (za (zp ix_tup (pv 6) zg (fun _ _=>rfl)) zc)) zg (zJ _))))))
    (zh (zu y0))
    zC)
   (zi (zZ (xv (zm (Jv rfl) rfl hany dk (za (yD (own:=["_law_entry"]) (caps:=[]) (ix:=[]) (tt:=wu) (te:=(zbm (tOp KU (tCB (Uw K) (zN (tOp (ub K) (yK 0) (tC (.int 0))) wq)) (tC (.int 10))) (tOp KU (tCB (Uw K) (zN (tOp (ub K) (yK 0) (tC (.int 1))) wq)) (tC (.int 10))))) rfl (zO (sc:=zb uu) rfl (by decide +kernel) (by decide +kernel) (by decide +kernel) rfl (by decide +kernel) (by decide +kernel) rfl) (yI (zp ix_tup (pv 6) zg (fun _ _=>rfl))) (fun _ _ _ _ _ _=>zA (i:=0) (show List.Nodup [_] by decide) rfl (Or.inl rfl)) (fun _ _ _ _ _ _=>yE) (fun _ _ _ _ _ _=>(zby (wo Zn (zm yb rfl B.len ay (za (zp ix_tup (pv 0) zg (fun _ _=>rfl)) zc)) zg (zJ _)) (Qt (wo Zn (zm yb rfl B.len ay (za (zp ix_tup (pv 0) zg (fun _ _=>rfl)) zc)) zg (zJ _)))))) zc)) (fun _=>rfl))
    (zh (zu y0))
    zC)
   (zi (zZ (yn (xv (cl0 nZ hr .nil rfl (za (zp ix_tup (pv 6) zg (fun _ _=>rfl)) (za (pv 1) (za (pv 2) (za (pv 3) zc))))) (fun _=>rfl)))
    (zh (zu y0))
    zC)
   (zh (zu (zm (zbw rfl) rfl B.all PyProof.Rows.boot_all (za (yD (own:=["_law_entry"]) (caps:=["_law_pacts"]) (ix:=[4]) (tt:=wu) (te:=(tOp rEq (qv (Zo K) [] E0 (zN (yK 1) (zN (tOp (ub K) (yK 0) (tC (.int 0))) (zN (tOp (ub K) (yK 0) (tC (.int 2))) wq)))) (tOp (ub K) (yK 0) (tC (.int 1))))) rfl (zO (sc:=zb uu) rfl (by decide +kernel) (by decide +kernel) (by decide +kernel) rfl (by decide +kernel) (by decide +kernel) rfl) (yI (zp ix_tup (pv 6) zg (fun _ _=>rfl))) (fun _ _ _ _ _ _=>zA (i:=0) (show List.Nodup [_,_] by decide) rfl (Or.inl rfl)) (fun _ _ _ _ _ _=>yE) (fun _ _ _ _ _ _=>(wo qo (cl0 og hr .nil rfl (za (pv 1) (za (zp ix_tup (pv 0) zg (fun _ _=>rfl)) (za (zp ix_tup (pv 0) zg (fun _ _=>rfl)) zc)))) (zp ix_tup (pv 0) zg (fun _ _=>rfl)) (zJ _)))) zc))))))))))),?_⟩
  have s16:=yf
  have s16:=yf
  have hTab:TabOk H TB lp lq:=⟨#[],hT,trivial,.inl rfl⟩
  refine zj (fun σ H'=>Same H H'/\∃(k:Int) (l:List Nat) (W:Addr),(∃ ws,Drw H' k l ws W)/\σ=[some (.ref a),some (.int k),some (.str (tx l)),some (.ref W),none,none,none]) ?_ ?_
  ·rfl'
   refine uV hS hB (by decide) fun c hc=>⟨c,rfl,hc,fun k l ws p W H' a1 a2 a3 a4 a5 s' hp hW=>?_⟩
   exact⟨p,rfl,_,SqT.of hp,rfl,_,_,rfl,_,_,rfl,_,_,rfl,rfl,s',k,l,W,⟨ws,a1,a2,a3,a4,a5,hW⟩,rfl,rfl,rfl⟩
  rintro σ H1 ⟨s1,k,l,W,⟨ws,hw⟩,rfl⟩
  obtain⟨l1,l6,lsm,lnd⟩:=of_decide_eq_true hw.g
  have hS1:=s1.seq hS
  refine zj (fun σ H'=>Same H1 H'/\∃ pa:Addr,(∃ rs,LsA K H' pa (rs.map dR)/\PG l rs)/\σ=[some (.ref a),some (.int k),some (.str (tx l)),some (.ref W),some (.ref pa),none,none]) ?_ ?_
  ·rfl'
   refine uV hS1 hB (by decide) fun c2 _=>?_
   have e0:=bJ c2 (b:=5) (by decide)
   have e1:=bE c2 (b:=5) (by decide)
   refine⟨c2,rfl,by decide,by lia,by lia,fun D hD=>CompR.by (fun i acc H'=>Same H1 H'/\H' D=some (.lst acc)/\∃ rs:List zB,Iss K H' (rs.map dR) acc/\rs.length=i/\∀ r ∈ rs,r.1.length<=3/\r.2.length<=3/\(∀ x ∈ r.1,x ∈ l)/\∀ x ∈ r.2,x ∈ l) ⟨zf hD,ze,[],by simp only[aN,Iss],rfl,fun r h=>(nomatch h)⟩ ?_ ?_⟩
   ·rintro i acc H' hi ⟨hs,hH,rs,hI,hrl,hrb⟩
    have hal:=hI.len
    rw[ag] at hal
    have hi4:i<5:=by lia
    simp only[wu]
    rfl'
    refine⟨xj,uV (hs.seq hS1) hB (by lia) fun c3 hc3=>Uk hc3 (by lia) (by lia) (by decide) (by decide) fun o n p ho hn mo mn hp=>⟨zf hp _ _ hH,by lia,CNx.mk hi ⟨zK (hs.trans (zf hp)) hD,ze,rs ++ [(o,n)],?_,by rw[au,hrl];rfl,fun r hr'=>?_⟩⟩⟩
    ·rw[aD]
     exact uC hH hI hp Ki (YG rs) (by simp only[ya,xA,and_self])
    ·rcases List.mem_append.mp hr' with h | h
     ·exact hrb r h
     ·rw[List.mem_singleton.mp h]
      exact⟨by show o.length<=3;lia,by show n.length<=3;lia,mo,mn⟩
   ·rintro acc H' ⟨hs,hH,rs,hI,hrl,hrb⟩
    exact⟨hs,D,⟨rs,⟨acc,hH,hI⟩,by lia,hrb⟩,rfl⟩
  rintro σ H2 ⟨s2,pa,⟨rs,hP,hPG⟩,rfl⟩
  have sX:=s1.trans s2
  refine zj (fun σ H'=>Same H2 H'/\∃ hd:Addr,LsA K H' hd (rs.map dR)/\σ=[some (.ref a),some (.int k),some (.str (tx l)),some (.ref W),some (.ref pa),some (.ref hd),none]) ?_ ?_
  ·repeat (first | rfl' | simp only[yq,zw,zH,yy,yw,zv])
   obtain⟨xs,hX,hI⟩:=id hP
   exact⟨_,.inl (SqL.of hX),fun h hh=>⟨zf hh,⟨xs,ze,Iss.same (zf hh) _ _ hI⟩⟩⟩
  rintro σ H3 ⟨s3,hd,hHd,rfl⟩
  have hTab3:=hTab.same (sX.trans s3)
  obtain⟨tp,htp,_⟩:=id hTab3
  have hG:OG l ws k.toNat:=⟨hw.g,by have:=hw.k0;have:=hw.k3;lia,hw.n,hw.b⟩
  refine zj (fun σ H'=>SamT TB H3 H'/\∃(fp D:Addr) (w:Bool) (es:List Ent),Gd rs k.toNat l ws es/\H' fp=some (.tup [.bl w,.ref D])/\EnsM K H' D es/\σ=[some (.ref a),some (.int k),some (.str (tx l)),some (.ref W),some (.ref pa),some (.ref hd),some (.ref fp)]) ?_ ?_
  ·repeat (first | rfl' | simp only[yq,zw,zH,yy,yw,zv])
   refine⟨k,l,W,ws,rfl,hw.k0,hw.k3,hw.g,(s2.trans s3) _ _ hw.w,hw.n,hw.b,fun o H4 s4 ho=>uV ((s2.trans (s3.trans s4)).seq hS1) hB (by decide) fun c hc=>⟨c,rfl,⟨by decide,by decide⟩,by decide,?_⟩⟩
   have c0:=bJ (c / 5) (b:=4) (by decide)
   have c4:=bE (c / 5) (b:=4) (by decide)
   rw[show c / 5 % 4=((c / 5 % 4).toNat:Int) by lia]
   have hE0:∀ e ∈ fEs rs rs.length,EB l e:=fun e he=>by
    obtain⟨i,p,hi,hp,rfl⟩:=ko he
    have h1:=hPG.s p (ac hp)
    exact⟨by show p.1.length<=60;lia,by show p.2.length<=60;lia,by show ([((i:Int),(0:Int),true)]:List Stp).length<=600;simp,h1.2.2.1,h1.2.2.2⟩
   exact⟨o,hd,k.toNat,l,ws,rs,_,rfl,ho,hG,hHd.same s4,by have:=hPG.n;lia,(fun p hp=>by have h1:=hPG.s p hp;exact⟨by lia,by lia,h1.2.2.1,h1.2.2.2⟩),(fun p hp=>by have h1:=hPG.s p hp;lia),by lia,hTab3.same s4,fun w es p D H' hC hBG hs hTk hp hM=>⟨(SamT.of s4).trans hs,p,D,w,es,zae hG hC hE0 (fun e he=>Uo he) ⟨fun e he=>(nomatch he),.inl rfl⟩,hp,hM,rfl⟩⟩
  rintro σ H5 ⟨s5,fp,D,w,es,hGd,hfp,hM,rfl⟩
  obtain⟨hAll,hor⟩:=hGd
  have hlen:es.length<=12:=by
   rcases hor with rfl | ⟨_,h,_⟩
   ·exact aG _
   ·exact (qf h).1
  have hsd:∀ e ∈ es,EB l e/\e.1.length<=10/\e.2.1.length<=10:=fun e he=>by
   rcases hor with rfl | ⟨_,h,hb⟩
   ·cases he
   ·exact⟨hb.e e he,(qf h).2 e he⟩
  have hThin:ThinL k.toNat l ws es:=by
   rcases hor with rfl | ⟨h,_,_⟩
   ·exact⟨⟨fun e he=>(nomatch he),fun e he=>(nomatch he)⟩,fun i j a b h=>by simp at h,fun i j a b h=>by simp at h,fun i j a b h=>by simp at h⟩
   ·exact h
  obtain⟨xs,hX,hEn⟩:=id hM
  have hxl:=hEn.len
  have hW5:=s5.at htp ((s2.trans s3) _ _ hw.w) (fun _ z=>by cases z)
  have hP5:=LsA.samT (hP.same s3) s5 htp
  have hH5:=LsA.samT hHd s5 htp
  refine zj (fun σ H'=>H'=H5/\σ=[some (.ref a),some (.int k),some (.str (tx l)),some (.ref W),some (.ref pa),some (.ref hd),some (.ref fp)]) ?_ ?_
  ·repeat (first | rfl' | simp only[yq,zw,zH,yy,yw,zv])
   exact J5 (.inl ⟨hH5.is,hP5.is⟩) (bY (Qv _) (by decide)) ⟨_,rfl,xa (fun e=>by rw[vx] at e;cases e) fun _=>⟨fp,D,w,es,rfl,hfp,hM.l,true,rfl,xa (fun e=>by cases e) fun _=>⟨_,SqT.of hfp,_,rfl,_,.inl ⟨_,SqL.of hX,rfl⟩,xa (fun h=>absurd h (by lia)) fun _=>rfl⟩⟩⟩
  rintro σ H6 ⟨rfl,rfl⟩
  refine zj (fun σ H'=>Same H6 H'/\σ=[some (.ref a),some (.int k),some (.str (tx l)),some (.ref W),some (.ref pa),some (.ref hd),some (.ref fp)]) ?_ ?_
  ·repeat (first | rfl' | simp only[yq,zw,zH,yy,yw,zv])
   refine⟨_,SqT.of hfp,_,rfl,D,rfl,⟨_,SqL.of hX⟩,fun J hJ=>CompL.by (xs:=xs) (fun i acc H'=>Same H6 H'/\H' J=some (.lst acc)/\acc=(aO i false).map V.bl) ⟨zf hJ,ze,rfl⟩ (fun i acc H' _ h=>SqL.of (h.1 _ _ hX)) ?_ ?_⟩
   ·rintro i x acc H' hx ⟨hs,hH,rfl⟩
    have hi:=(List.getElem?_eq_some_iff.mp hx).1
    obtain⟨e,pe,se,hei,rfl,hqe,hse⟩:=hEn.get hx
    have hb:=hsd e (ac hei)
    have hq2:=zk hs hqe
    simp only[wu]
    rfl'
    refine⟨xj,_,hq2,_,rfl,_,⟨by rw[zQ];lia,rfl⟩,xa (fun h=>absurd h (by rw[zQ];lia)) fun _=>⟨_,hq2,_,rfl,_,⟨by rw[zQ];lia,rfl⟩,hH,by rw[ag,bi];lia,CNx.mk hi ⟨zK hs hJ,ze,?_⟩⟩⟩
    rw[decide_eq_false (by rw[zQ];lia),dv,aD]
    rfl
   ·rintro acc H' ⟨hs,hH,rfl⟩
    refine⟨J,aO xs.length false,rfl,SqL.of hH,_,rfl,xa (fun h=>?_) fun _=>hs⟩
    have e:(aO xs.length false).any id=false:=by
     rw[List.any_eq_false]
     intro x hx
     rw[(List.mem_replicate.mp hx).2]
     decide
    rw[e] at h
    cases h
  rintro σ H7 ⟨s7,rfl⟩
  refine zj (fun σ H'=>Same H6 H'/\σ=[some (.ref a),some (.int k),some (.str (tx l)),some (.ref W),some (.ref pa),some (.ref hd),some (.ref fp)]) ?_ ?_
  ·repeat (first | rfl' | simp only[yq,zw,zH,yy,yw,zv])
   refine⟨_,SqT.of (s7 _ _ hfp),_,rfl,D,W,k,l,ws,es,rfl,hw.k0,hw.k3,hw.g,s7 _ _ hW5,hw.n,hw.b,(hM.same s7).l,hThin,fun H' s'=>⟨true,rfl,xa (fun e=>by cases e) fun _=>s7.trans s'⟩⟩
  rintro σ H8 ⟨s8,rfl⟩
  obtain⟨xs2,hX2,hI2⟩:=hM.same s8
  have hxl2:=hI2.len
  have hP8:=hP5.same s8
  rfl'
  refine⟨_,SqT.of (s8 _ _ hfp),_,rfl,D,rfl,⟨_,SqL.of hX2⟩,fun J hJ=>CompL.by (xs:=xs2) (fun i acc H'=>Same H8 H'/\H' J=some (.lst acc)/\acc=(aO i true).map V.bl) ⟨zf hJ,ze,rfl⟩ (fun i acc H' _ h=>SqL.of (h.1 _ _ hX2)) ?_ ?_⟩
  ·rintro i x acc H' hx ⟨hs,hH,rfl⟩
   have hi:=(List.getElem?_eq_some_iff.mp hx).1
   obtain⟨e,pe,se,hei,rfl,hqe,hse⟩:=hI2.get hx
   have hEe:=(hsd e (ac hei)).1
   have hok:=hAll e (ac hei)
   have hq2:=zk hs hqe
   simp only[wu]
   rfl'
   refine⟨xj,_,hq2,_,rfl,_,hq2,_,rfl,JO (hP8.same hs).is hPG.ok (by have:=hEe.a;lia) (hse.same hs).is (by have:=hEe.s;lia) hok ⟨_,hq2,_,rfl,rfl,hH,by rw[ag,bi];lia,CNx.mk hi ⟨zK hs hJ,ze,?_⟩⟩⟩
   rw[dv,aD]
   simp
  ·rintro acc H' ⟨hs,hH,rfl⟩
   refine⟨J,aO xs2.length true,rfl,SqL.of hH,?_⟩
   have e:(aO xs2.length true).all id=true:=by simp
   rw[e]
   exact q _
end
theorem kM{us:List Value}(h:us.length=1):∃ a,us=[a]:=List.length_eq_one_iff.mp h
theorem uh{us:List Value}(h:us.length=2):∃ a0 a1,us=[a0,a1]:=by
 cases us with
 | nil=>cases h
 | cons a r =>
  obtain⟨a1,rfl⟩:=kM (Nat.succ.inj h)
  exact⟨a,a1,rfl⟩
theorem YV{us:List Value}(h:us.length=3):∃ a0 a1 a2,us=[a0,a1,a2]:=by
 cases us with
 | nil=>cases h
 | cons a r =>
  obtain⟨a1,a2,rfl⟩:=uh (Nat.succ.inj h)
  exact⟨a,a1,a2,rfl⟩
theorem Q2{us:List Value}(h:us.length=4):∃ a0 a1 a2 a3,us=[a0,a1,a2,a3]:=by
 cases us with
 | nil=>cases h
 | cons a r =>
  obtain⟨a1,a2,a3,rfl⟩:=YV (Nat.succ.inj h)
  exact⟨a,a1,a2,a3,rfl⟩
theorem zci{us:List Value}(h:us.length=5):∃ a0 a1 a2 a3 a4,us=[a0,a1,a2,a3,a4]:=by
 cases us with
 | nil=>cases h
 | cons a r =>
  obtain⟨a1,a2,a3,a4,rfl⟩:=Q2 (Nat.succ.inj h)
  exact⟨a,a1,a2,a3,a4,rfl⟩
theorem zcD{us:List Value}(h:us.length=6):∃ a0 a1 a2 a3 a4 a5,us=[a0,a1,a2,a3,a4,a5]:=by
 cases us with
 | nil=>cases h
 | cons a r =>
  obtain⟨a1,a2,a3,a4,a5,rfl⟩:=zci (Nat.succ.inj h)
  exact⟨a,a1,a2,a3,a4,a5,rfl⟩
theorem zcK{us:List Value}(h:us.length=7):∃ a0 a1 a2 a3 a4 a5 a6,us=[a0,a1,a2,a3,a4,a5,a6]:=by
 cases us with
 | nil=>cases h
 | cons a r =>
  obtain⟨a1,a2,a3,a4,a5,a6,rfl⟩:=zcD (Nat.succ.inj h)
  exact⟨a,a1,a2,a3,a4,a5,a6,rfl⟩
theorem all_mk{l:PySem.W.OpenLaw}{w:World}{K:ot}{h:Heap}{mg:Str->Option Value}{fa f0 f1 f2 f3 f4 f5 f6 f7 f8 f9 f10 f11 f12 f13 f14 f15 f16 f17 f18 f19 f20 f21 f22 f23 f24 f25 f26 f27 f28 f29 f30 f31 f32 f33 f34 f35 f36 f37 f38 f39 f40 f41 f42 f43 f44 f45 mZ fz fF ft fq fo fv fw fG fu:Addr}{cc TB:Addr}(X:K.In h)(G:h.Ns om mg)(hfa:mg "law" = some (.ref fa))(hlam:∃ a o fd,mg "in_order" = some (.ref a)/\h.get? a=some o/\o.data=.func fd/\fd.code=.ref cc)(hgT:om≠TB)
{od0 an0 od1 an1 od2 an2 od3 an3 od4 an4 od5 an5 od6 an6 od7 an7 od8 an8 od9 an9 od10 an10 od11 an11 od12 an12 od13 an13 od14 an14 od15 an15 od16 an16 od17 an17 od18 an18 od19 an19 od20 an20 od21 an21 od22 an22 od23 an23 od24 an24 od25 an25 od26 an26 od27 an27 od28 an28 od29 an29 od30 an30 od31 an31 od32 an32 od33 an33 od34 an34 od35 an35 od36 an36 od37 an37 od38 an38 od39 an39 od40 an40 od41 an41 od42 an42 od43 an43 od44 an44 od45 an45:Option Addr}{sl0 sl1 sl2 sl3 sl4 sl5 sl6 sl7 sl8 sl9 sl10 sl11 sl12 sl13 sl14 sl15 yf sl17 sl18 sl19 sl20 sl21 sl22 sl23 sl24 sl25 sl26 sl27 sl28 sl29 sl30 sl31 sl32 sl33 sl34 sl35 sl36 sl37 sl38 sl39 sl40 sl41 sl42 sl43 sl44 sl45:Array (Option Value)}{oc0 kV0 dc0 pm0 cd0 ct0 oc1 kV1 dc1 pm1 cd1 ct1 oc2 kV2 dc2 pm2 cd2 ct2 oc3 kV3 dc3 pm3 cd3 ct3 oc4 kV4 dc4 pm4 cd4 ct4 oc5 kV5 dc5 pm5 cd5 ct5 oc6 kV6 dc6 pm6 cd6 ct6 oc7 kV7 dc7 pm7 cd7 ct7 oc8 kV8 dc8 pm8 cd8 ct8 oc9 kV9 dc9 pm9 cd9 ct9 oc10 kV10 dc10 pm10 cd10 ct10 oc11 kV11 dc11 pm11 cd11 ct11 oc12 kV12 dc12 pm12 cd12 ct12 oc13 kV13 dc13 pm13 cd13 ct13 oc14 kV14 dc14 pm14 cd14 ct14 oc15 kV15 dc15 pm15 cd15 ct15 oc16 kV16 dc16 pm16 cd16 ct16 oc17 kV17 dc17 pm17 cd17 ct17 oc18 kV18 dc18 pm18 cd18 ct18 oc19 kV19 dc19 pm19 cd19 ct19 oc20 kV20 dc20 pm20 cd20 ct20 oc21 kV21 dc21 pm21 cd21 ct21 oc22 kV22 dc22 pm22 cd22 ct22 oc23 kV23 dc23 pm23 cd23 ct23 oc24 kV24 dc24 pm24 cd24 ct24 oc25 kV25 dc25 pm25 cd25 ct25 oc26 kV26 dc26 pm26 cd26 ct26 oc27 kV27 dc27 pm27 cd27 ct27 oc28 kV28 dc28 pm28 cd28 ct28 oc29 kV29 dc29 pm29 cd29 ct29 oc30 kV30 dc30 pm30 cd30 ct30 oc31 kV31 dc31 pm31 cd31 ct31 oc32 kV32 dc32 pm32 cd32 ct32 oc33 kV33 dc33 pm33 cd33 ct33 oc34 kV34 dc34 pm34 cd34 ct34 oc35 kV35 dc35 pm35 cd35 ct35 oc36 kV36 dc36 pm36 cd36 ct36 oc37 kV37 dc37 pm37 cd37 ct37 oc38 kV38 dc38 pm38 cd38 ct38 oc39 kV39 dc39 pm39 cd39 ct39 oc40 kV40 dc40 pm40 cd40 ct40 oc41 kV41 dc41 pm41 cd41 ct41 oc42 kV42 dc42 pm42 cd42 ct42 oc43 kV43 dc43 pm43 cd43 ct43 oc44 kV44 dc44 pm44 cd44 ct44 oc45 kV45 dc45 pm45 cd45 ct45:Value}
  {t6 t7:Tok}
  {fI:Addr}
  {odI anI:Option Addr}
  {slI:Array (Option Value)}
  {ocI kVI dcI pmI cdI ctI:Value}
  {t8:Tok}
  {fU:Addr}
  {odU anU:Option Addr}
  {slU:Array (Option Value)}
  {ocU kVU dcU pmU cdU ctU:Value}
  {tmu tms tmd tmp:Tok}
  {tcu tce tcd tcp:Tok}
  {fQ:Addr}
  {od_order_init an_order_init:Option Addr}
  {sl_order_init:Array (Option Value)}
  {oc_order_init kV_order_init dc_order_init pm_order_init cd_order_init ct_order_init:Value}
  {fX:Addr}
  {od_order_weight an_order_weight:Option Addr}
  {sl_order_weight:Array (Option Value)}
  {oc_order_weight kV_order_weight dc_order_weight pm_order_weight cd_order_weight ct_order_weight:Value}
  {gn:Addr}
  {od_order_seen an_order_seen:Option Addr}
  {sl_order_seen:Array (Option Value)}
  {oc_order_seen kV_order_seen dc_order_seen pm_order_seen cd_order_seen ct_order_seen:Value}
  {gc:Addr}
  {od_fromright_seen an_fromright_seen:Option Addr}
  {sl_fromright_seen:Array (Option Value)}
  {oc_fromright_seen kV_fromright_seen dc_fromright_seen pm_fromright_seen cd_fromright_seen ct_fromright_seen:Value}
  {gd:Addr}
  {od_byweights_init an_byweights_init:Option Addr}
  {sl_byweights_init:Array (Option Value)}
  {oc_byweights_init kV_byweights_init dc_byweights_init pm_byweights_init cd_byweights_init ct_byweights_init:Value}
  {fO:Addr}
  {od_byweights_weight an_byweights_weight:Option Addr}
  {sl_byweights_weight:Array (Option Value)}
  {oc_byweights_weight kV_byweights_weight dc_byweights_weight pm_byweights_weight cd_byweights_weight ct_byweights_weight:Value}
  {fR:Addr}
  {od_order_rank an_order_rank:Option Addr}
  {sl_order_rank:Array (Option Value)}
  {oc_order_rank kV_order_rank dc_order_rank pm_order_rank cd_order_rank ct_order_rank:Value}
  {fH:Addr}
  {od_order_before an_order_before:Option Addr}
  {sl_order_before:Array (Option Value)}
  {oc_order_before kV_order_before dc_order_before pm_order_before cd_order_before ct_order_before:Value}
  {gz:Addr}
  {od_system_init an_system_init:Option Addr}
  {sl_system_init:Array (Option Value)}
  {oc_system_init kV_system_init dc_system_init pm_system_init cd_system_init ct_system_init:Value}
  {fM:Addr}
  {od_system_rules_told an_system_rules_told:Option Addr}
  {sl_system_rules_told:Array (Option Value)}
  {oc_system_rules_told kV_system_rules_told dc_system_rules_told pm_system_rules_told cd_system_rules_told ct_system_rules_told:Value}
  {mj:Addr}
  {iT:Tok}
  {d1_gone:Value}
  {d2_gone:Option Addr}
  {d3_gone:Nat}
  {d4_gone:Array (Option Value)}
  {lD:Addr}
  {lC:Tok}
  {d1_unmet:Value}
  {d2_unmet:Option Addr}
  {d3_unmet:Nat}
  {d4_unmet:Array (Option Value)}
  (a0:aj K om "is_small_letter" = some (some (.ref f0))) (l0:K.lookup f0=some ⟨oc0,od0,.func (ar "is_small_letter" "is_small_letter" (zo zX) (zl zX) (zb zX) .none kV0 dc0 pm0 an0 cd0 ct0),sl0⟩) (k0:ao K cd0 "is_small_letter" = true) (p0:ah K (.ref f0)=true)
  (a1:aj K om "letters_of" = some (some (.ref f1))) (l1:K.lookup f1=some ⟨oc1,od1,.func (ar "letters_of" "letters_of" (zo yJ) (zl yJ) (zb yJ) .none kV1 dc1 pm1 an1 cd1 ct1),sl1⟩) (k1:ao K cd1 "letters_of" = true) (p1:ah K (.ref f1)=true)
  (a2:aj K om "stands_at" = some (some (.ref f2))) (l2:K.lookup f2=some ⟨oc2,od2,.func (ar "stands_at" "stands_at" (zo yY) (zl yY) (zb yY) .none kV2 dc2 pm2 an2 cd2 ct2),sl2⟩) (k2:ao K cd2 "stands_at" = true) (p2:ah K (.ref f2)=true)
  (a3:aj K om "put" = some (some (.ref f3))) (l3:K.lookup f3=some ⟨oc3,od3,.func (ar "put" "put" (zo Xq) (zl Xq) (zb Xq) .none kV3 dc3 pm3 an3 cd3 ct3),sl3⟩) (k3:ao K cd3 "put" = true) (p3:ah K (.ref f3)=true)
  (a4:aj K om "first_within" = some (some (.ref f4))) (l4:K.lookup f4=some ⟨oc4,od4,.func (ar "first_within" "first_within" (zo yk) (zl yk) (zb yk) .none kV4 dc4 pm4 an4 cd4 ct4),sl4⟩) (k4:ao K cd4 "first_within" = true) (p4:ah K (.ref f4)=true)
  (a5:aj K om "first_from" = some (some (.ref f5))) (l5:K.lookup f5=some ⟨oc5,od5,.func (ar "first_from" "first_from" (zo yN) (zl yN) (zb yN) .none kV5 dc5 pm5 an5 cd5 ct5),sl5⟩) (k5:ao K cd5 "first_from" = true) (p5:ah K (.ref f5)=true)
  (a6:aj K om "gone" = some (some (.ref f6))) (l6:K.lookup f6=some ⟨oc6,od6,.func (ar "gone" "gone" (zo w6) (zl w6) (zb w6) (.ref mj) kV6 dc6 pm6 an6 cd6 ct6),sl6⟩) (k6:ao K cd6 "gone" = true) (p6:ah K (.ref f6)=true)
  (a7:aj K om "back" = some (some (.ref f7))) (l7:K.lookup f7=some ⟨oc7,od7,.func (ar "back" "back" (zo qg) (zl qg) (zb qg) .none kV7 dc7 pm7 an7 cd7 ct7),sl7⟩) (k7:ao K cd7 "back" = true) (p7:ah K (.ref f7)=true)
  (a8:aj K om "moved" = some (some (.ref f8))) (l8:K.lookup f8=some ⟨oc8,od8,.func (ar "moved" "moved" (zo vg) (zl vg) (zb vg) .none kV8 dc8 pm8 an8 cd8 ct8),sl8⟩) (k8:ao K cd8 "moved" = true) (p8:ah K (.ref f8)=true)
  (a9:aj K om "by_pacts" = some (some (.ref f9))) (l9:K.lookup f9=some ⟨oc9,od9,.func (ar "by_pacts" "by_pacts" (zo xo) (zl xo) (zb xo) .none kV9 dc9 pm9 an9 cd9 ct9),sl9⟩) (k9:ao K cd9 "by_pacts" = true) (p9:ah K (.ref f9)=true)
  (a10:aj K om "pairs_of" = some (some (.ref f10))) (l10:K.lookup f10=some ⟨oc10,od10,.func (ar "pairs_of" "pairs_of" (zo yW) (zl yW) (zb yW) .none kV10 dc10 pm10 an10 cd10 ct10),sl10⟩) (k10:ao K cd10 "pairs_of" = true) (p10:ah K (.ref f10)=true)
  (a11:aj K om "as_rule" = some (some (.ref f11))) (l11:K.lookup f11=some ⟨oc11,od11,.func (ar "as_rule" "as_rule" (zo xT) (zl xT) (zb xT) .none kV11 dc11 pm11 an11 cd11 ct11),sl11⟩) (k11:ao K cd11 "as_rule" = true) (p11:ah K (.ref f11)=true)
  (a12:aj K om "in_order" = some (some (.ref f12))) (l12:K.lookup f12=some ⟨oc12,od12,.func (ar "in_order" "in_order" (zo yP) (zl yP) (zb yP) .none kV12 dc12 pm12 an12 cd12 ct12),sl12⟩) (k12:ao K cd12 "in_order" = true) (p12:ah K (.ref f12)=true)
  (a13:aj K om "brought_down" = some (some (.ref f13))) (l13:K.lookup f13=some ⟨oc13,od13,.func (ar "brought_down" "brought_down" (zo ym) (zl ym) (zb ym) .none kV13 dc13 pm13 an13 cd13 ct13),sl13⟩) (k13:ao K cd13 "brought_down" = true) (p13:ah K (.ref f13)=true)
  (a14:aj K om "refuse_beyond" = some (some (.ref f14))) (l14:K.lookup f14=some ⟨oc14,od14,.func (ar "refuse_beyond" "refuse_beyond" (zo yc) (zl yc) (zb yc) .none kV14 dc14 pm14 an14 cd14 ct14),sl14⟩) (k14:ao K cd14 "refuse_beyond" = true) (p14:ah K (.ref f14)=true)
  (a15:aj K om "built_anew" = some (some (.ref f15))) (l15:K.lookup f15=some ⟨oc15,od15,.func (ar "built_anew" "built_anew" (zo yL) (zl yL) (zb yL) .none kV15 dc15 pm15 an15 cd15 ct15),sl15⟩) (k15:ao K cd15 "built_anew" = true) (p15:ah K (.ref f15)=true)
  (a16:aj K om "thinned" = some (some (.ref f16))) (l16:K.lookup f16=some ⟨oc16,od16,.func (ar "thinned" "thinned" (zo xS) (zl xS) (zb xS) .none kV16 dc16 pm16 an16 cd16 ct16),yf⟩) (k16:ao K cd16 "thinned" = true) (p16:ah K (.ref f16)=true)
  (a17:aj K om "_law_cell" = some (some (.ref f17))) (l17:K.lookup f17=some ⟨oc17,od17,.func (ar "_law_cell" "_law_cell" (zo jr) (zl jr) (zb jr) .none kV17 dc17 pm17 an17 cd17 ct17),sl17⟩) (k17:ao K cd17 "_law_cell" = true) (p17:ah K (.ref f17)=true)
  (a18:aj K om "_law_mixed" = some (some (.ref f18))) (l18:K.lookup f18=some ⟨oc18,od18,.func (ar "_law_mixed" "_law_mixed" (zo vN) (zl vN) (zb vN) .none kV18 dc18 pm18 an18 cd18 ct18),sl18⟩) (k18:ao K cd18 "_law_mixed" = true) (p18:ah K (.ref f18)=true)
  (a19:aj K om "_law_letters" = some (some (.ref f19))) (l19:K.lookup f19=some ⟨oc19,od19,.func (ar "_law_letters" "_law_letters" (zo xQ) (zl xQ) (zb xQ) .none kV19 dc19 pm19 an19 cd19 ct19),sl19⟩) (k19:ao K cd19 "_law_letters" = true) (p19:ah K (.ref f19)=true)
  (a20:aj K om "_law_word" = some (some (.ref f20))) (l20:K.lookup f20=some ⟨oc20,od20,.func (ar "_law_word" "_law_word" (zo jm) (zl jm) (zb jm) .none kV20 dc20 pm20 an20 cd20 ct20),sl20⟩) (k20:ao K cd20 "_law_word" = true) (p20:ah K (.ref f20)=true)
  (a21:aj K om "_law_pair" = some (some (.ref f21))) (l21:K.lookup f21=some ⟨oc21,od21,.func (ar "_law_pair" "_law_pair" (zo jo) (zl jo) (zb jo) .none kV21 dc21 pm21 an21 cd21 ct21),sl21⟩) (k21:ao K cd21 "_law_pair" = true) (p21:ah K (.ref f21)=true)
  (a22:aj K om "_law_whole" = some (some (.ref f22))) (l22:K.lookup f22=some ⟨oc22,od22,.func (ar "_law_whole" "_law_whole" (zo vI) (zl vI) (zb vI) .none kV22 dc22 pm22 an22 cd22 ct22),sl22⟩) (k22:ao K cd22 "_law_whole" = true) (p22:ah K (.ref f22)=true)
  (a23:aj K om "_law_steps" = some (some (.ref f23))) (l23:K.lookup f23=some ⟨oc23,od23,.func (ar "_law_steps" "_law_steps" (zo vT) (zl vT) (zb vT) .none kV23 dc23 pm23 an23 cd23 ct23),sl23⟩) (k23:ao K cd23 "_law_steps" = true) (p23:ah K (.ref f23)=true)
  (a24:aj K om "_law_used" = some (some (.ref f24))) (l24:K.lookup f24=some ⟨oc24,od24,.func (ar "_law_used" "_law_used" (zo jk) (zl jk) (zb jk) .none kV24 dc24 pm24 an24 cd24 ct24),sl24⟩) (k24:ao K cd24 "_law_used" = true) (p24:ah K (.ref f24)=true)
  (a25:aj K om "_law_end" = some (some (.ref f25))) (l25:K.lookup f25=some ⟨oc25,od25,.func (ar "_law_end" "_law_end" (zo XB) (zl XB) (zb XB) .none kV25 dc25 pm25 an25 cd25 ct25),sl25⟩) (k25:ao K cd25 "_law_end" = true) (p25:ah K (.ref f25)=true)
  (a26:aj K om "_law_order" = some (some (.ref f26))) (l26:K.lookup f26=some ⟨oc26,od26,.func (ar "_law_order" "_law_order" (zo vK) (zl vK) (zb vK) .none kV26 dc26 pm26 an26 cd26 ct26),sl26⟩) (k26:ao K cd26 "_law_order" = true) (p26:ah K (.ref f26)=true)
  (a27:aj K om "_law_draw" = some (some (.ref f27))) (l27:K.lookup f27=some ⟨oc27,od27,.func (ar "_law_draw" "_law_draw" (zo jn) (zl jn) (zb jn) .none kV27 dc27 pm27 an27 cd27 ct27),sl27⟩) (k27:ao K cd27 "_law_draw" = true) (p27:ah K (.ref f27)=true)
  (a28:aj K om "_law_entries" = some (some (.ref f28))) (l28:K.lookup f28=some ⟨oc28,od28,.func (ar "_law_entries" "_law_entries" (zo xY) (zl xY) (zb xY) .none kV28 dc28 pm28 an28 cd28 ct28),sl28⟩) (k28:ao K cd28 "_law_entries" = true) (p28:ah K (.ref f28)=true)
  (a29:aj K om "_law_rank" = some (some (.ref f29))) (l29:K.lookup f29=some ⟨oc29,od29,.func (ar "_law_rank" "_law_rank" (zo vC) (zl vC) (zb vC) .none kV29 dc29 pm29 an29 cd29 ct29),sl29⟩) (k29:ao K cd29 "_law_rank" = true) (p29:ah K (.ref f29)=true)
  (a30:aj K om "_law_thin" = some (some (.ref f30))) (l30:K.lookup f30=some ⟨oc30,od30,.func (ar "_law_thin" "_law_thin" (zo qr) (zl qr) (zb qr) .none kV30 dc30 pm30 an30 cd30 ct30),sl30⟩) (k30:ao K cd30 "_law_thin" = true) (p30:ah K (.ref f30)=true)
  (a31:aj K om "agree" = some (some (.ref f31))) (l31:K.lookup f31=some ⟨oc31,od31,.func (ar "agree" "agree" (zo vS) (zl vS) (zb vS) .none kV31 dc31 pm31 an31 cd31 ct31),sl31⟩) (k31:ao K cd31 "agree" = true) (p31:ah K (.ref f31)=true)
  (a32:aj K om "overlaps" = some (some (.ref f32))) (l32:K.lookup f32=some ⟨oc32,od32,.func (ar "overlaps" "overlaps" (zo xu) (zl xu) (zb xu) .none kV32 dc32 pm32 an32 cd32 ct32),sl32⟩) (k32:ao K cd32 "overlaps" = true) (p32:ah K (.ref f32)=true)
  (a33:aj K om "peak" = some (some (.ref f33))) (l33:K.lookup f33=some ⟨oc33,od33,.func (ar "peak" "peak" (zo je) (zl je) (zb je) .none kV33 dc33 pm33 an33 cd33 ct33),sl33⟩) (k33:ao K cd33 "peak" = true) (p33:ah K (.ref f33)=true)
  (a34:aj K om "form_of" = some (some (.ref f34))) (l34:K.lookup f34=some ⟨oc34,od34,.func (ar "form_of" "form_of" (zo xZ) (zl xZ) (zb xZ) .none kV34 dc34 pm34 an34 cd34 ct34),sl34⟩) (k34:ao K cd34 "form_of" = true) (p34:ah K (.ref f34)=true)
  (a35:aj K om "is_met" = some (some (.ref f35))) (l35:K.lookup f35=some ⟨oc35,od35,.func (ar "is_met" "is_met" (zo wN) (zl wN) (zb wN) .none kV35 dc35 pm35 an35 cd35 ct35),sl35⟩) (k35:ao K cd35 "is_met" = true) (p35:ah K (.ref f35)=true)
  (a36:aj K om "unmet" = some (some (.ref f36))) (l36:K.lookup f36=some ⟨oc36,od36,.func (ar "unmet" "unmet" (zo xI) (zl xI) (zb xI) (.ref lD) kV36 dc36 pm36 an36 cd36 ct36),sl36⟩) (k36:ao K cd36 "unmet" = true) (p36:ah K (.ref f36)=true)
  (a37:aj K om "system_by" = some (some (.ref f37))) (l37:K.lookup f37=some ⟨oc37,od37,.func (ar "system_by" "system_by" (zo yX) (zl yX) (zb yX) .none kV37 dc37 pm37 an37 cd37 ct37),sl37⟩) (k37:ao K cd37 "system_by" = true) (p37:ah K (.ref f37)=true)
  (a38:aj K om "first_entries" = some (some (.ref f38))) (l38:K.lookup f38=some ⟨oc38,od38,.func (ar "first_entries" "first_entries" (zo zY) (zl zY) (zb zY) .none kV38 dc38 pm38 an38 cd38 ct38),sl38⟩) (k38:ao K cd38 "first_entries" = true) (p38:ah K (.ref f38)=true)
  (a39:aj K om "is_beyond" = some (some (.ref f39))) (l39:K.lookup f39=some ⟨oc39,od39,.func (ar "is_beyond" "is_beyond" (zo yH) (zl yH) (zb yH) .none kV39 dc39 pm39 an39 cd39 ct39),sl39⟩) (k39:ao K cd39 "is_beyond" = true) (p39:ah K (.ref f39)=true)
  (a40:aj K om "thinned_within" = some (some (.ref f40))) (l40:K.lookup f40=some ⟨oc40,od40,.func (ar "thinned_within" "thinned_within" (zo z8) (zl z8) (zb z8) .none kV40 dc40 pm40 an40 cd40 ct40),sl40⟩) (k40:ao K cd40 "thinned_within" = true) (p40:ah K (.ref f40)=true)
  (a41:aj K om "unmet_within" = some (some (.ref f41))) (l41:K.lookup f41=some ⟨oc41,od41,.func (ar "unmet_within" "unmet_within" (zo yh) (zl yh) (zb yh) .none kV41 dc41 pm41 an41 cd41 ct41),sl41⟩) (k41:ao K cd41 "unmet_within" = true) (p41:ah K (.ref f41)=true)
  (a42:aj K om "entry_of" = some (some (.ref f42))) (l42:K.lookup f42=some ⟨oc42,od42,.func (ar "entry_of" "entry_of" (zo xt) (zl xt) (zb xt) .none kV42 dc42 pm42 an42 cd42 ct42),sl42⟩) (k42:ao K cd42 "entry_of" = true) (p42:ah K (.ref f42)=true)
  (a43:aj K om "completed" = some (some (.ref f43))) (l43:K.lookup f43=some ⟨oc43,od43,.func (ar "completed" "completed" (zo yG) (zl yG) (zb yG) .none kV43 dc43 pm43 an43 cd43 ct43),sl43⟩) (k43:ao K cd43 "completed" = true) (p43:ah K (.ref f43)=true)
  (a44:aj K om "_law_told" = some (some (.ref f44))) (l44:K.lookup f44=some ⟨oc44,od44,.func (ar "_law_told" "_law_told" (zo jw) (zl jw) (zb jw) .none kV44 dc44 pm44 an44 cd44 ct44),sl44⟩) (k44:ao K cd44 "_law_told" = true) (p44:ah K (.ref f44)=true)
  (a45:aj K om "law" = some (some (.ref f45))) (l45:K.lookup f45=some ⟨oc45,od45,.func (ar "law" "law" (zo uu) (zl uu) (zb uu) .none kV45 dc45 pm45 an45 cd45 ct45),sl45⟩) (k45:ao K cd45 "law" = true) (p45:ah K (.ref f45)=true)
  (g_LetterError:aj K om "LetterError" = some (some (.ref mZ)))
  (g_NoLetters:aj K om "NoLetters" = some (some (.ref fz)))
  (g_NoOrder:aj K om "NoOrder" = some (some (.ref fF)))
  (g_Order:aj K om "Order" = some (some (.ref ft)))
  (g_FromRight:aj K om "FromRight" = some (some (.ref fq)))
  (g_ByWeights:aj K om "ByWeights" = some (some (.ref fo)))
  (g_NotTurned:aj K om "NotTurned" = some (some (.ref fv)))
  (g_System:aj K om "System" = some (some (.ref fw)))
  (g_NoUse:aj K om "NoUse" = some (some (.ref fG)))
  (g_TooFar:aj K om "TooFar" = some (some (.ref fu)))
  (kbb:aP K (.type "bool") (.type "bool")=some true)
  (kt:aP K (.type "tuple") (.type "tuple")=some true)
  (ki:aP K (.type "int") (.type "int")=some true)
  (kb:aP K (.type "int") (.type "bool")=some false)
  (kl:aP K (.type "list") (.type "list")=some true)
  (x7:cf K (.builtin "object.__class__") "__get__" = some (some (.builtin "getset_descriptor.__get__")))
  (x8:dm K (.builtin "object.__class__")=some true)
  (x1:ZG K fz=true)
  (x2:af K (.ref fz) "__setattr__" = some (some (.builtin "object.__setattr__")))
  (x3:af K (.ref fz) "__getattribute__" = some (some (.builtin "BaseException.__getattribute__")))
  (x4:af K (.ref fz) "__getattr__" = some none)
  (x5:ah K (.ref fz)=true)
  (x6:af K (.ref fz) "__class__" = some (some (.builtin "object.__class__")))
  (x9:bF K fz (.type "object")=some true)
  (xi:af K (.ref fz) "__init__" = some (some (.builtin "ValueError.__init__")))
  (y1:ZG K fF=true)
  (y2:af K (.ref fF) "__setattr__" = some (some (.builtin "object.__setattr__")))
  (y3:af K (.ref fF) "__getattribute__" = some (some (.builtin "BaseException.__getattribute__")))
  (y4:af K (.ref fF) "__getattr__" = some none)
  (y5:ah K (.ref fF)=true)
  (y6:af K (.ref fF) "__class__" = some (some (.builtin "object.__class__")))
  (y9:bF K fF (.type "object")=some true)
  (yi:af K (.ref fF) "__init__" = some (some (.builtin "ValueError.__init__")))
  (most:aj K om "MOST_LETTERS" = some (some (.int 6 t6)))
  (mostw:aj K om "MOST_WEIGHT" = some (some (.int 1000000 t7)))
  (mz:bL K ft eh=true)
  (mB:bH K ft=true)
  (mC:ce K ft=true)
  (mD:af K (.ref ft) "__setattr__" = some (some (.builtin "object.__setattr__")))
  (mE:cw K ft=true)
  (mF:ah K (.ref ft)=true)
  (mG:af K (.ref ft) "letters" = some none)
  (ny:aP K (.ref ft) (.ref ft)=some true)
  (nz:af K (.ref ft) "__class__" = some (some (.builtin "object.__class__")))
  (nA:bF K ft (.type "object")=some true)
  (iW:bL K fq eh=true)
  (iX:bH K fq=true)
  (iY:ce K fq=true)
  (iZ:af K (.ref fq) "__setattr__" = some (some (.builtin "object.__setattr__")))
  (la:cw K fq=true)
  (lb:ah K (.ref fq)=true)
  (lc:af K (.ref fq) "letters" = some none)
  (lQ:aP K (.ref fq) (.ref ft)=some true)
  (lS:af K (.ref fq) "__class__" = some (some (.builtin "object.__class__")))
  (lT:bF K fq (.type "object")=some true)
  (lg:bL K fo eh=true)
  (lh:bH K fo=true)
  (li:ce K fo=true)
  (lj:af K (.ref fo) "__setattr__" = some (some (.builtin "object.__setattr__")))
  (lm:cw K fo=true)
  (ln:ah K (.ref fo)=true)
  (lr:af K (.ref fo) "letters" = some none)
  (lV:aP K (.ref fo) (.ref ft)=some true)
  (lX:af K (.ref fo) "__class__" = some (some (.builtin "object.__class__")))
  (lY:bF K fo (.type "object")=some true)
  (nw_ByWeights:af K (.ref fo) "weights" = some none)
  (sgO:cf K (.ref ft) "__getattribute__" = some (some (.builtin "type.__getattribute__")))
  (rdO:fg K ft (.type "type")=true)
  (win:aj K om "WINDOW" = some (some (.int 128 t8)))
  (tt1:ZG K fv=true)
  (tt2:af K (.ref fv) "__setattr__" = some (some (.builtin "object.__setattr__")))
  (tt3:af K (.ref fv) "__getattribute__" = some (some (.builtin "BaseException.__getattribute__")))
  (tt4:af K (.ref fv) "__getattr__" = some none)
  (tt5:ah K (.ref fv)=true)
  (tt6:af K (.ref fv) "__class__" = some (some (.builtin "object.__class__")))
  (tt9:bF K fv (.type "object")=some true)
  (nn:af K (.ref fv) "number" = some none)
  (ini:af K (.ref fv) "__init__" = some (some (.ref fI)))
  (lI:K.lookup fI=some ⟨ocI,odI,.func (ar "__init__" "NotTurned.__init__" (zo z6) (zl z6) (zb z6) .none kVI dcI pmI anI cdI ctI),slI⟩)
  (kI:ao K cdI "NotTurned.__init__" = true)
  (pI:ah K (.ref fI)=true)
  (fnI:aY K (.ref fI)=true)
  (lZ:bL K fw eh=true)
  (md:bH K fw=true)
  (me:ce K fw=true)
  (mf:af K (.ref fw) "__setattr__" = some (some (.builtin "object.__setattr__")))
  (mh:cw K fw=true)
  (mi:ah K (.ref fw)=true)
  (no_System:af K (.ref fw) "order" = some none)
  (nr_System:af K (.ref fw) "rules" = some none)
  (u1:ZG K fG=true)
  (u2:af K (.ref fG) "__setattr__" = some (some (.builtin "object.__setattr__")))
  (u3:af K (.ref fG) "__getattribute__" = some (some (.builtin "BaseException.__getattribute__")))
  (u4:af K (.ref fG) "__getattr__" = some none)
  (u5:ah K (.ref fG)=true)
  (u6:af K (.ref fG) "__class__" = some (some (.builtin "object.__class__")))
  (u9:bF K fG (.type "object")=some true)
  (ua:af K (.ref fG) "at" = some none)
  (iniU:af K (.ref fG) "__init__" = some (some (.ref fU)))
  (lU:K.lookup fU=some ⟨ocU,odU,.func (ar "__init__" "NoUse.__init__" (zo yM) (zl yM) (zb yM) .none kVU dcU pmU anU cdU ctU),slU⟩)
  (kU:ao K cdU "NoUse.__init__" = true)
  (pU:ah K (.ref fU)=true)
  (fnU:aY K (.ref fU)=true)
  (v1:ZG K fu=true)
  (v2:af K (.ref fu) "__setattr__" = some (some (.builtin "object.__setattr__")))
  (v3:af K (.ref fu) "__getattribute__" = some (some (.builtin "BaseException.__getattribute__")))
  (v4:af K (.ref fu) "__getattr__" = some none)
  (v5:ah K (.ref fu)=true)
  (v6:af K (.ref fu) "__class__" = some (some (.builtin "object.__class__")))
  (v9:bF K fu (.type "object")=some true)
  (vi:af K (.ref fu) "__init__" = some (some (.builtin "ValueError.__init__")))
  (sFF:cu K (.ref fu) (.ref fu)=some true)
  (ks:aP K (.type "str") (.type "str")=some true)
  (nany:aj K om "any" = some none)
  (nsorted:aj K om "sorted" = some none)
  (mou:aj K om "MOST_USES_thinning" = some (some (.int 40 tmu)))
  (mos:aj K om "MOST_STEPS" = some (some (.int 240 tms)))
  (mod_:aj K om "MOST_SIDE_thinning" = some (some (.int 60 tmd)))
  (mop:aj K om "MOST_PASSES" = some (some (.int 20 tmp)))
  (mcu:aj K om "MOST_USES_completing" = some (some (.int 40 tcu)))
  (mce:aj K om "MOST_ENTRIES" = some (some (.int 12 tce)))
  (mcd:aj K om "MOST_SIDE_completing" = some (some (.int 10 tcd)))
  (mcp:aj K om "MOST_PEAKS" = some (some (.int 8 tcp)))
  (iB:af K (.ref ft) "__init__" = some (some (.ref fQ)))
  (iC:K.lookup fQ=some ⟨oc_order_init,od_order_init,.func (ar "__init__" "Order.__init__" (zo yQ) (zl yQ) (zb yQ) .none kV_order_init dc_order_init pm_order_init an_order_init cd_order_init ct_order_init),sl_order_init⟩)
  (iD:ao K cd_order_init "Order.__init__" = true)
  (gL:ah K (.ref fQ)=true)
  (gM:aY K (.ref fQ)=true)
  (gU:af K (.ref ft) "weight" = some (some (.ref fX)))
  (gX:K.lookup fX=some ⟨oc_order_weight,od_order_weight,.func (ar "weight" "Order.weight" (zo yl) (zl yl) (zb yl) .none kV_order_weight dc_order_weight pm_order_weight an_order_weight cd_order_weight ct_order_weight),sl_order_weight⟩)
  (gY:ao K cd_order_weight "Order.weight" = true)
  (fY:ah K (.ref fX)=true)
  (gx:aY K (.ref fX)=true)
  (iE:af K (.ref ft) "seen" = some (some (.ref gn)))
  (iF:K.lookup gn=some ⟨oc_order_seen,od_order_seen,.func (ar "seen" "Order.seen" (zo yO) (zl yO) (zb yO) .none kV_order_seen dc_order_seen pm_order_seen an_order_seen cd_order_seen ct_order_seen),sl_order_seen⟩)
  (iG:ao K cd_order_seen "Order.seen" = true)
  (gp:ah K (.ref gn)=true)
  (gN:aY K (.ref gn)=true)
  (gA:af K (.ref fq) "seen" = some (some (.ref gc)))
  (gB:K.lookup gc=some ⟨oc_fromright_seen,od_fromright_seen,.func (ar "seen" "FromRight.seen" (zo z9) (zl z9) (zb z9) .none kV_fromright_seen dc_fromright_seen pm_fromright_seen an_fromright_seen cd_fromright_seen ct_fromright_seen),sl_fromright_seen⟩)
  (gC:ao K cd_fromright_seen "FromRight.seen" = true)
  (ge:ah K (.ref gc)=true)
  (gD:aY K (.ref gc)=true)
  (gE:af K (.ref fo) "__init__" = some (some (.ref gd)))
  (gF:K.lookup gd=some ⟨oc_byweights_init,od_byweights_init,.func (ar "__init__" "ByWeights.__init__" (zo z7) (zl z7) (zb z7) .none kV_byweights_init dc_byweights_init pm_byweights_init an_byweights_init cd_byweights_init ct_byweights_init),sl_byweights_init⟩)
  (gG:ao K cd_byweights_init "ByWeights.__init__" = true)
  (gH:ah K (.ref gd)=true)
  (gJ:aY K (.ref gd)=true)
  (gr:af K (.ref fo) "weight" = some (some (.ref fO)))
  (gu:K.lookup fO=some ⟨oc_byweights_weight,od_byweights_weight,.func (ar "weight" "ByWeights.weight" (zo zL) (zl zL) (zb zL) .none kV_byweights_weight dc_byweights_weight pm_byweights_weight an_byweights_weight cd_byweights_weight ct_byweights_weight),sl_byweights_weight⟩)
  (gv:ao K cd_byweights_weight "ByWeights.weight" = true)
  (fP:ah K (.ref fO)=true)
  (gw:aY K (.ref fO)=true)
  (iH:af K (.ref ft) "rank" = some (some (.ref fR)))
  (iI:K.lookup fR=some ⟨oc_order_rank,od_order_rank,.func (ar "rank" "Order.rank" (zo yv) (zl yv) (zb yv) .none kV_order_rank dc_order_rank pm_order_rank an_order_rank cd_order_rank ct_order_rank),sl_order_rank⟩)
  (iJ:ao K cd_order_rank "Order.rank" = true)
  (fS:ah K (.ref fR)=true)
  (gq:aY K (.ref fR)=true)
  (gZ:af K (.ref ft) "before" = some (some (.ref fH)))
  (ic:K.lookup fH=some ⟨oc_order_before,od_order_before,.func (ar "before" "Order.before" (zo yj) (zl yj) (zb yj) .none kV_order_before dc_order_before pm_order_before an_order_before cd_order_before ct_order_before),sl_order_before⟩)
  (ie:ao K cd_order_before "Order.before" = true)
  (fJ:ah K (.ref fH)=true)
  (fZ:aY K (.ref fH)=true)
  (iq:af K (.ref fw) "__init__" = some (some (.ref gz)))
  (ir:K.lookup gz=some ⟨oc_system_init,od_system_init,.func (ar "__init__" "System.__init__" (zo yB) (zl yB) (zb yB) .none kV_system_init dc_system_init pm_system_init an_system_init cd_system_init ct_system_init),sl_system_init⟩)
  (iu:ao K cd_system_init "System.__init__" = true)
  (iw:ah K (.ref gz)=true)
  (iz:aY K (.ref gz)=true)
  (gf:af K (.ref fw) "rules_told" = some (some (.ref fM)))
  (gg:K.lookup fM=some ⟨oc_system_rules_told,od_system_rules_told,.func (ar "rules_told" "System.rules_told" (zo zP) (zl zP) (zb zP) .none kV_system_rules_told dc_system_rules_told pm_system_rules_told an_system_rules_told cd_system_rules_told ct_system_rules_told),sl_system_rules_told⟩)
  (gh:ao K cd_system_rules_told "System.rules_told" = true)
  (fN:ah K (.ref fM)=true)
  (gk:aY K (.ref fM)=true)
  (ml:K.lookup mj=some ⟨d1_gone,d2_gone,.seq #[.int 4000 iT] d3_gone,d4_gone⟩)
  (lE:K.lookup lD=some ⟨d1_unmet,d2_unmet,.seq #[.int 4000 lC] d3_unmet,d4_unmet⟩)
  (fcO:fh K (.ref ft) (.type "type") "__init__" = some (.val (.ref fQ)))
  (fiR_init:af K (.ref fq) "__init__" = some (some (.ref fQ)))
  (fiR_weight:af K (.ref fq) "weight" = some (some (.ref fX)))
  (fiW_seen:af K (.ref fo) "seen" = some (some (.ref gn)))
  (fiR_rank:af K (.ref fq) "rank" = some (some (.ref fR)))
  (fiW_rank:af K (.ref fo) "rank" = some (some (.ref fR)))
  (fiR_before:af K (.ref fq) "before" = some (some (.ref fH)))
  (fiW_before:af K (.ref fo) "before" = some (some (.ref fH)))
  (b0:aj K om "len" = some none)
  (b1:aj K om "range" = some none)
  (b2:aj K om "isinstance" = some none)
  (b3:aj K om "str" = some none)
  (b4:aj K om "int" = some none)
  (b5:aj K om "tuple" = some none)
  (b6:aj K om "list" = some none)
  (b7:aj K om "bool" = some none)
  (b8:aj K om "enumerate" = some none)
  (b9:aj K om "all" = some none)
  (b10:aj K om "ValueError" = some none)
  (b11:aj K om "max" = some none)
  (b12:aj K om "reversed" = some none)
  (b13:aj K om "zip" = some none)
  (b14:aj K om "sum" = some none)
  (b15:aj K om "sorted" = some none)
  : ∃ fd:FuncData,(∀(s:Shared) (v:Value),BindsTo s fd ⟨[v],[]⟩ [("_law_script",v)])/\∀ base:Heap,K.In base->base.Ns om mg->base.BuiltinsAt mg TB->PySem.W.CodeHd base cc TB->ye l.prog w K mg base CX0 11 fa fd ["_law_script"] (Yj K TB):=by
 have e:=hfa.symm.trans (am X G a45)
 cases e
 have B:Bt mg:=⟨aK X G b0,aK X G b1,aK X G b2,aK X G b3,aK X G b4,aK X G b5,aK X G b6,aK X G b7,aK X G b8,aK X G b9,aK X G b10,aK X G b11,aK X G b12,aK X G b13,aK X G b14,aK X G b15⟩
 have F0:=zD (st:=zX) l0 k0 p0
 have B0:=F0.binds (ps:=["sign"]) fun _ _ _ _ _ _ us hl=>by obtain⟨_,rfl⟩:=kM hl;rfl
 have M0:=am X G a0
 have F1:=zD (st:=yJ) l1 k1 p1
 have B1:=F1.binds (ps:=["text"]) fun _ _ _ _ _ _ us hl=>by obtain⟨_,rfl⟩:=kM hl;rfl
 have M1:=am X G a1
 have F2:=zD (st:=yY) l2 k2 p2
 have B2:=F2.binds (ps:=["word","place","part"]) fun _ _ _ _ _ _ us hl=>by obtain⟨_,_,_,rfl⟩:=YV hl;rfl
 have M2:=am X G a2
 have F3:=zD (st:=Xq) l3 k3 p3
 have B3:=F3.binds (ps:=["word","place","old","new"]) fun _ _ _ _ _ _ us hl=>by obtain⟨_,_,_,_,rfl⟩:=Q2 hl;rfl
 have M3:=am X G a3
 have F4:=zD (st:=yk) l4 k4 p4
 have B4:=F4.binds (ps:=["rules","word","start","end"]) fun _ _ _ _ _ _ us hl=>by obtain⟨_,_,_,_,rfl⟩:=Q2 hl;rfl
 have M4:=am X G a4
 have F5:=zD (st:=yN) l5 k5 p5
 have B5:=F5.binds (ps:=["rules","word","start"]) fun _ _ _ _ _ _ us hl=>by obtain⟨_,_,_,rfl⟩:=YV hl;rfl
 have M5:=am X G a5
 have F6:FunD K "gone" "gone" w6 (.ref mj) f6 (ar "gone" "gone" (zo w6) (zl w6) (zb w6) (.ref mj) kV6 dc6 pm6 an6 cd6 ct6):=⟨⟨_,_,_,_,_,_,_,_,_,rfl,l6,k6⟩⟩
 have M6:=am X G a6
 have F7:=zD (st:=qg) l7 k7 p7
 have B7:=F7.binds (ps:=["steps"]) fun _ _ _ _ _ _ us hl=>by obtain⟨_,rfl⟩:=kM hl;rfl
 have M7:=am X G a7
 have F8:=zD (st:=vg) l8 k8 p8
 have B8:=F8.binds (ps:=["steps","size"]) fun _ _ _ _ _ _ us hl=>by obtain⟨_,_,rfl⟩:=uh hl;rfl
 have M8:=am X G a8
 have F9:=zD (st:=xo) l9 k9 p9
 have B9:=F9.binds (ps:=["entries","steps"]) fun _ _ _ _ _ _ us hl=>by obtain⟨_,_,rfl⟩:=uh hl;rfl
 have M9:=am X G a9
 have F10:=zD (st:=yW) l10 k10 p10
 have B10:=F10.binds (ps:=["entries"]) fun _ _ _ _ _ _ us hl=>by obtain⟨_,rfl⟩:=kM hl;rfl
 have M10:=am X G a10
 have F11:=zD (st:=xT) l11 k11 p11
 have B11:=F11.binds (ps:=["order","entry"]) fun _ _ _ _ _ _ us hl=>by obtain⟨_,_,rfl⟩:=uh hl;rfl
 have M11:=am X G a11
 have F12:=zD (st:=yP) l12 k12 p12
 have B12:=F12.binds (ps:=["order","entries"]) fun _ _ _ _ _ _ us hl=>by obtain⟨_,_,rfl⟩:=uh hl;rfl
 have M12:=am X G a12
 have F13:=zD (st:=ym) l13 k13 p13
 have B13:=F13.binds (ps:=["entries","entry"]) fun _ _ _ _ _ _ us hl=>by obtain⟨_,_,rfl⟩:=uh hl;rfl
 have M13:=am X G a13
 have F14:=zD (st:=yc) l14 k14 p14
 have B14:=F14.binds (ps:=["entry"]) fun _ _ _ _ _ _ us hl=>by obtain⟨_,rfl⟩:=kM hl;rfl
 have M14:=am X G a14
 have F15:=zD (st:=yL) l15 k15 p15
 have B15:=F15.binds (ps:=["order","entries"]) fun _ _ _ _ _ _ us hl=>by obtain⟨_,_,rfl⟩:=uh hl;rfl
 have M15:=am X G a15
 have F16:=zD (st:=xS) l16 k16 p16
 have B16:=F16.binds (ps:=["order","entries"]) fun _ _ _ _ _ _ us hl=>by obtain⟨_,_,rfl⟩:=uh hl;rfl
 have M16:=am X G a16
 have F17:=zD (st:=jr) l17 k17 p17
 have B17:=F17.binds (ps:=["_law_script","_law_k"]) fun _ _ _ _ _ _ us hl=>by obtain⟨_,_,rfl⟩:=uh hl;rfl
 have M17:=am X G a17
 have F18:=zD (st:=vN) l18 k18 p18
 have B18:=F18.binds (ps:=["_law_cell_here","_law_turn"]) fun _ _ _ _ _ _ us hl=>by obtain⟨_,_,rfl⟩:=uh hl;rfl
 have M18:=am X G a18
 have F19:=zD (st:=xQ) l19 k19 p19
 have B19:=F19.binds (ps:=["_law_cell_here","_law_many"]) fun _ _ _ _ _ _ us hl=>by obtain⟨_,_,rfl⟩:=uh hl;rfl
 have M19:=am X G a19
 have F20:=zD (st:=jm) l20 k20 p20
 have B20:=F20.binds (ps:=["_law_number","_law_letters_here","_law_most"]) fun _ _ _ _ _ _ us hl=>by obtain⟨_,_,_,rfl⟩:=YV hl;rfl
 have M20:=am X G a20
 have F21:=zD (st:=jo) l21 k21 p21
 have B21:=F21.binds (ps:=["_law_cell_here","_law_letters_here","_law_most"]) fun _ _ _ _ _ _ us hl=>by obtain⟨_,_,_,rfl⟩:=YV hl;rfl
 have M21:=am X G a21
 have F22:=zD (st:=vI) l22 k22 p22
 have B22:=F22.binds (ps:=["_law_found"]) fun _ _ _ _ _ _ us hl=>by obtain⟨_,rfl⟩:=kM hl;rfl
 have M22:=am X G a22
 have F23:=zD (st:=vT) l23 k23 p23
 have B23:=F23.binds (ps:=["_law_found"]) fun _ _ _ _ _ _ us hl=>by obtain⟨_,rfl⟩:=kM hl;rfl
 have M23:=am X G a23
 have F24:=zD (st:=jk) l24 k24 p24
 have B24:=F24.binds (ps:=["_law_pacts","_law_word_here","_law_step"]) fun _ _ _ _ _ _ us hl=>by obtain⟨_,_,_,rfl⟩:=YV hl;rfl
 have M24:=am X G a24
 have F25:=zD (st:=XB) l25 k25 p25
 have B25:=F25.binds (ps:=["_law_pacts","_law_word_here","_law_steps_here"]) fun _ _ _ _ _ _ us hl=>by obtain⟨_,_,_,rfl⟩:=YV hl;rfl
 have M25:=am X G a25
 have F26:=zD (st:=vK) l26 k26 p26
 have B26:=F26.binds (ps:=["_law_kind","_law_letters_here","_law_weights"]) fun _ _ _ _ _ _ us hl=>by obtain⟨_,_,_,rfl⟩:=YV hl;rfl
 have M26:=am X G a26
 have F27:=zD (st:=jn) l27 k27 p27
 have B27:=F27.binds (ps:=["_law_cell_here"]) fun _ _ _ _ _ _ us hl=>by obtain⟨_,rfl⟩:=kM hl;rfl
 have M27:=am X G a27
 have F28:=zD (st:=xY) l28 k28 p28
 have B28:=F28.binds (ps:=["_law_found"]) fun _ _ _ _ _ _ us hl=>by obtain⟨_,rfl⟩:=kM hl;rfl
 have M28:=am X G a28
 have F29:=zD (st:=vC) l29 k29 p29
 have B29:=F29.binds (ps:=["_law_kind","_law_letters_here","_law_weights","_law_word_here"]) fun _ _ _ _ _ _ us hl=>by obtain⟨_,_,_,_,rfl⟩:=Q2 hl;rfl
 have M29:=am X G a29
 have F30:=zD (st:=qr) l30 k30 p30
 have B30:=F30.binds (ps:=["_law_found","_law_kind","_law_letters_here","_law_weights"]) fun _ _ _ _ _ _ us hl=>by obtain⟨_,_,_,_,rfl⟩:=Q2 hl;rfl
 have M30:=am X G a30
 have F31:=zD (st:=vS) l31 k31 p31
 have B31:=F31.binds (ps:=["one","other","place"]) fun _ _ _ _ _ _ us hl=>by obtain⟨_,_,_,rfl⟩:=YV hl;rfl
 have M31:=am X G a31
 have F32:=zD (st:=xu) l32 k32 p32
 have B32:=F32.binds (ps:=["rules"]) fun _ _ _ _ _ _ us hl=>by obtain⟨_,rfl⟩:=kM hl;rfl
 have M32:=am X G a32
 have F33:=zD (st:=je) l33 k33 p33
 have B33:=F33.binds (ps:=["rules","overlap"]) fun _ _ _ _ _ _ us hl=>by obtain⟨_,_,rfl⟩:=uh hl;rfl
 have M33:=am X G a33
 have F34:=zD (st:=xZ) l34 k34 p34
 have B34:=F34.binds (ps:=["rules","word","most","forms"]) fun _ _ _ _ _ _ us hl=>by obtain⟨_,_,_,_,rfl⟩:=Q2 hl;rfl
 have M34:=am X G a34
 have F35:=zD (st:=wN) l35 k35 p35
 have B35:=F35.binds (ps:=["rules","overlap","most","forms"]) fun _ _ _ _ _ _ us hl=>by obtain⟨_,_,_,_,rfl⟩:=Q2 hl;rfl
 have M35:=am X G a35
 have F36:FunD K "unmet" "unmet" xI (.ref lD) f36 (ar "unmet" "unmet" (zo xI) (zl xI) (zb xI) (.ref lD) kV36 dc36 pm36 an36 cd36 ct36):=⟨⟨_,_,_,_,_,_,_,_,_,rfl,l36,k36⟩⟩
 have M36:=am X G a36
 have F37:=zD (st:=yX) l37 k37 p37
 have B37:=F37.binds (ps:=["order","entries"]) fun _ _ _ _ _ _ us hl=>by obtain⟨_,_,rfl⟩:=uh hl;rfl
 have M37:=am X G a37
 have F38:=zD (st:=zY) l38 k38 p38
 have B38:=F38.binds (ps:=["pacts"]) fun _ _ _ _ _ _ us hl=>by obtain⟨_,rfl⟩:=kM hl;rfl
 have M38:=am X G a38
 have F39:=zD (st:=yH) l39 k39 p39
 have B39:=F39.binds (ps:=["entries"]) fun _ _ _ _ _ _ us hl=>by obtain⟨_,rfl⟩:=kM hl;rfl
 have M39:=am X G a39
 have F40:=zD (st:=z8) l40 k40 p40
 have B40:=F40.binds (ps:=["order","entries"]) fun _ _ _ _ _ _ us hl=>by obtain⟨_,_,rfl⟩:=uh hl;rfl
 have M40:=am X G a40
 have F41:=zD (st:=yh) l41 k41 p41
 have B41:=F41.binds (ps:=["order","entries"]) fun _ _ _ _ _ _ us hl=>by obtain⟨_,_,rfl⟩:=uh hl;rfl
 have M41:=am X G a41
 have F42:=zD (st:=xt) l42 k42 p42
 have B42:=F42.binds (ps:=["entries","overlap"]) fun _ _ _ _ _ _ us hl=>by obtain⟨_,_,rfl⟩:=uh hl;rfl
 have M42:=am X G a42
 have F43:=zD (st:=yG) l43 k43 p43
 have B43:=F43.binds (ps:=["order","pacts","rounds"]) fun _ _ _ _ _ _ us hl=>by obtain⟨_,_,_,rfl⟩:=YV hl;rfl
 have M43:=am X G a43
 have F44:=zD (st:=jw) l44 k44 p44
 have B44:=F44.binds (ps:=["_law_found"]) fun _ _ _ _ _ _ us hl=>by obtain⟨_,rfl⟩:=kM hl;rfl
 have M44:=am X G a44
 have F45:=zD (st:=uu) l45 k45 p45
 have B45:=F45.binds (ps:=["_law_script"]) fun _ _ _ _ _ _ us hl=>by obtain⟨_,rfl⟩:=kM hl;rfl
 have M45:=am X G a45
 have HCC:cd12=.ref cc:=by
  obtain⟨ai,oi,fdi,m1,m2,m3,m4⟩:=hlam
  have e1:=m1.symm.trans (am X G a12)
  cases e1
  have e2:=m2.symm.trans (X _ _ l12)
  cases e2
  cases m3
  exact m4
 refine⟨ar "law" "law" (zo uu) (zl uu) (zb uu) .none kV45 dc45 pm45 an45 cd45 ct45,fun s v=>.of_eq rfl,fun base _ _ HBT HCH=>?_⟩
 have XIl:XI K fz:=⟨⟨x1,x2,x3,x4,x5⟩,x6,x7,x8,x9⟩
 have XIo:XI K fF:=⟨⟨y1,y2,y3,y4,y5⟩,y6,x7,x8,y9⟩
 have TL:zbY K mg fz:=⟨XIl,xi,am X G g_NoLetters,t6,am X G most⟩
 have TN:zb5 K mg fF:=⟨XIo,yi,am X G g_NoOrder,t7,am X G mostw⟩
 have TO:TOrd K mg ft fq fo:=⟨⟨mz,mB,mC,mD⟩,⟨iW,iX,iY,iZ⟩,⟨lg,lh,li,lj⟩,am X G g_Order,am X G g_FromRight,am X G g_ByWeights,mG,lc,lr,nw_ByWeights⟩
 have XIt:XI K fv:=⟨⟨tt1,tt2,tt3,tt4,tt5⟩,tt6,x7,x8,tt9⟩
 have TNt:TNT K mg fv:=⟨XIt,am X G g_NotTurned,nn⟩
 have FI:=zD (st:=z6) lI kI pI
 have BI:=FI.binds (ps:=["self","number"]) fun _ _ _ _ _ _ us hl=>by obtain⟨_,_,rfl⟩:=uh hl;rfl
 have TD:DNT l.prog w K mg base fv:=⟨TNt,_,_,ini,fnI,vX TNt FI,BI⟩
 have TS:K2 K mg fw:=⟨⟨lZ,md,me,mf⟩,am X G g_System,no_System,nr_System⟩
 have TWi:zca mg:=⟨t8,am X G win⟩
 have XIu:XI K fG:=⟨⟨u1,u2,u3,u4,u5⟩,u6,x7,x8,u9⟩
 have TNu:TNU K mg fG:=⟨XIu,am X G g_NoUse,ua⟩
 have FU:=zD (st:=yM) lU kU pU
 have BU:=FU.binds (ps:=["self","at"]) fun _ _ _ _ _ _ us hl=>by obtain⟨_,_,rfl⟩:=uh hl;rfl
 have TUd:DNU l.prog w K mg base fG:=⟨TNu,_,_,iniU,fnU,jY TNu FU,BU⟩
 have XIf:XI K fu:=⟨⟨v1,v2,v3,v4,v5⟩,v6,x7,x8,v9⟩
 have TF:Kd K mg fu:=⟨XIf,vi,am X G g_TooFar⟩
 have TMk:TMo mg:=⟨⟨tmu,am X G mou⟩,⟨tms,am X G mos⟩,⟨tmd,am X G mod_⟩,⟨tmp,am X G mop⟩⟩
 have TMcc:TMc mg:=⟨⟨tcu,am X G mcu⟩,⟨tce,am X G mce⟩,⟨tcd,am X G mcd⟩,⟨tcp,am X G mcp⟩⟩
 have D0:Df l.prog w K mg base CX0 1 "is_small_letter" ["sign"] [] uW:=⟨_,_,UH F0,M0,p0,B0⟩
 have D1:Df l.prog w K mg base (CXx l.prog w) 2 "letters_of" ["text"] [] (wj fz):=⟨_,_,kA B TL F1 D0,M1,p1,B1⟩
 have D2:Df l.prog w K mg base CX0 1 "stands_at" ["word","place","part"] [] xF:=⟨_,_,Za B F2,M2,p2,B2⟩
 have D3:Df l.prog w K mg base (CXx l.prog w) 3 "put" ["word","place","old","new"] [] (Zf fG):=⟨_,_,Km B TUd F3 D2,M3,p3,B3⟩
 have gP:=zD (st:=yQ) iC iD gL
 have iK:=gP.binds (ps:=["self","letters"]) fun _ _ _ _ _ _ us hl=>by obtain⟨_,_,rfl⟩:=uh hl;rfl
 have nc:DMk l.prog w K mg base CX0 3 ft ["self","letters"] (uF K):=⟨_,_,⟨mE,iB,gM,mF⟩,wn B gP D1,iK⟩
 have DI:DOI l.prog w K mg base ft:=⟨_,_,⟨sgO,rdO,fcO,gL⟩,wn B gP D1,iK⟩
 have ig:=zD (st:=yl) gX gY fY
 have lv:=ig.binds (ps:=["self","word"]) fun _ _ _ _ _ _ us hl=>by obtain⟨_,_,rfl⟩:=uh hl;rfl
 have mN:DM l.prog w K mg base CX0 1 ft "weight" ["self","word"] ke:=⟨_,_,⟨gU,gx,fY⟩,wG B ig,lv⟩
 have iL:=zD (st:=yO) iF iG gp
 have lJ:=iL.binds (ps:=["self","word"]) fun _ _ _ _ _ _ us hl=>by obtain⟨_,_,rfl⟩:=uh hl;rfl
 have ng:DM l.prog w K mg base CX0 1 ft "seen" ["self","word"] YD:=⟨_,_,⟨iE,gN,gp⟩,vv B iL,lJ⟩
 have iP:=zD (st:=z9) gB gC ge
 have mm:=iP.binds (ps:=["self","word"]) fun _ _ _ _ _ _ us hl=>by obtain⟨_,_,rfl⟩:=uh hl;rfl
 have mq:DM l.prog w K mg base CX0 1 fq "seen" ["self","word"] ZY:=⟨_,_,⟨gA,gD,ge⟩,vP B iP,mm⟩
 have iQ:=zD (st:=z7) gF gG gH
 have mr:=iQ.binds (ps:=["self","letters","weights"]) fun _ _ _ _ _ _ us hl=>by obtain⟨_,_,_,rfl⟩:=YV hl;rfl
 have mv:DMk l.prog w K mg base (CXx l.prog w) 4 fo ["self","letters","weights"] (jL K fo):=⟨_,_,⟨lm,gE,gJ,ln⟩,vO B TO TN DI iQ,mr⟩
 have il:=zD (st:=zL) gu gv fP
 have lK:=il.binds (ps:=["self","word"]) fun _ _ _ _ _ _ us hl=>by obtain⟨_,_,rfl⟩:=uh hl;rfl
 have lL:DM l.prog w K mg base CX0 1 fo "weight" ["self","word"] (Ye fo):=⟨_,_,⟨gr,gw,fP⟩,vd B TO il,lK⟩
 have TT:TWS l.prog w K mg base ft fq fo:=⟨TO,nc,⟨_,_,⟨la,fiR_init,gM,lb⟩,wn B gP D1,iK⟩,mv,mN,⟨_,_,⟨fiR_weight,gx,fY⟩,wG B ig,lv⟩,lL,ng,mq,⟨_,_,⟨fiW_seen,gN,gp⟩,vv B iL,lJ⟩⟩
 have gQ:=zD (st:=yv) iI iJ fS
 have iM:=gQ.binds (ps:=["self","word"]) fun _ _ _ _ _ _ us hl=>by obtain⟨_,_,rfl⟩:=uh hl;rfl
 have nh:DM l.prog w K mg base CX0 2 ft "rank" ["self","word"] (qw ft fq fo):=⟨_,_,⟨iH,gq,fS⟩,wc B TT gQ,iM⟩
 have DRk:DR l.prog w K mg base ft fq fo:=⟨fun C h=>by rcases h with e | e | e; (rw[e];exact⟨TO.cO,nh⟩); (rw[e];exact⟨TO.cR,⟨_,_,⟨fiR_rank,gq,fS⟩,wc B TT gQ,iM⟩⟩); (rw[e];exact⟨TO.cW,⟨_,_,⟨fiW_rank,gq,fS⟩,wc B TT gQ,iM⟩⟩)⟩
 have gy:=zD (st:=yj) ic ie fJ
 have ij:=gy.binds (ps:=["self","one","other"]) fun _ _ _ _ _ _ us hl=>by obtain⟨_,_,_,rfl⟩:=YV hl;rfl
 have mP:DM l.prog w K mg base CX0 3 ft "before" ["self","one","other"] (X3 ft fq fo):=⟨_,_,⟨gZ,fZ,fJ⟩,xw B DRk gy,ij⟩
 have DBk:DB l.prog w K mg base ft fq fo:=⟨fun C h=>by rcases h with e | e | e; (rw[e];exact⟨TO.cO,mP⟩); (rw[e];exact⟨TO.cR,⟨_,_,⟨fiR_before,fZ,fJ⟩,xw B DRk gy,ij⟩⟩); (rw[e];exact⟨TO.cW,⟨_,_,⟨fiW_before,fZ,fJ⟩,xw B DRk gy,ij⟩⟩)⟩
 have D4:Df l.prog w K mg base CX0 1 "first_within" ["rules","word","start","end"] [] (wS K):=⟨_,_,ql B F4,M4,p4,B4⟩
 have D5:Df l.prog w K mg base CX0 2 "first_from" ["rules","word","start"] [] (uE K):=⟨_,_,jI B TWi F5 D4,M5,p5,B5⟩
 have O6:=JD (P:=l.prog) (w:=w) (base:=base) B TF TUd F6 D5 D3
 have D6:Df l.prog w K mg base (CXx l.prog w) 4 "gone" ["rules","word","most"] [] (wL K fu):=⟨_,_,O6,M6,p6,fun s us hK hl=>by obtain⟨_,_,_,rfl⟩:=YV (us:=us) (by simpa using hl);exact BindsTo.of_defaults rfl (hK _ _ ml) rfl rfl rfl⟩
 have D6d:Df l.prog w K mg base (CXx l.prog w) 4 "gone" ["rules","word","most"] [.int 4000 iT] (wL K fu):=⟨_,_,O6,M6,p6,fun s us hK hl=>by obtain⟨_,_,rfl⟩:=uh (us:=us) (by simpa using hl);exact BindsTo.of_defaults rfl (hK _ _ ml) rfl rfl rfl⟩
 have D7:Df l.prog w K mg base CX0 1 "back" ["steps"] [] (vZ K):=⟨_,_,Jn B F7,M7,p7,B7⟩
 have D8:Df l.prog w K mg base CX0 1 "moved" ["steps","size"] [] (uG K):=⟨_,_,UG B F8,M8,p8,B8⟩
 have D9:Df l.prog w K mg base CX0 2 "by_pacts" ["entries","steps"] [] (W8 K):=⟨_,_,ZM B F9 D8 D7,M9,p9,B9⟩
 have D10:Df l.prog w K mg base CX0 1 "pairs_of" ["entries"] [] (wm K):=⟨_,_,Yc B F10,M10,p10,B10⟩
 have D11:Df l.prog w K mg base CX0 4 "as_rule" ["order","entry"] [] (xX K ft fq fo):=⟨_,_,Xo B DBk F11 D7,M11,p11,B11⟩
 have D12:Df l.prog w K mg base CX0 6 "in_order" ["order","entries"] [] (uB K ft fq fo TB):=⟨_,_,Z6 B DRk (aK X G nsorted) HCH HBT hgT F12 HCC D11,M12,p12,B12⟩
 have D13:Df l.prog w K mg base (CXx l.prog w) 5 "brought_down" ["entries","entry"] [] (jG K fu):=⟨_,_,qN B TMk F13 D10 D6 D6d D9 D7,M13,p13,B13⟩
 have D14:Df l.prog w K mg base (CXx l.prog w) 1 "refuse_beyond" ["entry"] [] (vj K fu):=⟨_,_,ur B TF TMk F14,M14,p14,B14⟩
 have D15:Df l.prog w K mg base (CXx l.prog w) 6 "built_anew" ["order","entries"] [] (uJ K ft fq fo fu):=⟨_,_,kh B F15 D13 D14 D11,M15,p15,B15⟩
 have D16:Df l.prog w K mg base (CXx l.prog w) 7 "thinned" ["order","entries"] [] (Z7 K ft fq fo TB fu):=⟨_,_,Xd B TF TMk F16 D12 D15 D10,M16,p16,B16⟩
 have D17:Df l.prog w K mg base CX0 1 "_law_cell" ["_law_script","_law_k"] [] (qA K):=⟨_,_,QQ B F17,M17,p17,B17⟩
 have D18:Df l.prog w K mg base CX0 1 "_law_mixed" ["_law_cell_here","_law_turn"] [] wM:=⟨_,_,U0 B F18,M18,p18,B18⟩
 have D19:Df l.prog w K mg base CX0 2 "_law_letters" ["_law_cell_here","_law_many"] [] wQ:=⟨_,_,XA B F19 D18,M19,p19,B19⟩
 have D20:Df l.prog w K mg base CX0 1 "_law_word" ["_law_number","_law_letters_here","_law_most"] [] jV:=⟨_,_,QS B F20,M20,p20,B20⟩
 have D21:Df l.prog w K mg base CX0 2 "_law_pair" ["_law_cell_here","_law_letters_here","_law_most"] [] qH:=⟨_,_,QJ B F21 D20 D18,M21,p21,B21⟩
 have D22:Df l.prog w K mg base CX0 1 "_law_whole" ["_law_found"] [] uP:=⟨_,_,VR B ⟨ki,kb⟩ F22,M22,p22,B22⟩
 have D23:Df l.prog w K mg base CX0 2 "_law_steps" ["_law_found"] [] (j8 K):=⟨_,_,UU B ⟨kl,kt,kbb⟩ F23 D22,M23,p23,B23⟩
 have D24:Df l.prog w K mg base CX0 1 "_law_used" ["_law_pacts","_law_word_here","_law_step"] [] (uO K):=⟨_,_,QY B F24,M24,p24,B24⟩
 have D25:Df l.prog w K mg base CX0 2 "_law_end" ["_law_pacts","_law_word_here","_law_steps_here"] [] (Zo K):=⟨_,_,K1 B F25 D24,M25,p25,B25⟩
 have D26:Df l.prog w K mg base CX0 6 "_law_order" ["_law_kind","_law_letters_here","_law_weights"] [] (kj K ft fq fo):=⟨_,_,V0 B TT F26,M26,p26,B26⟩
 have D27:Df l.prog w K mg base CX0 3 "_law_draw" ["_law_cell_here"] [] Yb:=⟨_,_,Jd B F27 D19 D18,M27,p27,B27⟩
 have D28:Df l.prog w K mg base CX0 3 "_law_entries" ["_law_found"] [] (Yg K):=⟨_,_,Xi B ⟨kl,kt,kbb⟩ ⟨ks⟩ F28 D23,M28,p28,B28⟩
 have D29:Df l.prog w K mg base CX0 1 "_law_rank" ["_law_kind","_law_letters_here","_law_weights","_law_word_here"] [] uS:=⟨_,_,Jk B F29,M29,p29,B29⟩
 have D30:Df l.prog w K mg base CX0 2 "_law_thin" ["_law_found","_law_kind","_law_letters_here","_law_weights"] [] (j7 K):=⟨_,_,QW B (aK X G nany) F30 D29,M30,p30,B30⟩
 have lB:=zD (st:=yB) ir iu iw
 have mV:=lB.binds (ps:=["self","order","rules"]) fun _ _ _ _ _ _ us hl=>by obtain⟨_,_,_,rfl⟩:=YV hl;rfl
 have mX:DMk l.prog w K mg base (CXx l.prog w) 5 fw ["self","order","rules"] (uD K ft fq fo fv fw):=⟨_,_,⟨mh,iq,iz,mi⟩,jb B TD TS DBk lB,mV⟩
 have MS:MkS l.prog w K mg base ft fq fo fv fw:=mX
 have D31:Df l.prog w K mg base CX0 1 "agree" ["one","other","place"] [] uM:=⟨_,_,Uc B F31,M31,p31,B31⟩
 have D32:Df l.prog w K mg base CX0 2 "overlaps" ["rules"] [] (wg K):=⟨_,_,ZW B F32 D31,M32,p32,B32⟩
 have D33:Df l.prog w K mg base CX0 4 "peak" ["rules","overlap"] [] (qi K):=⟨_,_,Jl B F33 D3,M33,p33,B33⟩
 have D34:Df l.prog w K mg base (CXx l.prog w) 5 "form_of" ["rules","word","most","forms"] [] (j0 l.prog w K fu):=⟨_,_,Xa B F34 D6 D6d,M34,p34,B34⟩
 have D35:Df l.prog w K mg base (CXx l.prog w) 6 "is_met" ["rules","overlap","most","forms"] [] (uH l.prog w K fu):=⟨_,_,WM B F35 D33 D34,M35,p35,B35⟩
 have ik:=zD (st:=zP) gg gh fN
 have lF:=ik.binds (ps:=["self"]) fun _ _ _ _ _ _ us hl=>by obtain⟨_,rfl⟩:=kM hl;rfl
 have lG:DM l.prog w K mg base CX0 1 fw "rules_told" ["self"] (kB K fw):=⟨_,_,⟨gf,gk,fN⟩,wV B TS ik,lF⟩
 have O36:=VO (P:=l.prog) (w:=w) (base:=base) B TS F36 D32 D35 lG
 have D36:Df l.prog w K mg base (CXx l.prog w) 7 "unmet" ["system","most"] [] (vF K fw fu):=⟨_,_,O36,M36,p36,fun s us hK hl=>by obtain⟨_,_,rfl⟩:=uh (us:=us) (by simpa using hl);exact BindsTo.of_defaults rfl (hK _ _ lE) rfl rfl rfl⟩
 have D36d:Df l.prog w K mg base (CXx l.prog w) 7 "unmet" ["system","most"] [.int 4000 lC] (vF K fw fu):=⟨_,_,O36,M36,p36,fun s us hK hl=>by obtain⟨_,rfl⟩:=kM (us:=us) (by simpa using hl);exact BindsTo.of_defaults rfl (hK _ _ lE) rfl rfl rfl⟩
 have D37:Df l.prog w K mg base CX0 7 "system_by" ["order","entries"] [] (jJ K ft fq fo fw):=⟨_,_,Zs B TS MS F37 D10,M37,p37,B37⟩
 have D38:Df l.prog w K mg base CX0 1 "first_entries" ["pacts"] [] (j6 K):=⟨_,_,ut B F38,M38,p38,B38⟩
 have D39:Df l.prog w K mg base CX0 1 "is_beyond" ["entries"] [] (qL K):=⟨_,_,Zt B (aK X G nany) TMcc F39,M39,p39,B39⟩
 have D40:Df l.prog w K mg base CX0 8 "thinned_within" ["order","entries"] [] (Wc K ft fq fo TB):=⟨_,_,vM B TF ⟨sFF⟩ F40 D16 D39,M40,p40,B40⟩
 have D41:Df l.prog w K mg base CX0 9 "unmet_within" ["order","entries"] [] (XX K ft fq fo):=⟨_,_,qO B TF ⟨sFF⟩ TMcc F41 D36 D36d D37,M41,p41,B41⟩
 have D42:Df l.prog w K mg base CX0 5 "entry_of" ["entries","overlap"] [] (uT K):=⟨_,_,Z5 B F42 D33 D9 D10,M42,p42,B42⟩
 have D43:Df l.prog w K mg base CX0 10 "completed" ["order","pacts","rounds"] [] (WZ K ft fq fo TB):=⟨_,_,kR B TMcc F43 D38 D40 D41 D42,M43,p43,B43⟩
 have D44:Df l.prog w K mg base CX0 4 "_law_told" ["_law_found"] [] (jH K):=⟨_,_,Jy B ⟨kt,kbb⟩ F44 D28,M44,p44,B44⟩
 exact K9 B (aK X G nany) F45 D27 D43 D17 D21 D26 D30 D44 D25
theorem walk{l:PySem.W.OpenLaw}{q:Program}{loose:List Str}{XP:(Str->Option Value)->Heap->Prop}{YP:World->Heap->Prop}{d:DefRec}{K:Params->ot}(hn:l.most=some 63)(hdf:d.params.defaults=[])
  (hY:∀(w:World) (h:Heap),YP w h->(K w.params).In h) (hj:((PyProof.Rows.recsOf q).find? fun r=>r.name == ("in_order" : Str)).isSome=true) (hno:∀ w:World,JM (K w.params)=true)
  (F:∀(w:World) (mg:Str->Option Value) (fa:Addr) (h:Heap) (cc T:Addr),(K w.params).In h->h.Ns om mg->mg d.name=some (.ref fa)->(∃ a o fd,mg "in_order" = some (.ref a)/\h.get? a=some o/\o.data=.func fd/\fd.code=.ref cc)->om≠T ->
   ∃ fd:FuncData,(∀(s:Shared) (u:Value),BindsTo s fd ⟨[u],[]⟩ [("_law_script",u)])/\∀ base:Heap,(K w.params).In base->base.Ns om mg->base.BuiltinsAt mg T->PySem.W.CodeHd base cc T->ye l.prog w (K w.params) mg base CX0 11 fa fd ["_law_script"] (Yj (K w.params) T)) :
  PySem.W.WalkO q loose XP YP l.row.toRowW d [] (fun f vs=>fj f vs):=by
 obtain⟨din,hd⟩:=Option.isSome_iff_exists.mp hj
 have hnm:din.name="in_order":=by simpa using du hd
 exact L3.walk_ofT (n:=63) (k:=11) (x:="_law_script") (CX:=fun _=>CX0) (din:=din) (sp:=fun w T=>Yj (K w.params) T) hn (by decide) hdf ⟨rfl,by decide,by decide⟩ (dU hd) hY hno (fun w mg fa h cc T a b c e g=>F w mg fa h cc T a b c (by rw[hnm] at e;exact e) g) (fun _ _ a ns T hl hB hT hS=>⟨a,ns,rfl,hS,hB,hT,fun _=>rfl⟩) fun _ _ _ _ _ z=>z
end LL
namespace PySem.W.Fast
noncomputable def tw12345268868263292118:=0
noncomputable def tw12410348486373110013:=0
noncomputable def tw5564410004418329326:=0
noncomputable def tw15185338266660019530:=0
noncomputable def tw9818368424069389333:=0
noncomputable def tw6708128202937775961:=0
noncomputable def tw1836411520979875324:=0
noncomputable def tw5146317044231790680:=0
noncomputable def tw11356320809749641691:=0
noncomputable def tw11908037384819012178:=0
noncomputable def tw17138953339061884869:=0
noncomputable def tw16417249763310796402:=0
noncomputable def tw13374407622025249276:=0
noncomputable def tw805130337694848766:=0
noncomputable def tw11189567265724315215:=0
noncomputable def tw4464621683515583991:=0
noncomputable def tw2014634080207897577:=0
noncomputable def tw9647709908469579437:=0
noncomputable def tw134711388890672765:=0
noncomputable def tw2295431183053810397:=0
noncomputable def tw4712915898653553013:=0
noncomputable def tw17408554763253950467:=0
noncomputable def tw4412494878162505722:=0
noncomputable def tw15419730398652817646:=0
noncomputable def tw9258678734297803686:=0
noncomputable def tw2190201930210628447:=0
noncomputable def tw12460557373353767498:=0
noncomputable def tw4598746601777054916:=0
noncomputable def tw17211213469998152462:=0
noncomputable def tw13652099316362974880:=0
noncomputable def tw8470736927513521591:=0
noncomputable def tw4729432413707590193:=0
noncomputable def tw2119250663946939425:=0
noncomputable def tw16746262244671010443:=0
noncomputable def tw5645871853322101157:=0
noncomputable def tw7198492659437915810:=0
noncomputable def tw8802069305838828955:=0
noncomputable def tw17628015860353312751:=0
noncomputable def tw1604779996859187360:=0
noncomputable def tw1597658172503433568:=0
noncomputable def tw10218776106963994378:=0
noncomputable def tw2541187491762990112:=0
noncomputable def tw2766539593631610697:=0
noncomputable def tw3116116922666211895:=0
noncomputable def tw18357146840728153709:=0
noncomputable def tw11124009140554999460:=0
noncomputable def tw6907847558226687649:=0
noncomputable def tw4196763293385707611:=0
noncomputable def tw7784770941039115927:=0
noncomputable def tw12154374738712176605:=0
noncomputable def tw8879870970829873775:=0
noncomputable def tw7560935030620183782:=0
noncomputable def tw12255985114833302649:=0
noncomputable def tw729472002876349830:=0
noncomputable def tw16239699858945209706:=0
noncomputable def tw5584362497973008324:=0
noncomputable def tw4907603900918034171:=0
noncomputable def tw11001993207450405125:=0
noncomputable def tw1576888039180226958:=0
noncomputable def tw13616962252352950412:=0
noncomputable def tw8173019887415901341:=0
noncomputable def tw12116778494557116210:=0
noncomputable def tw8820193248641023356:=0
noncomputable def tw385089580139923687:=0
noncomputable def tw15126144396926634339:=0
noncomputable def tw14478476431004529540:=0
noncomputable def tw18062186287473520453:=0
noncomputable def tw5023630052401229339:=0
noncomputable def tw13742466641530368071:=0
noncomputable def tw5830906813830822502:=0
noncomputable def tw10997641841462575843:=0
noncomputable def tw1712987859580540256:=0
noncomputable def tw11938553942467712078:=0
noncomputable def tw9050120183934706049:=0
noncomputable def tw3332177225299914318:=0
noncomputable def tw4480297822144282798:=0
noncomputable def tw2832442278679076901:=0
noncomputable def tw4080319565800736498:=0
noncomputable def tw12697267497408729463:=0
noncomputable def tw5363700879449633558:=0
noncomputable def tw9416883098467218183:=0
noncomputable def tw8200311177393574046:=0
noncomputable def tw14177844539370454844:=0
noncomputable def tw1950155319859266374:=0
noncomputable def tw12933974766609515388:=0
noncomputable def tw7658559494500216695:=0
noncomputable def tw17104835190392957238:=0
noncomputable def tw18136337848400428836:=0
noncomputable def tw16154178298406520101:=0
noncomputable def tw14542736274512521877:=0
noncomputable def tw16272807934074540204:=0
noncomputable def tw8548284038228643204:=0
noncomputable def tw11286220713684697448:=0
noncomputable def tw10138246420399945504:=0
noncomputable def tw2536839444339689488:=0
noncomputable def tw3728376019427950227:=0
noncomputable def tw16778538616685190495:=0
noncomputable def tw2841623247438619004:=0
noncomputable def tw16945085887014467892:=0
noncomputable def tw16956896760814176049:=0
noncomputable def tw1861535471577694609:=0
noncomputable def tw5153439365766930994:=0
noncomputable def tw7427273734463460922:=0
noncomputable def tw9473727772274005597:=0
noncomputable def tw7488685954907514009:=0
noncomputable def tw5746976481885937256:=0
noncomputable def tw876802969341453318:=0
noncomputable def tw3417634318302467655:=0
noncomputable def tw10111392113703669105:=0
noncomputable def tw18074240698353781512:=0
noncomputable def tw14389852462964300337:=0
noncomputable def tw4200109650105652959:=0
noncomputable def tw4942922043534309148:=0
noncomputable def tw18142153957426162977:=0
noncomputable def tw7778255005584971531:=0
noncomputable def tw12199597909550180040:=0
noncomputable def tw4605139892771184047:=0
noncomputable def tw11581662363596587078:=0
noncomputable def tw10543394766545966431:=0
noncomputable def tw5630574389366178612:=0
noncomputable def tw2290866698370214129:=0
noncomputable def tw2113898207024576688:=0
noncomputable def tw10426267193803293691:=0
noncomputable def tw3312378212758628961:=0
noncomputable def tw4429403129200443859:=0
noncomputable def tw15921706291635398536:=0
noncomputable def tw10854408797557860545:=0
noncomputable def tw18016666614986814040:=0
noncomputable def tw3683734239410805136:=0
noncomputable def tw16440022297219097379:=0
noncomputable def tw13909767957812177020:=0
noncomputable def tw8609951758687530926:=0
noncomputable def tw3765213087821224653:=0
noncomputable def tw2178744630448829185:=0
noncomputable def tw14932119140953911413:=0
noncomputable def tw11377294420658230481:=0
noncomputable def tw18029543865499738463:=0
noncomputable def tw14756639002711195064:=0
noncomputable def tw15769842209748802794:=0
noncomputable def tw6979453134082789116:=0
noncomputable def tw12274420366275387482:=0
noncomputable def tw14174613700081222396:=0
noncomputable def tw2449104121800444306:=0
noncomputable def tw11791801391856698225:=0
noncomputable def tw16924317102289300062:=0
noncomputable def tw4779774385066271683:=0
noncomputable def tw5086358875468519226:=0
noncomputable def tw4722882628585569744:=0
noncomputable def tw3625000144723174589:=0
noncomputable def tw1346259708087225531:=0
noncomputable def tw15162057796937306616:=0
noncomputable def tw14096894857567956105:=0
noncomputable def tw16301775511608270625:=0
noncomputable def tw2989390282651461879:=0
noncomputable def tw9324859297518533832:=0
noncomputable def tw10428503977921682157:=0
noncomputable def tw3417033456521997225:=0
noncomputable def tw17719503187020794083:=0
noncomputable def tw13140315502950270175:=0
noncomputable def tw13223793849935965528:=0
noncomputable def tw17548064380291357072:=0
noncomputable def tw3271858385273601520:=0
noncomputable def tw14074620497924947907:=0
noncomputable def tw2068289276739599327:=0
noncomputable def tw15691116637323359949:=0
noncomputable def tw13569351308842279859:=0
noncomputable def tw17810500648691747736:=0
noncomputable def tw16428557854789117658:=0
noncomputable def tw964446225757710498:=0
noncomputable def tw11243852062131184479:=0
noncomputable def tw3259655304347376828:=0
noncomputable def tw17273937957695612013:=0
noncomputable def tw15170436060792115384:=0
noncomputable def tw5915803975577176230:=0
noncomputable def tw16383161540280178096:=0
noncomputable def tw11409841498115299949:=0
noncomputable def tw8777846416126378009:=0
noncomputable def tw11452895568635119849:=0
noncomputable def tw10353346464608781324:=0
noncomputable def tw10710158483529825376:=0
noncomputable def tw14354981173972324578:=0
noncomputable def tw8642180258483676872:=0
noncomputable def tw9111730769393448817:=0
noncomputable def tw17551856464128719409:=0
noncomputable def tw3085311466096246751:=0
noncomputable def tw4066808171156866235:=0
noncomputable def tw5087804159144524691:=0
noncomputable def tw412665194647096391:=0
noncomputable def tw2485316294537386252:=0
noncomputable def tw16243803269176383326:=0
noncomputable def tw14981023195513814656:=0
noncomputable def tw4768126608197765443:=0
noncomputable def tw3689487671896366214:=0
noncomputable def tw10978913177770016432:=0
noncomputable def tw1925310252261889232:=0
end PySem.W.Fast
open PySem PySem.W PyProof.Rows
set_option maxRecDepth 100000 in
set_option maxHeartbeats 0 in
theorem PySem.Challenge.cw_letterlaw_k55_completed_papers_holds : PySem.Challenge.rw_letterlaw_k55_completed_papers.Holds := by
 w_on;o_law;k_head; (case hw=>w_witness2)
 k_fill
 refine LL.walk (l:=PySem.Challenge.rw_letterlaw_k55_completed_papers) rfl rfl (fun w h Y=>PySem.W.km_in_of Y) ?hJJ ?hNN ?hFF
 case hJJ=>first | kernel_rfl | rfl | decide +kernel
 case hNN=>intro w;first | kernel_rfl | rfl
 case hFF =>
  intro w mg fa h cc T KX G hmg hlam hgT
  refine' LL.all_mk KX G hmg hlam hgT ?a0 ?l0 ?k0 ?p0 ?a1 ?l1 ?k1 ?p1 ?a2 ?l2 ?k2 ?p2 ?a3 ?l3 ?k3 ?p3 ?a4 ?l4 ?k4 ?p4 ?a5 ?l5 ?k5 ?p5 ?a6 ?l6 ?k6 ?p6 ?a7 ?l7 ?k7 ?p7 ?a8 ?l8 ?k8 ?p8 ?a9 ?l9 ?k9 ?p9 ?a10 ?l10 ?k10 ?p10 ?a11 ?l11 ?k11 ?p11 ?a12 ?l12 ?k12 ?p12 ?a13 ?l13 ?k13 ?p13 ?a14 ?l14 ?k14 ?p14 ?a15 ?l15 ?k15 ?p15 ?a16 ?l16 ?k16 ?p16 ?a17 ?l17 ?k17 ?p17 ?a18 ?l18 ?k18 ?p18 ?a19 ?l19 ?k19 ?p19 ?a20 ?l20 ?k20 ?p20 ?a21 ?l21 ?k21 ?p21 ?a22 ?l22 ?k22 ?p22 ?a23 ?l23 ?k23 ?p23 ?a24 ?l24 ?k24 ?p24 ?a25 ?l25 ?k25 ?p25 ?a26 ?l26 ?k26 ?p26 ?a27 ?l27 ?k27 ?p27 ?a28 ?l28 ?k28 ?p28 ?a29 ?l29 ?k29 ?p29 ?a30 ?l30 ?k30 ?p30 ?a31 ?l31 ?k31 ?p31 ?a32 ?l32 ?k32 ?p32 ?a33 ?l33 ?k33 ?p33 ?a34 ?l34 ?k34 ?p34 ?a35 ?l35 ?k35 ?p35 ?a36 ?l36 ?k36 ?p36 ?a37 ?l37 ?k37 ?p37 ?a38 ?l38 ?k38 ?p38 ?a39 ?l39 ?k39 ?p39 ?a40 ?l40 ?k40 ?p40 ?a41 ?l41 ?k41 ?p41 ?a42 ?l42 ?k42 ?p42 ?a43 ?l43 ?k43 ?p43 ?a44 ?l44 ?k44 ?p44 ?a45 ?l45 ?k45 ?p45 ?g_LetterError ?g_NoLetters ?g_NoOrder ?g_Order ?g_FromRight ?g_ByWeights ?g_NotTurned ?g_System ?g_NoUse ?g_TooFar ?kbb ?kt ?ki ?kb ?kl ?x7 ?x8 ?x1 ?x2 ?x3 ?x4 ?x5 ?x6 ?x9 ?xi ?y1 ?y2 ?y3 ?y4 ?y5 ?y6 ?y9 ?yi ?most ?mostw ?mz ?mB ?mC ?mD ?mE ?mF ?mG ?ny ?nz ?nA ?iW ?iX ?iY ?iZ ?la ?lb ?lc ?lQ ?lS ?lT ?lg ?lh ?li ?lj ?lm ?ln ?lr ?lV ?lX ?lY ?nw_ByWeights ?sgO ?rdO ?win ?tt1 ?tt2 ?tt3 ?tt4 ?tt5 ?tt6 ?tt9 ?nn ?ini ?lI ?kI ?pI ?fnI ?lZ ?md ?me ?mf ?mh ?mi ?no_System ?nr_System ?u1 ?u2 ?u3 ?u4 ?u5 ?u6 ?u9 ?ua ?iniU ?lU ?kU ?pU ?fnU ?v1 ?v2 ?v3 ?v4 ?v5 ?v6 ?v9 ?vi ?sFF ?ks ?nany ?nsorted ?mou ?mos ?mod_ ?mop ?mcu ?mce ?mcd ?mcp ?iB ?iC ?iD ?gL ?gM ?gU ?gX ?gY ?fY ?gx ?iE ?iF ?iG ?gp ?gN ?gA ?gB ?gC ?ge ?gD ?gE ?gF ?gG ?gH ?gJ ?gr ?gu ?gv ?fP ?gw ?iH ?iI ?iJ ?fS ?gq ?gZ ?ic ?ie ?fJ ?fZ ?iq ?ir ?iu ?iw ?iz ?gf ?gg ?gh ?fN ?gk ?ml ?lE ?fcO ?fiR_init ?fiR_weight ?fiW_seen ?fiR_rank ?fiW_rank ?fiR_before ?fiW_before ?b0 ?b1 ?b2 ?b3 ?b4 ?b5 ?b6 ?b7 ?b8 ?b9 ?b10 ?b11 ?b12 ?b13 ?b14 ?b15
  case a0|l0|k0|p0|a1|l1|k1|p1|a2|l2|k2|p2|a3|l3|k3|p3|a4|l4|k4|p4|a5|l5|k5|p5|a6|l6|k6|p6|a7|l7|k7|p7|a8|l8|k8|p8|a9|l9|k9|p9|a10|l10|k10|p10|a11|l11|k11|p11|a12|l12|k12|p12|a13|l13|k13|p13|a14|l14|k14|p14|a15|l15|k15|p15|a16|l16|k16|p16|a17|l17|k17|p17|a18|l18|k18|p18|a19|l19|k19|p19|a20|l20|k20|p20|a21|l21|k21|p21|a22|l22|k22|p22|a23|l23|k23|p23|a24|l24|k24|p24|a25|l25|k25|p25|a26|l26|k26|p26|a27|l27|k27|p27|a28|l28|k28|p28|a29|l29|k29|p29|a30|l30|k30|p30|a31|l31|k31|p31|a32|l32|k32|p32|a33|l33|k33|p33|a34|l34|k34|p34|a35|l35|k35|p35|a36|l36|k36|p36|a37|l37|k37|p37|a38|l38|k38|p38|a39|l39|k39|p39|a40|l40|k40|p40|a41|l41|k41|p41|a42|l42|k42|p42|a43|l43|k43|p43|a44|l44|k44|p44|a45|l45|k45|p45|g_LetterError|g_NoLetters|g_NoOrder|g_Order|g_FromRight|g_ByWeights|g_NotTurned|g_System|g_NoUse|g_TooFar=>k_is
  (case kbb=>first | kernel_rfl | rfl)
  (case kt=>first | kernel_rfl | rfl)
  (case ki=>first | kernel_rfl | rfl)
  (case kb=>first | kernel_rfl | rfl)
  (case kl=>first | kernel_rfl | rfl)
  case x7|x8=>k_is
  (case x1=>first | kernel_rfl | rfl | decide +kernel)
  case x2|x3|x4|x5|x6|x9|xi=>k_is
  (case y1=>first | kernel_rfl | rfl | decide +kernel)
  case y2|y3|y4|y5|y6|y9|yi|most|mostw=>k_is
  (case mz=>first | kernel_rfl | rfl | k_is | decide +kernel)
  (case mB=>first | kernel_rfl | rfl | k_is)
  (case mC=>first | kernel_rfl | rfl | k_is | decide +kernel)
  case mD=>k_is
  (case mE=>first | kernel_rfl | rfl | k_is | decide +kernel)
  case mF|mG=>k_is
  (case ny=>first | kernel_rfl | rfl)
  case nz|nA=>k_is
  (case iW=>first | kernel_rfl | rfl | k_is | decide +kernel)
  (case iX=>first | kernel_rfl | rfl | k_is)
  (case iY=>first | kernel_rfl | rfl | k_is | decide +kernel)
  case iZ=>k_is
  (case la=>first | kernel_rfl | rfl | k_is | decide +kernel)
  case lb|lc=>k_is
  (case lQ=>first | kernel_rfl | rfl)
  case lS|lT=>k_is
  (case lg=>first | kernel_rfl | rfl | k_is | decide +kernel)
  (case lh=>first | kernel_rfl | rfl | k_is)
  (case li=>first | kernel_rfl | rfl | k_is | decide +kernel)
  case lj=>k_is
  (case lm=>first | kernel_rfl | rfl | k_is | decide +kernel)
  case ln|lr=>k_is
  (case lV=>first | kernel_rfl | rfl)
  case lX|lY|nw_ByWeights|sgO=>k_is
  (case rdO=>first | kernel_rfl | rfl | k_is | decide +kernel)
  case win=>k_is
  (case tt1=>first | kernel_rfl | rfl | decide +kernel)
  case tt2|tt3|tt4|tt5|tt6|tt9|nn|ini|lI|kI|pI=>k_is
  (case fnI=>first | kernel_rfl | rfl | k_is)
  (case lZ=>first | kernel_rfl | rfl | k_is | decide +kernel)
  (case md=>first | kernel_rfl | rfl | k_is)
  (case me=>first | kernel_rfl | rfl | k_is | decide +kernel)
  case mf=>k_is
  (case mh=>first | kernel_rfl | rfl | k_is | decide +kernel)
  case mi|no_System|nr_System=>k_is
  (case u1=>first | kernel_rfl | rfl | decide +kernel)
  case u2|u3|u4|u5|u6|u9|ua|iniU|lU|kU|pU=>k_is
  (case fnU=>first | kernel_rfl | rfl | k_is)
  (case v1=>first | kernel_rfl | rfl | decide +kernel)
  case v2|v3|v4|v5|v6|v9|vi|sFF=>k_is
  (case ks=>first | kernel_rfl | rfl)
  case nany|nsorted|mou|mos|mod_|mop|mcu|mce|mcd|mcp|iB|iC|iD|gL=>k_is
  (case gM=>first | kernel_rfl | rfl | k_is)
  case gU|gX|gY|fY=>k_is
  (case gx=>first | kernel_rfl | rfl | k_is)
  case iE|iF|iG|gp=>k_is
  (case gN=>first | kernel_rfl | rfl | k_is)
  case gA|gB|gC|ge=>k_is
  (case gD=>first | kernel_rfl | rfl | k_is)
  case gE|gF|gG|gH=>k_is
  (case gJ=>first | kernel_rfl | rfl | k_is)
  case gr|gu|gv|fP=>k_is
  (case gw=>first | kernel_rfl | rfl | k_is)
  case iH|iI|iJ|fS=>k_is
  (case gq=>first | kernel_rfl | rfl | k_is)
  case gZ|ic|ie|fJ=>k_is
  (case fZ=>first | kernel_rfl | rfl | k_is)
  case iq|ir|iu|iw=>k_is
  (case iz=>first | kernel_rfl | rfl | k_is)
  case gf|gg|gh|fN=>k_is
  (case gk=>first | kernel_rfl | rfl | k_is)
  case ml|lE|fcO|fiR_init|fiR_weight|fiW_seen|fiR_rank|fiW_rank|fiR_before|fiW_before|b0|b1|b2|b3|b4|b5|b6|b7|b8|b9|b10|b11|b12|b13|b14|b15=>k_is
#print axioms PySem.Challenge.cw_letterlaw_k55_completed_papers_holds
