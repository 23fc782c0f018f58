import PyProof.Rows.All
import Wide.All
import OpenK.AllK
import Wide.FinOn
import PyProof.EqAt
import PyProof.EqKinds
import PyProof.NeKinds
import PyProof.TupleCall
import KE.KRevIter
import PyProof.ZipIter
import PyProof.Rows.SetFrom
import PyProof.StrWalks
import PyProof.DictStraight
import PyProof.StrLawsFrom
import PyProof.Rows.StrNews2
import KE.KMinBuiltin
import PyProof.Rows.CallKwBuiltin
import PyProof.Rows.SortShell
import KE.KSortTup
import KE.KBoundM
import KE.KLam
import Lean
import PySem.Challenge.RW_letterlaw_k57_whole_only_one_list
open PySem.Heap renaming get?_push_of_some→aa,lt_size→ay,get?_push_size→aI,get?_update_other→aL,size_push→bH,get?_update_self→bW,size_update→dn
open List renaming getD_eq_getElem?_getD→ac,length_map→ae,mem_of_getElem?→af,getElem?_eq_getElem→al,length_append→am,size_toArray→ao,mem_cons_of_mem→aw,append_assoc→ax,mem_cons_self→az,mem_append_right→aA,map_cons→aC,getElem?_map→aG,map_append→aH,length_take→aK,length_cons→aM,map_nil→aN,take_length→aQ,mem_append_left→aR,append_nil→aS,take_append_of_le_length→aU,drop_eq_getElem_cons→aV,lookup_cons→aW,range→aY,drop_of_length_le→aZ,take_of_length_le→bf,toArray→bh,set_cons_zero→bi,set_cons_succ→bj,replicate→bp,lookup→bq,length_drop→br,sum_cons→bt,mem_of_mem_take→bu,nil_append→bv,getElem?_take_of_lt→bx,getElem?_eq_none→bz,take_zero→bA,cons_append→bF,take_append_drop→bK,getElem?_reverse→bL,drop_append_of_le_length→bM,getElem?_append_right→bS,getElem?_append_left→bY,mem_of_mem_drop→cf,idxOf_lt_length_of_mem→cq,length_replicate→cr,length_singleton→cu,length_nil→cw,drop_left→cD,map_congr_left→cF,countP_cons_of_pos→cG,eraseIdx_cons_succ→cH,range_succ→cM,filter_append→cN,length_filter_le→cQ,take_left→cS,replicate_succ→cX,flatMap_append→cY,of_mem_zip→da,forIn_cons→db,filter_nil→dc,contains_cons→df,zip_cons_cons→dg,append_cancel_left→dh,countP_cons_of_neg→di,length_range→dj,mem_cons→dm,map_map→dw,find?_some→dz,eq_nil_of_length_eq_zero→dA,filterMap_cons→dB,take_succ_cons→dF,drop_zero→dI,drop_drop→dJ,getElem_idxOf→dL,pairwise_map→dQ,eraseIdx_nil→dW,extract_eq_drop_take→dX,pairwise_iff_getElem→dY,mem_of_find?_eq_some→dZ,drop_length→d6,mem_nil_iff→d8,filter_cons→ef,getElem?_replicate→eg,pairwise_singleton→eh,getElem?_cons_zero→em,filter_cons_of_pos→eC,filter_cons_of_neg→eD,getElem?_set_self→eG,length→eJ,range_succ_eq_map→eK,forIn_nil→eO,mem_range→eP,take_take→eQ,mem_of_mem_head?→eR,getElem?_set_ne→eS,length_reverse→eX,getElem?_drop→e9,getElem_range→fg
open PySem.W renaming findIn→ah,keepIn→aj,nsIn→ak,mg_of→aq,codeIn→ar,fnOf→av,mg_none_of→aP,kitOne→aT,isFn→bg,kia_one→bn,emptyDict→bJ,callWith_K→bN,mroIn→bP,hasDictIn→bQ,plainGet→bT,methodCall_KW→bV,kla_fn→bX,instObj→bZ,plainOver→cz,specialIn→cA,looks_findIn→cB,subIn→cJ,makesIn→cK,takesIn→du,plainGet_of→dD,lookIn→dH,methodObj→dO,kitx_list→dP,envX→ee,takerIn→eE,cellsFrom_some→eI,callWith_K0→eW,kitx_tuple→eZ,set_plain→fh,kitx_dict→fj,handedIn→fm,bind_fn→fq,findObj→ft,readsIn→fu,findCls→fv,kat_nil→fz,kas_ask→fA
open Nat renaming le_refl→au,lt_of_lt_of_le→aD,ne_of_lt→aE,zero_le→aJ,le_trans→aO,ne_of_gt→cb,lt_succ_of_lt→ci,le_add_right→cj,lt_of_le_of_lt→cp,min_eq_left→cy,le_succ→cC,lt_irrefl→cI,not_lt_zero→cL,le_of_not_lt→cT,le_of_lt→de,min_eq_right→dq,lt_trichotomy→dU,lt_succ_self→d4,succ_mul→d5,lt_or_ge→d7,zero_add→d9,min_self→e7
open PySem renaming boot_len→aB,mem_of_lookup→bR,strKind→cU,frameOf→dM,passOn→e8,call→fw
open Bool renaming false_ne_true→aF,false_eq_true→bO,eq_false_or_eq_true→ce,and_eq_true→cE,eq_iff_iff→cZ,or_true→dv,and_false→eN,and_true→eV
open Int renaming toNat_natCast→aX,emod_lt_of_pos→ba,emod_nonneg→be,eq_ofNat_of_zero_le→bE,le_refl→fk
open PySem.F renaming plainAttrs_list→bc,slot_list_append→bB,type_list_append→bC,plain_max_loop→bI,plainAttrs_str→cP,entry_max_loop→dk,excBase_ValueError→dN,slot_str_count→eL,type_str_count→eM
open Decidable renaming byContradiction→bw
open PyProof.Rows renaming callWith_type1→bD
open PySem.Str renaming ofString→bG,empty→eF
open Option renaming bind_some→bU,getD_none→fo
open Array renaming length_toList→dC,getD→eU,toList_append→eY
open PySem renaming wpAny_bind→oH,wpAny_pure→oJ,mainGlobals→oK,starEach→oM,sizeLine→oN
open PySem.W renaming Frag→oO
open PySem PySem.Spec PyProof.Rows
set_option Elab.async false
set_option linter.all false
set_option maxRecDepth 100000
set_option maxHeartbeats 4000000
namespace L2
abbrev Key:=Sum Int Str
def zaO:Key->Value->Bool
 | .inl k,v=>Value.isInt k v
 | .inr x,v=>Value.isStrOf x v
def zdj(w:World):Key->Int
 | .inl k=>hashInt k
 | .inr x=>hashStr w x
theorem yk:∀{k:Key} {v:Value},zaO k v=true->(∃ i t,k=Sum.inl i/\v=Value.int i t)\/(∃ x t,k=Sum.inr x/\v=Value.str x t)
 | .inl i,v,h=>by
  obtain⟨t,e⟩:=Value.isInt_shape (k:=i) (v:=v) h
  exact .inl ⟨i,t,rfl,e⟩
 | .inr x,v,h=>by
  obtain⟨t,e⟩:=Value.isStrOf_shape (x:=x) (v:=v) h
  exact .inr ⟨x,t,rfl,e⟩
theorem zbo(a b:Int):decide ((Sum.inl a:Key)=Sum.inl b)=(a == b):=by
 by_cases e:a=b
 ·subst e;simp
 ·have h:¬ (Sum.inl a:Key)=Sum.inl b:=fun q=>e (Sum.inl.inj q)
  rw[decide_eq_false h]
  exact (beq_eq_false_iff_ne.mpr e).symm
theorem zau(a b:Str):decide ((Sum.inr a:Key)=Sum.inr b)=decide (a=b):=by
 by_cases e:a=b
 ·subst e;simp
 ·have h:¬ (Sum.inr a:Key)=Sum.inr b:=fun q=>e (Sum.inr.inj q)
  rw[decide_eq_false h,decide_eq_false e]
theorem zbl(a:Int)(b:Str):decide ((Sum.inl a:Key)=Sum.inr b)=false:=decide_eq_false (fun q=>nomatch q)
theorem zaA(a:Str)(b:Int):decide ((Sum.inr a:Key)=Sum.inl b)=false:=decide_eq_false (fun q=>nomatch q)
def Yf(prog:Program)(w:World):PySem.KeyKind prog w Key where
 is:=zaO
 hash:=zdj w
 inj:=fun v a b ha hb=>by
  rcases yk ha with ⟨i,t,rfl,rfl⟩ | ⟨x,t,rfl,rfl⟩
  ·rcases yk hb with ⟨j,u,rfl,e⟩ | ⟨y,u,rfl,e⟩
   ·injection e with e1 _;rw[e1]
   ·exact nomatch e
  ·rcases yk hb with ⟨j,u,rfl,e⟩ | ⟨y,u,rfl,e⟩
   ·exact nomatch e
   ·injection e with e1 _;rw[e1]
 byValue:=fun k v h=>by
  rcases yk h with ⟨i,t,rfl,rfl⟩ | ⟨x,t,rfl,rfl⟩ <;> rfl
 pyHash:=fun hv h=>by
  rcases yk hv with ⟨i,t,rfl,rfl⟩ | ⟨x,t,rfl,rfl⟩
  ·exact wpAny_pyHash_int h
  ·exact wpAny_pyHash_str h
 eqBool:=fun hu hv h=>by
  rcases yk hu with ⟨i,t,rfl,rfl⟩ | ⟨x,t,rfl,rfl⟩
  ·rcases yk hv with ⟨j,u,rfl,rfl⟩ | ⟨y,u,rfl,rfl⟩
   ·rw[zbo] at h;exact wpAny_eqBool_int h
   ·rw[zbl] at h;exact SeqAt.EqAt.int_str i t y u _ _ _ _ h
  ·rcases yk hv with ⟨j,u,rfl,rfl⟩ | ⟨y,u,rfl,rfl⟩
   ·rw[zaA] at h;exact SeqAt.EqAt.str_int x t j u _ _ _ _ h
   ·rw[zau] at h;exact wpAny_eqBool_str h
 «strs»:=fun k x t v h=>by
  rcases yk h with ⟨i,u,rfl,e⟩ | ⟨y,u,rfl,e⟩
  ·exact nomatch e
  ·injection e with e1 _
   subst e1
   cases v <;> rfl
end L2
namespace L2
inductive V where
 | non | bl (b:Bool) | int (i:Int) | str (x:Str) | byt (b:Array UInt8) | flt (b:UInt64) | ref (a:Addr) | ty (n:String)
 deriving DecidableEq
def RelV:V->Value->Prop
 | .non,u=>u=Value.none
 | .bl b,u=>u=Value.bool b
 | .int i,u=>∃ t,u=Value.int i t
 | .str x,u=>∃ t,u=Value.str x t
 | .byt b,u=>∃ t,u=Value.bytes b t
 | .flt b,u=>∃ t,u=Value.float b t
 | .ref a,u=>u=Value.ref a
 | .ty n,u=>u=Value.type n
abbrev Vals:List V->List Value->Prop:=Paired RelV
theorem Vals.length{xs:List V}{us:List Value}(r:Vals xs us):xs.length=us.length:=Paired.length r
theorem Vals.get:∀{xs:List V} {us:List Value} {i:Nat} {x:V},Vals xs us->xs[i]? = some x->∃ u,us[i]? = some u/\RelV x u
 | _,_,_,_,.nil,e=>by simp at e
 | _,_,0,_,.cons r _,e=>by simp at e;subst e;exact⟨_,rfl,r⟩
 | _,_,i+1,x,.cons _ t,e=>by
  obtain⟨u,h1,h2⟩:=Vals.get (i:=i) (x:=x) t (by simpa using e)
  exact⟨u,by simpa using h1,h2⟩
theorem Vals.set{x:V}{u:Value}(r:RelV x u):∀{xs:List V} {us:List Value} (i:Nat),Vals xs us->Vals (xs.set i x) (us.set i u)
 | _,_,_,.nil=>.nil
 | _,_,0,.cons _ t=>.cons r t
 | _,_,i+1,.cons q t=>.cons q (Vals.set r i t)
theorem Vals.append:∀{xs ys:List V} {us ws:List Value},Vals xs us->Vals ys ws->Vals (xs ++ ys) (us ++ ws)
 | _,_,_,_,.nil,s=>s
 | _,_,_,_,.cons r t,s=>.cons r (Vals.append t s)
theorem Vals.take:∀{xs:List V} {us:List Value} (n:Nat),Vals xs us->Vals (xs.take n) (us.take n)
 | _,_,0,_=>.nil
 | _,_,_+1,.nil=>.nil
 | _,_,n+1,.cons r t=>.cons r (Vals.take n t)
theorem Vals.drop:∀{xs:List V} {us:List Value} (n:Nat),Vals xs us->Vals (xs.drop n) (us.drop n)
 | _,_,0,r=>r
 | _,_,_+1,.nil=>.nil
 | _,_,n+1,.cons _ t=>Vals.drop n t
def RelO:Option V->Option Value->Prop
 | some v,some u=>RelV v u
 | none,none=>True
 | _,_=>False
def KV{κ:Type}:List (κ × V)->List (κ × Value)->Prop:=Paired fun(p:κ × V) (q:κ × Value)=>p.1=q.1/\RelV p.2 q.2
def kV:Key->V
 | .inl i=>.int i
 | .inr x=>.str x
inductive HO where
  | lst (xs:List V)
  | tup (xs:List V)
  | dK (kvs:List (Key × V)) | dT (kvs:List (List Key × V))
  | set (S:Int->Bool) (n:Nat)
  | ins (C dx:Addr) (fs:List (Str × V))
  | own (x:Addr)
  | xd (fs:List (Str × V))
  | met (f x:Addr)
  | rng (lo hi:Int)
  | frz (o:Obj) (u:HO)
  | tbl (ps:Array Value)
  | ext (φ:Heap->Prop)
abbrev Hp:=Addr->Option HO
def upd(H:Hp)(a:Addr)(o:HO):Hp:=fun b=>if b=a then some o else H b
theorem zf{H:Hp}{a:Addr}{o:HO}:upd H a o a=some o:=by unfold upd;rw[if_pos rfl]
theorem zo{H:Hp}{a b:Addr}{o:HO}(h:b≠a):upd H a o b=H b:=by unfold upd;rw[if_neg h]
theorem zH{H:Hp}{a b:Addr}{o:HO}(h:H a=some o)(h':H b=none):a≠b:=by
 intro e;subst e;rw[h] at h';cases h'
section
variable(P:Program)(w:World)
def ObjOk(H:Hp)(h:Heap)(a:Addr):HO->Prop
 | .lst xs=>xs.length<=oN/\∃(its:List Value) (n:Nat),Vals xs its/\h.get? a=some { cls:=.type "list",data:=.seq its.toArray n }
 | .tup xs=>xs.length<=oN/\∃ its:List Value,Vals xs its/\IsTup h a its.toArray
 | .dK kvs=>kvs.length<=oN/\(a == sysModules)=false/\∃ vs,KV kvs vs/\h.DictOf (Yf P w) a vs
 | .dT kvs=>kvs.length<=oN/\(a == sysModules)=false/\∃ xs:List (List Key × Addr × Value),
   Paired (fun(p:List Key × V) (q:List Key × Addr × Value)=>p.1=q.1/\H q.2.1=some (.tup (p.1.map kV))/\RelV p.2 q.2.2) kvs xs /\
   ∃ o es ep,h.get? a=some o/\o.ExactDict/\o.data=.dict es ep/\es.toList=xs.map (entryOfKey (tupleKind (Yf P w)))/\(xs.map (·.1)).Nodup
 | .set S n=>h.SetOf (intKind P w) a S n
 | .ins C dx fs=>H dx=some (.own a)/\fs.length<=1000/\dx≠a/\h.get? a=some (bZ C dx) /\
   ∃ mA,h.Ns1 dx mA/\(∀ f,RelO (fs.lookup f) (mA f))/\PySem.Within mA (fs.map (·.1))
 | .own _=>∃ o,h.get? a=some o
 | .xd fs=>∃ mA,h.Ns1 a mA/\∀ f,RelO (fs.lookup f) (mA f)
 | .rng lo hi=>∃ t u v,h.get? a=some { cls:=.type "range",data:=.fields #[.int lo t,.int hi u,.int 1 v] }
 | .frz o u=>h.get? a=some o/\ObjOk H h a u
 | .tbl ps=>h.get? a=some { cls:=.none,data:=.fields ps }
 | .met f x=>h.get? a=some (dO (.ref f) (.ref x))
 | .ext φ=>φ h/\(∃ o,h.get? a=some o)/\∀ h1 h2:Heap,φ h1->(∀ o,h1.get? a=some o->h2.get? a=some o)->φ h2
def HOk(H:Hp)(h:Heap):Prop:=∀ a o,H a=some o->ObjOk P w H h a o
end
section
variable{P:Program}{w:World}{H H':Hp}{h h':Heap}{a:Addr}{o:HO}
theorem ObjOk.lt(x:ObjOk P w H h a o):a<h.objs.size:=by
 cases o with
 | lst xs=>obtain⟨_,_,_,_,e⟩:=x;exact ay e
 | tup xs=>obtain⟨_,_,_,p⟩:=x;exact p.lt
 | dK kvs=>obtain⟨_,_,_,_,o,_,_,e,_⟩:=x;exact ay e
 | dT kvs=>obtain⟨_,_,_,_,o,_,_,e,_⟩:=x;exact ay e
 | set S n=>obtain⟨o,_,_,_,e,_⟩:=x;exact ay e
 | ins C dx fs=>obtain⟨_,_,_,e,_⟩:=x;exact ay e
 | own y=>obtain⟨_,e⟩:=x;exact ay e
 | xd fs=>obtain⟨_,⟨_,_,_,e,_⟩,_⟩:=x;exact ay e
 | rng lo hi=>obtain⟨_,_,_,e⟩:=x;exact ay e
 | frz ob u=>obtain⟨e,_⟩:=x;exact ay e
 | tbl ps=>exact ay (show h.get? a=some _ from x)
 | met f y=>exact ay (show h.get? a=some _ from x)
 | ext φ=>obtain⟨_,⟨_,e⟩,_⟩:=x;exact ay e
theorem Paired.mapP{α β:Type}{F G:α->β->Prop}:∀{l₁:List α} {l₂:List β},Paired F l₁ l₂->(∀ a b,F a b->G a b)->Paired G l₁ l₂
 | _,_,.nil,_=>.nil
 | _,_,.cons r t,f=>.cons (f _ _ r) (Paired.mapP t f)
theorem ObjOk.stay(x:ObjOk P w H h a o)(k:∀ b u,(b=a\/H b=some (.own a))->h.get? b=some u->h'.get? b=some u)
  (ho:∀ b,H b=some (.own a)->H' b=some (.own a)) (ht:∀ b xs,H b=some (.tup xs)->H' b=some (.tup xs)):ObjOk P w H' h' a o:=by
 induction o with
 | lst xs=>obtain⟨z,its,n,r,e⟩:=x;exact⟨z,its,n,r,k _ _ (.inl rfl) e⟩
 | tup xs=>obtain⟨z,its,r,ob,e,c⟩:=x;exact⟨z,its,r,ob,k _ _ (.inl rfl) e,c⟩
 | dK kvs=>obtain⟨z,y,vs,r,ob,es,ep,e,c⟩:=x;exact⟨z,y,vs,r,ob,es,ep,k _ _ (.inl rfl) e,c⟩
 | dT kvs =>
  obtain⟨z,y,xs,r,ob,es,ep,e,c⟩:=x
  exact⟨z,y,xs,Paired.mapP r fun p q z=>⟨z.1,ht _ _ z.2.1,z.2.2⟩,ob,es,ep,k _ _ (.inl rfl) e,c⟩
 | set S n=>obtain⟨ob,es,ep,t,e,c⟩:=x;exact⟨ob,es,ep,t,k _ _ (.inl rfl) e,c⟩
 | ins C dx fs =>
  obtain⟨d,z,ne,e,mA,⟨od,es,ep,e2,c⟩,r⟩:=x
  exact⟨ho _ d,z,ne,k _ _ (.inl rfl) e,mA,⟨od,es,ep,k _ _ (.inr d) e2,c⟩,r⟩
 | own y=>obtain⟨ob,e⟩:=x;exact⟨ob,k _ _ (.inl rfl) e⟩
 | xd fs=>obtain⟨mA,⟨od,es,ep,e,c⟩,r⟩:=x;exact⟨mA,⟨od,es,ep,k _ _ (.inl rfl) e,c⟩,r⟩
 | rng lo hi=>obtain⟨t,u,v,e⟩:=x;exact⟨t,u,v,k _ _ (.inl rfl) e⟩
 | frz ob u ih=>obtain⟨e,q⟩:=x;exact⟨k _ _ (.inl rfl) e,ih q⟩
 | tbl ps =>
  have e:h.get? a=some { cls:=.none,data:=.fields ps }:=x
  show h'.get? a=some { cls:=.none,data:=.fields ps }
  exact k a _ (.inl rfl) e
 | met f y =>
  have e:h.get? a=some (dO (.ref f) (.ref y)):=x
  show h'.get? a=some (dO (.ref f) (.ref y))
  exact k a _ (.inl rfl) e
 | ext φ=>obtain⟨p,⟨o,e⟩,st⟩:=x;exact⟨st _ _ p fun o q=>k _ _ (.inl rfl) q,⟨o,k _ _ (.inl rfl) e⟩,st⟩
theorem HOk.lt(x:HOk P w H h)(e:H a=some o):a<h.objs.size:=(x a o e).lt
theorem HOk.fresh(x:HOk P w H h)(e:h.objs.size<=a):H a=none:=by
 cases q:H a with
 | none=>rfl
 | some u=>exact absurd (aD (x.lt q) e) (cI _)
theorem HOk.kept(x:HOk P w H h)(k:∀ b u,h.get? b=some u->h'.get? b=some u):HOk P w H h':=fun a o e =>
 (x a o e).stay (fun b u _ q=>k b u q) (fun _ q=>q) fun _ _ q=>q
theorem HOk.laid(x:HOk P w H h)(k:∀ b u,h.get? b=some u->h'.get? b=some u)(hp:h.objs.size<=a)(new:ObjOk P w (upd H a o) h' a o):HOk P w (upd H a o) h':=fun b u e=>by
 have hn:=x.fresh hp
 by_cases hb:b=a
 ·subst hb;rw[zf] at e;cases e;exact new
 ·rw[zo hb] at e
  exact (x b u e).stay (fun c v _ q=>k c v q) (fun c q=>by rw[zo (zH q hn)];exact q) fun c xs q=>by rw[zo (zH q hn)];exact q
end
def Rd(H:Hp)(a:Addr)(u:HO):Prop:=H a=some u\/∃ o,H a=some (.frz o u)
theorem Rd.ok{P:Program}{w:World}{H:Hp}{h:Heap}{a:Addr}{u:HO}(r:Rd H a u)(x:HOk P w H h):ObjOk P w H h a u:=by
 rcases r with r | ⟨o,r⟩
 ·exact x a u r
 ·obtain⟨_,q⟩:=x a _ r
  exact q
def Mut:Option HO->Prop
 | some (.lst _)=>True
 | some (.dK _)=>True
 | some (.dT _)=>True
 | some (.set _ _)=>True
 | some (.ins _ _ _)=>True
 | some (.ext _)=>True
 | _=>False
section
variable{P:Program}{w:World}{H:Hp}{h h':Heap}{x e:Addr}{o':HO}
theorem HOk.write(ok:HOk P w H h)(mu:Mut (H x))(he:e=x\/H e=some (.own x))(k:∀ b u,b≠e->h.get? b=some u->h'.get? b=some u)(heo:∃ u,h'.get? e=some u)
  (new:ObjOk P w (upd H x o') h' x o'):HOk P w (upd H x o') h':=fun b u q=>by
 have nown:∀ c y,H c=some (.own y)->c≠x:=fun c y r z=>by subst z;rw[r] at mu;exact mu
 have ntup:∀ c xs,H c=some (.tup xs)->c≠x:=fun c xs r z=>by subst z;rw[r] at mu;exact mu
 by_cases hb:b=x
 ·subst hb;rw[zf] at q;cases q;exact new
 ·rw[zo hb] at q
  by_cases hbe:b=e
  ·have q':H b=some (.own x):=by
    rcases he with z | z
    ·exact absurd (hbe.trans z) hb
    ·rw[hbe];exact z
   rw[q] at q';cases q'
   obtain⟨v,hv⟩:=heo
   exact⟨v,by rw[hbe];exact hv⟩
  ·refine (ok b u q).stay (fun c v hc r=>k c v ?_ r) (fun c r=>by rw[zo (nown c b r)];exact r) fun c xs r=>by rw[zo (ntup c xs r)];exact r
   rcases hc with rfl | hc
   ·exact hbe
   ·rintro rfl
    rcases he with z | z
    ·exact nown c b hc z
    ·rw[hc] at z;cases z;exact hb rfl
end
structure Un(fs ex:List Addr)(H H':Hp)(h h':Heap):Prop where
 keep:∀ b o,h.get? b=some o->H b=none->b ∉ fs->b ∉ ex->h'.get? b=some o
 slot:∀ b o,h.get? b=some o->H b=none->b ∈ fs->b ∉ ex->∃ sl,h'.get? b=some { o with slots:=sl }
 free:∀ b o,h.get? b=some o->H b=none->b ∉ ex->H' b=none
 there:∀ b o,h.get? b=some o->b ∉ ex->∃ o',h'.get? b=some o'
 tups:∀ b xs,H b=some (.tup xs)->H' b=some (.tup xs)
 frzs:∀ b o u,H b=some (.frz o u)->H' b=some (.frz o u)
 tbls:∀ b ps,H b=some (.tbl ps)->∃ more,H' b=some (.tbl (ps ++ more))
section
variable{fs fs' ex ex':List Addr}{H H1 H2:Hp}{h h1 h2 h':Heap}{a x e:Addr}{o:HO}
theorem Un.any(u:Un fs ex H H1 h h1){b:Addr}{ob:Obj}(q:h.get? b=some ob)(n:H b=none)(hx:b ∉ ex):∃ sl,h1.get? b=some { ob with slots:=sl }:=by
 by_cases hb:b ∈ fs
 ·exact u.slot b ob q n hb hx
 ·exact⟨ob.slots,u.keep b ob q n hb hx⟩
theorem Un.kept(k:∀ b u,h.get? b=some u->h'.get? b=some u):Un fs ex H H h h' :=
 ⟨fun b ob q _ _ _=>k b ob q,fun b ob q _ _ _=>⟨ob.slots,k b ob q⟩,fun _ _ _ n _=>n,fun b ob q _=>⟨ob,k b ob q⟩,fun _ _ q=>q,fun _ _ _ q=>q,fun _ ps q=>⟨#[],by rw[q];simp⟩⟩
theorem Un.refl:Un fs ex H H h h:=Un.kept fun _ _ q=>q
theorem Un.laid(k:∀ b u,h.get? b=some u->h'.get? b=some u)(hp:h.objs.size<=a)(hn:H a=none):Un fs ex H (upd H a o) h h' where
 keep:=fun b u q _ _ _=>k b u q
 slot:=fun b u q _ _ _=>⟨u.slots,k b u q⟩
 free:=fun b u q n _=>by rw[zo (aE (aD (ay q) hp))];exact n
 there:=fun b u q _=>⟨u,k b u q⟩
 tups:=fun b xs q=>by rw[zo (zH q hn)];exact q
 frzs:=fun b u xs q=>by rw[zo (zH q hn)];exact q
 tbls:=fun b ps q=>⟨#[],by rw[zo (zH q hn),q];simp⟩
theorem Un.write(mu:Mut (H x))(he:e=x\/H e=some (.own x))(k:∀ b u,b≠e->h.get? b=some u->h'.get? b=some u)(heo:∃ u,h'.get? e=some u):Un fs ex H (upd H x o) h h':=by
 have hx:∀ b,H b=none->b≠x:=fun b n z=>by subst z;rw[n] at mu;exact mu
 have hb:∀ b,H b=none->b≠e:=fun b n z=>by
  subst z
  rcases he with r | r
  ·exact hx b n r
  ·rw[n] at r;cases r
 have hm:∀ b u,H b=some u->¬ Mut (some u)->b≠x:=fun b u q nm z=>by subst z;rw[q] at mu;exact nm mu
 refine⟨fun b u q n _ _=>k b u (hb b n) q,fun b u q n _ _=>⟨u.slots,k b u (hb b n) q⟩,fun b u q n _=>by rw[zo (hx b n)];exact n,fun b u q _=>?_,
  fun b xs q=>by rw[zo (hm b _ q fun z=>z)];exact q,fun b u xs q=>by rw[zo (hm b _ q fun z=>z)];exact q,fun b ps q=>⟨#[],by rw[zo (hm b _ q fun z=>z),q];simp⟩⟩
 by_cases hbe:b=e
 ·subst hbe;exact heo
 ·exact⟨u,k b u hbe q⟩
end
def trk(h:Heap)(H:Hp):List Addr:=(aY h.objs.size).filter fun a=>(H a).isSome
def W1(h:Heap)(H:Hp):Heap:=PySem.W.hideAll h (trk h H)
theorem Vy(h:Heap)(H:Hp):(W1 h H).objs.size=h.objs.size:=PySem.W.hideAll_size _ _
theorem Xc{h:Heap}{H:Hp}{b:Addr}{o:Obj}(e:h.get? b=some o)(n:H b=none):(W1 h H).get? b=some o :=
 PySem.W.hideAll_get _ e fun hm=>by
  have q:(H b).isSome=true:=(List.mem_filter.mp hm).2
  rw[n] at q;simp at q
theorem KQ{h:Heap}{H:Hp}{b:Addr}{o:Obj}(e:(W1 h H).get? b=some o):h.get? b=some o/\H b=none:=by
 have e':h.get? b=some o:=PySem.W.of_hideAll (trk h H) e
 refine⟨e',?_⟩
 cases q:H b with
 | none=>rfl
 | some x =>
  have hm:b ∈ trk h H:=List.mem_filter.mpr ⟨List.mem_range.mpr (ay e'),by simp [q]⟩
  have z:(W1 h H).get? b=none:=PySem.W.hideAll_none (trk h H) hm
  rw[z] at e;cases e
def JU(g h:Heap)(L:Addr):List (Addr × Obj):=(aY h.objs.size).filterMap fun a=>if a=L\/(g.get? a).isSome=true then none else (h.get? a).map fun o=>(a,o)
def rest(g h:Heap)(L d:Addr):List (Addr × Obj):=(JU g h L).filter fun p=>decide (p.1≠d)
end L2
namespace L2
structure Mod(K:oO)(mg:Str->Option Value)(base:Heap):Prop where
 kin:K.In base
 glob:base.Ns oK mg
 blt:∃ mb,base.Ns builtinsNs mb/\∀ x:Str,x≠"__name__"->mb x=bootBuiltins x
 nolimit:base.NoLimit
structure Cx where
 prog:Program
 w:World
 K:oO
 mg:Str->Option Value
 base:Heap
 A:Around
 N:List Str
 s₀:Shared
 H₀:Hp
 env:Env
 outer:List Env
 stack:List Env
 ex:List Addr
 fn:Str->Bool
 calm:Bool
 pn:List (Addr × Obj)
 xe:Value->Shared->Prop
def frs(l:List Env):List Addr:=l.filterMap (·.frame)
abbrev Cx.fs(X:Cx):List Addr:=frs X.outer
def Vis(sc:Scope)(x:Str):Prop:=sc.names.lookup x=some .local\/sc.names.lookup x=some .cell\/sc.names.lookup x=some .free
def Loc(sc:Scope)(x:Str):Prop:=sc.names.lookup x=some .local\/sc.names.lookup x=some .cell
def zc9(env:Env)(h:Heap)(m:Str->Option Value)(x:Str)(u:Value):Prop :=
 (env.kindOf x=some .local/\m x=some u)\/((env.kindOf x=some .cell\/env.kindOf x=some .free)/\∃ c,env.cells.lookup x=some c/\h.IsCell c (some u))
structure Cx.Ok(X:Cx):Prop where
 mod:Mod X.K X.mg X.base
 kind:X.env.scope.kind=.function
 glob:X.env.globals=oK
 blt:X.env.builtins=builtinsNs
 above:X.s₀.heap.objs.size<=X.env.locals
 inj:∀ x y c,X.env.cells.lookup x=some c->X.env.cells.lookup y=some c->x=y
 has:∀ x,(X.env.kindOf x=some .cell\/X.env.kindOf x=some .free)->∃ c,X.env.cells.lookup x=some c
 cab:∀ x c,X.fn x=true->X.env.cells.lookup x=some c->X.s₀.heap.objs.size<=c
 hd:X.calm=true->X.A.handled=none
 frames:X.A.frames=some X.stack
 stk:X.stack=X.outer\/(X.stack=X.env::X.outer/\X.env.frame=some X.env.locals)
 exf:∀ b ∈ X.ex,b≠X.env.locals/\∀ x c,X.env.cells.lookup x=some c->c≠b
 bs:∀ b o,X.base.get? b=some o->X.s₀.heap.get? b=some o/\X.H₀ b=none
 bsz:X.base.objs.size<=X.s₀.heap.objs.size
 noex:∀ b o,X.base.get? b=some o->b ∉ X.ex
 exfs:∀ b ∈ X.ex,b ∉ X.fs
 funs:X.s₀.heap.FunFrames X.base X.outer
 frf:∀ b ∈ X.fs,X.H₀ b=none
structure Inv(X:Cx)(pins:List (Addr × Obj))(σ:List (Option V))(H:Hp)(s:Shared):Prop where
 ok:X.Ok
 os:s.os=X.s₀.os
 bare:AllBare s.gens
 base:Un X.fs X.ex X.H₀ H X.s₀.heap s.heap
 loc:∃ m,s.heap.Ns X.env.locals m/\∀(i:Nat) (x:Str) (v:V),X.N[i]? = some x->σ[i]? = some (some v)->Vis X.env.scope x->∃ u,RelV v u/\zc9 X.env s.heap m x u
 cell:∀ x c,X.env.cells.lookup x=some c->∃ v,s.heap.IsCell c v
 free:H X.env.locals=none
 freeC:∀ x c,X.env.cells.lookup x=some c->H c=none
 pin:∀ p ∈ X.pn ++ pins,s.heap.get? p.1=some p.2/\H p.1=none/\p.1≠X.env.locals/\p.1 ∉ X.fs/\∀ v,p.2.data≠.cell v
 hok:HOk X.prog X.w H s.heap
 len:σ.length=X.N.length
section
variable{X:Cx}{pins:List (Addr × Obj)}{σ:List (Option V)}{H H':Hp}{s:Shared}{h':Heap}
theorem Cx.Ok.nofr(ok:X.Ok){b:Addr}{o:Obj}(e:X.base.get? b=some o):b ∉ X.fs:=fun hb=>by
 have:=(ok.funs.mem hb).1
 rw[e] at this;cases this
theorem Inv.bs(I:Inv X pins σ H s):∀ b o,X.base.get? b=some o->s.heap.get? b=some o/\H b=none:=fun b o e =>
 ⟨I.base.keep b o (I.ok.bs b o e).1 (I.ok.bs b o e).2 (I.ok.nofr e) (I.ok.noex b o e),I.base.free b o (I.ok.bs b o e).1 (I.ok.bs b o e).2 (I.ok.noex b o e)⟩
theorem Inv.bk(I:Inv X pins σ H s):∀ b o,X.base.get? b=some o->s.heap.get? b=some o:=fun b o e=>(I.bs b o e).1
theorem Inv.mod(I:Inv X pins σ H s):Mod X.K X.mg X.base:=I.ok.mod
theorem Inv.kIn(I:Inv X pins σ H s):X.K.In s.heap:=I.ok.mod.kin.keeps I.bk
theorem Inv.nolimit(I:Inv X pins σ H s):s.heap.NoLimit:=I.ok.mod.nolimit.keeps I.bk
theorem Inv.fr(I:Inv X pins σ H s):∃ m,Fr X.base X.env.locals s.heap m :=
 let ⟨m,hn,_⟩:=I.loc
 ⟨m,hn,I.bk,aO I.ok.bsz I.ok.above⟩
theorem Inv.lt(I:Inv X pins σ H s):X.env.locals<s.heap.objs.size:=let ⟨_,hn,_⟩:=I.loc;hn.lt
theorem Inv.sz(I:Inv X pins σ H s):X.s₀.heap.objs.size<=s.heap.objs.size:=aO I.ok.above (de I.lt)
theorem Inv.nofs(I:Inv X pins σ H s){a:Addr}(h:s.heap.objs.size<=a):a ∉ X.fs:=fun hb=>by
 obtain⟨_,o,ho,_⟩:=I.ok.funs.mem hb
 exact absurd (aD (ay ho) (aO I.sz h)) (cI _)
theorem Inv.cne(I:Inv X pins σ H s):∀ x c,X.env.cells.lookup x=some c->c≠X.env.locals:=fun x c e z=>by
 obtain⟨v,o,ho,hd⟩:=I.cell x c e
 obtain⟨m,⟨o',es,ep,ho',hd',_⟩,_⟩:=I.loc
 rw[z,ho'] at ho;cases ho;rw[hd'] at hd;cases hd
theorem Inv.funs(I:Inv X pins σ H s):s.heap.FunFrames X.base X.outer:=by
 have all:∀(l:List Env),(∀ b ∈ frs l,b ∈ X.fs)->X.s₀.heap.FunFrames X.base l->s.heap.FunFrames X.base l:=by
  intro l
  induction l with
  | nil=>intro _ _;trivial
  | cons env r ih =>
   intro hs hl
   obtain⟨hk,⟨L,o,hf,hn,ho,hd⟩,hr⟩:=hl
   have hL:L ∈ X.fs:=hs L (by unfold frs;rw[dB,hf];exact az)
   obtain⟨sl,e⟩:=I.base.slot L o ho (I.ok.frf L hL) hL fun z=>I.ok.exfs L z hL
   exact⟨hk,⟨L,_,hf,hn,e,hd⟩,ih (fun b hb=>hs b (by unfold frs;rw[dB,hf];exact aw _ hb)) hr⟩
 exact all X.outer (fun _ hb=>hb) I.ok.funs
theorem Inv.stack(I:Inv X pins σ H s):s.heap.FunFrames X.base X.stack:=by
 rcases I.ok.stk with e | ⟨e,hf⟩
 ·rw[e];exact I.funs
 ·rw[e]
  obtain⟨m,hn,_⟩:=I.loc
  refine .cons (by rw[I.ok.kind];decide) hf hn ?_ I.funs
  exact Heap.get?_none_of_le (aO I.ok.bsz I.ok.above)
theorem Inv.stkSub(I:Inv X pins σ H s):∀ b ∈ frs X.stack,b ∈ X.env.locals::X.fs:=fun b hb=>by
 rcases I.ok.stk with e | ⟨e,hf⟩
 ·rw[e] at hb;exact aw _ hb
 ·rw[e] at hb
  unfold frs at hb
  rw[dB,hf] at hb
  exact hb
theorem Inv.stkFree(I:Inv X pins σ H s):∀ b ∈ frs X.stack,H b=none:=fun b hb=>by
 rcases List.mem_cons.mp (I.stkSub b hb) with e | hb
 ·rw[e];exact I.free
 ·obtain⟨_,o,ho,_⟩:=I.ok.funs.mem hb
  exact I.base.free b o ho (I.ok.frf b hb) fun z=>I.ok.exfs b z hb
theorem Inv.step{g':Array GenState}{t':Nat}{d':Drawn}{ch:List Addr}(I:Inv X pins σ H s)
  (hch:∀ b ∈ ch,(b ∈ X.ex\/X.s₀.heap.objs.size<=b)/\b≠X.env.locals/\(∀ x c,X.env.cells.lookup x=some c->c≠b)/\∀ p ∈ X.pn ++ pins,p.1≠b)
  (keep:∀ b o,b≠X.env.locals->b ∉ X.fs->b ∉ ch->s.heap.get? b=some o->H b=none->h'.get? b=some o)
  (slot:∀ b o,b≠X.env.locals->b ∈ X.fs->b ∉ ch->s.heap.get? b=some o->H b=none->∃ sl,h'.get? b=some { o with slots:=sl }) (free:∀ b o,b ∉ ch->s.heap.get? b=some o->H b=none->H' b=none)
  (there:∀ b o,b ∉ ch->s.heap.get? b=some o->∃ o',h'.get? b=some o')
  (tups:∀ b xs,H b=some (.tup xs)->H' b=some (.tup xs)) (frzs:∀ b o u,H b=some (.frz o u)->H' b=some (.frz o u)) (tbls:∀ b ps,H b=some (.tbl ps)->∃ more,H' b=some (.tbl (ps ++ more)))
  (ns:∀ m,s.heap.Ns X.env.locals m->h'.Ns X.env.locals m) (hok:HOk X.prog X.w H' h') (hg:AllBare g') :
  Inv X pins σ H' { s with heap:=h',gens:=g',drawn:=d',toks:=t' }:=by
 have neL:∀ b o,X.s₀.heap.get? b=some o->b≠X.env.locals:=fun b o e=>aE (aD (ay e) I.ok.above)
 have neC:∀ b o,X.s₀.heap.get? b=some o->b ∉ X.ex->b ∉ ch:=fun b o e hx hb=>by
  rcases (hch b hb).1 with z | z
  ·exact hx z
  ·exact absurd (aD (ay e) z) (cI _)
 have cellK:∀ x c,X.env.cells.lookup x=some c->∀ v,s.heap.IsCell c v->h'.IsCell c v:=fun x c e v ⟨o,ho,hd⟩=>by
  have nch:c ∉ ch:=fun z=>(hch c z).2.2.1 x c e rfl
  by_cases hc:c ∈ X.fs
  ·obtain⟨sl,q⟩:=slot c o (I.cne x c e) hc nch ho (I.freeC x c e)
   exact⟨_,q,hd⟩
  ·exact⟨o,keep c o (I.cne x c e) hc nch ho (I.freeC x c e),hd⟩
 refine⟨I.ok,I.os,hg,⟨fun b o e n hb hx=>?_,fun b o e n hb hx=>?_,fun b o e n hx=>?_,fun b o e hx=>?_,fun b xs e=>tups b xs (I.base.tups b xs e),fun b o xs e=>frzs b o xs (I.base.frzs b o xs e),fun b ps e=>?_⟩,?_,fun x c e=>?_,?_,fun x c e=>?_,fun p hp=>?_,hok,I.len⟩
 ·exact keep b o (neL b o e) hb (neC b o e hx) (I.base.keep b o e n hb hx) (I.base.free b o e n hx)
 ·obtain⟨sl,e1⟩:=I.base.slot b o e n hb hx
  obtain⟨sl',e2⟩:=slot b _ (neL b o e) hb (neC b o e hx) e1 (I.base.free b o e n hx)
  exact⟨sl',e2⟩
 ·obtain⟨o',e1⟩:=I.base.there b o e hx
  exact free b o' (neC b o e hx) e1 (I.base.free b o e n hx)
 ·obtain⟨o',e1⟩:=I.base.there b o e hx
  exact there b o' (neC b o e hx) e1
 ·obtain⟨m1,e1⟩:=I.base.tbls b ps e
  obtain⟨m2,e2⟩:=tbls b _ e1
  exact⟨m1 ++ m2,by rw[e2,Array.append_assoc]⟩
 ·obtain⟨m,hn,hl⟩:=I.loc
  refine⟨m,ns m hn,fun i x v e1 e2 e3=>?_⟩
  obtain⟨u,r,l⟩:=hl i x v e1 e2 e3
  refine⟨u,r,?_⟩
  rcases l with l | ⟨k,c,e,z⟩
  ·exact .inl l
  ·exact .inr ⟨k,c,e,cellK x c e _ z⟩
 ·obtain⟨v,z⟩:=I.cell x c e
  exact⟨v,cellK x c e v z⟩
 ·obtain⟨m,⟨o,_,_,ho,_⟩,_⟩:=I.loc
  exact free _ o (fun z=>(hch _ z).2.1 rfl) ho I.free
 ·obtain⟨v,o,ho,hd⟩:=I.cell x c e
  exact free c o (fun z=>(hch c z).2.2.1 x c e rfl) ho (I.freeC x c e)
 ·obtain⟨e,n,ne,nf,d⟩:=I.pin p hp
  have nch:p.1 ∉ ch:=fun z=>(hch p.1 z).2.2.2 p hp rfl
  exact⟨keep p.1 p.2 ne nf nch e n,free p.1 p.2 nch e n,ne,nf,d⟩
theorem Inv.un{t':Nat}(I:Inv X pins σ H s)(u:Un X.fs [] H H' s.heap h')(hok:HOk X.prog X.w H' h'):Inv X pins σ H' { s with heap:=h',toks:=t' }:=by
 obtain⟨m,⟨o,es,ep,ho,r⟩,_⟩:=id I.loc
 obtain⟨sl,hL⟩:=u.any ho I.free (by simp)
 exact I.step (g':=s.gens) (d':=s.drawn) (ch:=[]) (fun _ z=>nomatch z) (fun b o _ hb _ e n=>u.keep b o e n hb (by simp)) (fun b o _ hb _ e n=>u.slot b o e n hb (by simp)) (fun b o _ e n=>u.free b o e n (by simp)) (fun b o _ e=>u.there b o e (by simp)) u.tups u.frzs u.tbls (fun m' hm=>by
  obtain⟨o',es',ep',ho',r'⟩:=hm
  rw[ho] at ho';cases ho'
  exact⟨_,es',ep',hL,r'⟩) hok I.bare
theorem Inv.call{g':Array GenState}{t':Nat}{d':Drawn}{ch:List Addr}(I:Inv X pins σ H s)(u:Un (frs X.stack) ch H H' s.heap h')(hok:HOk X.prog X.w H' h')(hg:AllBare g')
  (hch:∀ b ∈ ch,(b ∈ X.ex\/X.s₀.heap.objs.size<=b)/\b≠X.env.locals/\(∀ x c,X.env.cells.lookup x=some c->c≠b)/\∀ p ∈ X.pn ++ pins,p.1≠b) :
  Inv X pins σ H' { s with heap:=h',gens:=g',drawn:=d',toks:=t' }:=by
 obtain⟨m,⟨o,es,ep,ho,r⟩,_⟩:=id I.loc
 obtain⟨sl,hL⟩:=u.any ho I.free fun z=>(hch _ z).2.1 rfl
 exact I.step (ch:=ch) hch (fun b o hL hb hc e n=>u.keep b o e n (fun z=>(List.mem_cons.mp (I.stkSub b z)).elim hL hb) hc) (fun b o _ _ hc e n=>u.any e n hc) (fun b o hc e n=>u.free b o e n hc) (fun b o hc e=>u.there b o e hc) u.tups u.frzs u.tbls (fun m' hm=>by
  obtain⟨o',es',ep',ho',r'⟩:=hm
  rw[ho] at ho';cases ho'
  exact⟨_,es',ep',hL,r'⟩) hok hg
theorem Inv.turned{t':Nat}{it:Addr}(I:Inv X pins σ H s)(k:∀ b o,b≠it->s.heap.get? b=some o->h'.get? b=some o)(hn:H it=none)(hL:it≠X.env.locals)
  (h1:it ∈ X.ex\/X.s₀.heap.objs.size<=it) (h2:∀ x c,X.env.cells.lookup x=some c->c≠it) (h3:∀ p ∈ X.pn ++ pins,p.1≠it):Inv X pins σ H { s with heap:=h',toks:=t' }:=by
 have nit:∀ b u,H b=some u->b≠it:=fun b u e z=>by rw[z,hn] at e;cases e
 refine I.step (g':=s.gens) (d':=s.drawn) (ch:=[it]) (fun b hb=>?_) (fun b o _ _ hc e _=>k b o (fun z=>hc (by simp [z])) e) (fun b o _ _ hc e _=>⟨o.slots,k b o (fun z=>hc (by simp [z])) e⟩) (fun _ _ _ _ n=>n)
  (fun b o hc e=>⟨o,k b o (fun z=>hc (by simp [z])) e⟩) (fun _ _ e=>e) (fun _ _ _ e=>e) (fun b ps e=>⟨#[],by rw[e];simp⟩) (fun m hm=>?_) (fun b u e=>?_) I.bare
 ·have e:b=it:=by simpa using hb
  subst e
  exact⟨h1,hL,h2,h3⟩
 ·obtain⟨o,es,ep,ho,r⟩:=hm
  exact⟨o,es,ep,k _ o (Ne.symm hL) ho,r⟩
 ·refine (I.hok b u e).stay (fun c v hc q=>k c v ?_ q) (fun _ q=>q) fun _ _ q=>q
  rcases hc with z | z
  ·rw[z];exact nit b u e
  ·exact nit c _ z
theorem Inv.tok(I:Inv X pins σ H s)(t:Nat):Inv X pins σ H { s with toks:=t }:=I.un (h':=s.heap) (t':=t) Un.refl I.hok
theorem Inv.kept{t':Nat}(I:Inv X pins σ H s)(k:∀ b u,s.heap.get? b=some u->h'.get? b=some u):Inv X pins σ H { s with heap:=h',toks:=t' }:=I.un (Un.kept k) (I.hok.kept k)
theorem Inv.laid{a:Addr}{o:HO}{t':Nat}(I:Inv X pins σ H s)(k:∀ b u,s.heap.get? b=some u->h'.get? b=some u)(hp:s.heap.objs.size<=a)(new:ObjOk X.prog X.w (upd H a o) h' a o) :
  Inv X pins σ (upd H a o) { s with heap:=h',toks:=t' }:=I.un (Un.laid k hp (I.hok.fresh hp)) (I.hok.laid k hp new)
theorem Inv.write{x e:Addr}{o:HO}{t':Nat}(I:Inv X pins σ H s)(mu:Mut (H x))(he:e=x\/H e=some (.own x))(k:∀ b u,b≠e->s.heap.get? b=some u->h'.get? b=some u)(heo:∃ u,h'.get? e=some u)
  (new:ObjOk X.prog X.w (upd H x o) h' x o):Inv X pins σ (upd H x o) { s with heap:=h',toks:=t' }:=I.un (Un.write mu he k heo) (I.hok.write mu he k heo new)
theorem Inv.weak{σ':List (Option V)}(I:Inv X pins σ H s)(hl:σ'.length=σ.length)(w:∀(i:Nat) v,σ'[i]? = some (some v)->σ[i]? = some (some v)):Inv X pins σ' H s :=
 ⟨I.ok,I.os,I.bare,I.base,let ⟨m,hn,hl'⟩:=I.loc; ⟨m,hn,fun i x v e1 e2 e3=>hl' i x v e1 (w i v e2) e3⟩,I.cell,I.free,I.freeC,I.pin,I.hok,hl.trans I.len⟩
theorem Inv.pins_of{pins':List (Addr × Obj)}(I:Inv X pins σ H s)(h:∀ p ∈ pins',s.heap.get? p.1=some p.2/\H p.1=none/\p.1≠X.env.locals/\p.1 ∉ X.fs/\∀ v,p.2.data≠.cell v):Inv X pins' σ H s :=
 ⟨I.ok,I.os,I.bare,I.base,I.loc,I.cell,I.free,I.freeC,fun p hp=>(List.mem_append.mp hp).elim (fun z=>I.pin p (aR _ z)) (h p),I.hok,I.len⟩
theorem Xo{N:List Str}(hN:N.Nodup){i j:Nat}{x:Str}(a:N[i]? = some x)(b:N[j]? = some x):i=j:=by
 obtain⟨h1,e1⟩:=List.getElem?_eq_some_iff.mp a
 obtain⟨h2,e2⟩:=List.getElem?_eq_some_iff.mp b
 exact (List.getElem_inj hN).mp (e1.trans e2.symm)
theorem ZP{M:Model}{A:Around}{E:Value->Shared->Prop}{i:Nat}{x:Str}{v:V}{u:Value}{Q:Unit->Shared->Prop}(I:Inv X pins σ H s)(hN:X.N.Nodup)(hi:X.N[i]? = some x)(hx:Loc X.env.scope x)(r:RelV v u)
  (h:∀ s',Inv X pins (σ.set i (some v)) H s'->(∃ a,Heap.SameBut a s.heap s'.heap/\(a=X.env.locals\/X.env.cells.lookup x=some a))->Q () s') (hf:X.fn x=true\/X.env.scope.names.lookup x=some .local:=by first | exact .inl rfl | exact .inr rfl | assumption):wpAny M A (storeName X.env x u) Q E s:=by
 obtain⟨m,hn,hl⟩:=id I.loc
 have hcls:(X.env.scope.kind == .class || (X.env.scope.kind == .module && X.env.locals != X.env.globals))=false:=by rw[I.ok.kind];rfl
 have hiσ:i<σ.length:=by rw[I.len];exact (List.getElem?_eq_some_iff.mp hi).1
 have cne:=I.cne
 have tracked:∀{a:Addr} {h':Heap},(∃ o,s.heap.get? a=some o/\H a=none)->Heap.SameBut a s.heap h'->HOk X.prog X.w H h':=fun {a h'} ha hs b ob e=>by
  obtain⟨_,_,hfree⟩:=ha
  refine (I.hok b ob e).stay (fun c w' hc q=>(hs.2 c ?_).trans q) (fun _ q=>q) fun _ _ q=>q
  rintro rfl
  rcases hc with rfl | hc
  ·rw[hfree] at e;cases e
  ·rw[hfree] at hc;cases hc
 rcases hx with hk | hk
 ·refine wpAny_storeName_local hk hn (fun h' hn' hs=>?_) hcls
  obtain⟨oL,_,_,hoL,_⟩:=id hn
  refine h _ ⟨I.ok,I.os,I.bare,⟨fun b o e n hb hx=>?_,fun b o e n hb hx=>?_,I.base.free,fun b o e hx=>?_,I.base.tups,I.base.frzs,I.base.tbls⟩,⟨_,hn',fun j y v' e1 e2 e3=>?_⟩,fun y c e=>?_,I.free,I.freeC,fun p hp=>?_,tracked ⟨oL,hoL,I.free⟩ hs,by simpa using I.len⟩ ⟨_,hs,.inl rfl⟩
  ·exact (hs.2 b (aE (aD (ay e) I.ok.above))).trans (I.base.keep b o e n hb hx)
  ·obtain⟨sl,e1⟩:=I.base.slot b o e n hb hx
   exact⟨sl,(hs.2 b (aE (aD (ay e) I.ok.above))).trans e1⟩
  ·obtain⟨o',e1⟩:=I.base.there b o e hx
   exact⟨o',(hs.2 b (aE (aD (ay e) I.ok.above))).trans e1⟩
  ·by_cases hj:j=i
   ·subst hj
    rw[hi] at e1;cases e1
    rw[eG hiσ] at e2
    cases e2
    exact⟨u,r,.inl ⟨hk,by simp⟩⟩
   ·rw[eS (Ne.symm hj)] at e2
    obtain⟨u',r',q⟩:=hl j y v' e1 e2 e3
    refine⟨u',r',?_⟩
    rcases q with ⟨k,e⟩ | ⟨k,c,e,z⟩
    ·refine .inl ⟨k,?_⟩
     have:y≠x:=fun e=>hj (Xo hN e1 (e ▸ hi))
     simp [this,e]
    ·exact .inr ⟨k,c,e,z.sameBut hs (cne y c e)⟩
  ·obtain⟨w',z⟩:=I.cell y c e
   exact⟨w',z.sameBut hs (cne y c e)⟩
  ·obtain⟨e,n,ne,nf,d⟩:=I.pin p hp
   exact⟨(hs.2 p.1 ne).trans e,n,ne,nf,d⟩
 ·have hfn:X.fn x=true:=by
   rcases hf with z | z
   ·exact z
   ·rw[z] at hk;cases hk
  obtain⟨c,hc⟩:=I.ok.has x (.inl hk)
  obtain⟨w',z⟩:=I.cell x c hc
  refine wpAny_storeName_cell I.ok.kind hk hc z (fun h' hc' hs=>?_)
  obtain⟨oc,hoc,hocd⟩:=id z
  refine h { s with heap:=h' } ⟨I.ok,I.os,I.bare,⟨fun b o e n hb hx=>?_,fun b o e n hb hx=>?_,I.base.free,fun b o e hx=>?_,I.base.tups,I.base.frzs,I.base.tbls⟩,⟨m,hn.sameBut hs (Ne.symm (cne x c hc)),fun j y v' e1 e2 e3=>?_⟩,fun y c' e=>?_,I.free,I.freeC,fun p hp=>?_,tracked ⟨oc,hoc,I.freeC x c hc⟩ hs,by simpa using I.len⟩ ⟨c,hs,.inr hc⟩
  ·exact (hs.2 b (aE (aD (ay e) (I.ok.cab x c hfn hc)))).trans (I.base.keep b o e n hb hx)
  ·obtain⟨sl,e1⟩:=I.base.slot b o e n hb hx
   exact⟨sl,(hs.2 b (aE (aD (ay e) (I.ok.cab x c hfn hc)))).trans e1⟩
  ·obtain⟨o',e1⟩:=I.base.there b o e hx
   exact⟨o',(hs.2 b (aE (aD (ay e) (I.ok.cab x c hfn hc)))).trans e1⟩
  ·by_cases hj:j=i
   ·subst hj
    rw[hi] at e1;cases e1
    rw[eG hiσ] at e2
    cases e2
    exact⟨u,r,.inr ⟨.inl hk,c,hc,hc'⟩⟩
   ·rw[eS (Ne.symm hj)] at e2
    obtain⟨u',r',q⟩:=hl j y v' e1 e2 e3
    refine⟨u',r',?_⟩
    rcases q with q | ⟨k,c',e,z'⟩
    ·exact .inl q
    ·refine .inr ⟨k,c',e,z'.sameBut hs ?_⟩
     rintro rfl
     exact hj (Xo hN e1 (I.ok.inj _ _ _ e hc ▸ hi))
  ·by_cases hcc:c'=c
   ·subst hcc;exact⟨_,hc'⟩
   ·obtain⟨w2,z2⟩:=I.cell y c' e
    exact⟨w2,z2.sameBut hs hcc⟩
  ·obtain⟨e,n,ne,nf,d⟩:=I.pin p hp
   refine⟨(hs.2 p.1 ?_).trans e,n,ne,nf,d⟩
   intro q
   rw[q,hoc] at e
   have q':oc=p.2:=Option.some.inj e
   exact d w' (by rw[<- q'];exact hocd)
theorem Za{M:Model}{A:Around}{E:Value->Shared->Prop}{i:Nat}{x:Str}{v:V}{u:Value}{Q:Unit->Shared->Prop}(I:Inv X pins σ H s)(hN:X.N.Nodup)(hi:X.N[i]? = some x)(hx:Loc X.env.scope x)(r:RelV v u)
  (h:∀ s',Inv X pins (σ.set i (some v)) H s'->Q () s') (hf:X.fn x=true\/X.env.scope.names.lookup x=some .local:=by first | exact .inl rfl | exact .inr rfl | assumption):wpAny M A (storeName X.env x u) Q E s :=
 ZP I hN hi hx r (fun s' I' _=>h s' I') hf
theorem Inv.call'{s':Shared}{ch:List Addr}(I:Inv X pins σ H s)(ho:s'.os=s.os)(u:Un (frs X.stack) ch H H' s.heap s'.heap)(hok:HOk X.prog X.w H' s'.heap)(hg:AllBare s'.gens)
  (hch:∀ b ∈ ch,(b ∈ X.ex\/X.s₀.heap.objs.size<=b)/\b≠X.env.locals/\(∀ x c,X.env.cells.lookup x=some c->c≠b)/\∀ p ∈ X.pn ++ pins,p.1≠b):Inv X pins σ H' s':=by
 obtain⟨h',g',d',t',o'⟩:=s'
 have e:o'=s.os:=ho
 subst e
 exact I.call (g':=g') (t':=t') (d':=d') u hok hg hch
end
abbrev XK:=Value->Option Addr->Hp->Prop
abbrev St:=List (Option V)
abbrev VK:=V->Hp->Prop
abbrev TE:=St->Hp->VK->Prop
abbrev TT:=St->Hp->(Bool->Hp->Prop)->Prop
abbrev TA:=St->Hp->(List V->Hp->Prop)->Prop
structure vp where
 nx:St->Hp->Prop
 rt:VK
 bk:St->Hp->Prop:=fun _ _=>False
 ct:St->Hp->Prop:=fun _ _=>False
abbrev TS:=vp->St->Hp->Prop
def EP(X:Cx)(pins:List (Addr × Obj))(σ:St)(Q:VK)(u:Value)(s':Shared):Prop:=∃ v H',Inv X pins σ H' s'/\RelV v u/\Q v H'
def TP(X:Cx)(pins:List (Addr × Obj))(σ:St)(Q:Bool->Hp->Prop)(b:Bool)(s':Shared):Prop:=∃ H',Inv X pins σ H' s'/\Q b H'
def AP(X:Cx)(pins:List (Addr × Obj))(σ:St)(Q:List V->Hp->Prop)(us:List Value)(s':Shared):Prop:=∃ vs H',Inv X pins σ H' s'/\Vals vs us/\Q vs H'
def SP(X:Cx)(pins:List (Addr × Obj))(D:vp)(f:Flow)(s':Shared):Prop :=
 match f with
 | .next=>∃ σ' H',Inv X pins σ' H' s'/\D.nx σ' H'
 | .brk=>∃ σ' H',Inv X pins σ' H' s'/\D.bk σ' H'
 | .cont=>∃ σ' H',Inv X pins σ' H' s'/\D.ct σ' H'
 | .ret u=>∃ v σ' H',Inv X pins σ' H' s'/\RelV v u/\D.rt v H'
def PE(X:Cx)(e:Expr)(t:TE):Prop :=
 ∀(pins:List (Addr × Obj)) (s:Shared) (σ:St) (H:Hp) (Q:VK),Inv X pins σ H s->t σ H Q->wpAny (model X.prog X.w) X.A (eval e X.env) (EP X pins σ Q) X.xe s
def PT(X:Cx)(e:Expr)(t:TT):Prop :=
 ∀(pins:List (Addr × Obj)) (s:Shared) (σ:St) (H:Hp) (Q:Bool->Hp->Prop),Inv X pins σ H s->t σ H Q->wpAny (model X.prog X.w) X.A (isTrue e X.env (eval e X.env)) (TP X pins σ Q) X.xe s
def PW(X:Cx)(e:Expr)(t:TT):Prop :=
 ∀(whole:Sem Value) (pins:List (Addr × Obj)) (s:Shared) (σ:St) (H:Hp) (Q:Bool->Hp->Prop),Inv X pins σ H s->t σ H Q->wpAny (model X.prog X.w) X.A (isTrue e X.env whole) (TP X pins σ Q) X.xe s
theorem PW.pt{X:Cx}{e:Expr}{t:TT}(h:PW X e t):PT X e t:=h _
def PA(X:Cx)(es:List Expr)(t:TA):Prop :=
 ∀(pos:Pos) (pins:List (Addr × Obj)) (s:Shared) (σ:St) (H:Hp) (Q:List V->Hp->Prop),Inv X pins σ H s->t σ H Q->wpAny (model X.prog X.w) X.A (spliced (backTo pos (oM es X.env))) (AP X pins σ Q) X.xe s
def PS(X:Cx)(st:Stmt)(t:TS):Prop :=
 ∀(pins:List (Addr × Obj)) (s:Shared) (σ:St) (H:Hp) (D:vp),Inv X pins σ H s->t D σ H->wpAny (model X.prog X.w) X.A (exec st X.env) (SP X pins D) X.xe s
def PSs(X:Cx)(st:List Stmt)(t:TS):Prop :=
 ∀(pins:List (Addr × Obj)) (s:Shared) (σ:St) (H:Hp) (D:vp),Inv X pins σ H s->t D σ H->wpAny (model X.prog X.w) X.A (execs st X.env) (SP X pins D) X.xe s
theorem thn{α:Type}{t:Sem α}{Q Q':α->Shared->Prop}{M:Model}{A:Around}{E:Value->Shared->Prop}{s:Shared}(h:wpAny M A t Q E s)(hQ:∀ a s,Q a s->Q' a s):wpAny M A t Q' E s:=wpAny_mono h hQ fun _ _ x=>x
end L2
namespace L2
section
variable{X:Cx}
theorem bin{a b:Expr}{ta tb:TE}(ha:PE X a ta)(hb:PE X b tb){pins:List (Addr × Obj)}{s:Shared}{σ:St}{H:Hp}{R:V->V->Hp->Prop}(I:Inv X pins σ H s)(h:ta σ H fun x H1=>tb σ H1 fun y H2=>R x y H2)
  {α:Type} {Q:α->Shared->Prop} {f:Value->Value->Sem α}
  (hf:∀ v u s2 x y H2,Inv X pins σ H2 s2->RelV x v->RelV y u->R x y H2->wpAny (model X.prog X.w) X.A (f v u) Q X.xe s2) :
  wpAny (model X.prog X.w) X.A (eval a X.env) (fun v s₁=>wpAny (model X.prog X.w) X.A (eval b X.env) (fun u s₂=>wpAny (model X.prog X.w) X.A (f v u) Q X.xe s₂) X.xe s₁) X.xe s:=by
 refine thn (ha pins s σ H _ I h) fun v s1 ⟨x,H1,I1,r1,q1⟩=>?_
 refine thn (hb pins s1 σ H1 _ I1 q1) fun u s2 ⟨y,H2,I2,r2,q2⟩=>?_
 exact hf v u s2 x y H2 I2 r1 r2 q2
def xx(i:Nat):TE:=fun σ H Q=>∃ v,σ[i]? = some (some v)/\Q v H
def tC(v:V):TE:=fun _ H Q=>Q v H
theorem zai{i:Nat}{x:Str}{pos:Pos}(hN:X.N[i]? = some x)(hv:Vis X.env.scope x)(hd:(x == ("__debug__" : Str))=false:=by decide)(hcd:(x == ("__classdict__" : Str))=false:=by decide):PE X (.Name x pos) (xx i):=by
 intro pins s σ H Q I h
 obtain⟨v,e,h⟩:=h
 obtain⟨m,hn,hl⟩:=I.loc
 obtain⟨u,r,l⟩:=hl i x v hN e hv
 have fin:EP X pins σ Q u s:=⟨v,H,I,r,h⟩
 rcases l with ⟨hk,hm⟩ | ⟨hk,c,hc,hcell⟩
 ·exact wpAny_Name (wpAny_loadName_local I.ok.kind hk hn hm fin) hd
 ·rcases hk with hk | hk
  ·exact wpAny_Name (wpAny_loadName_cell I.ok.kind hk hc hcell fin) hd
  ·exact wpAny_Name (wpAny_loadName_free I.ok.kind hk hc hcell fin hcd) hd
theorem zg{i j pos}:PE X (.Constant (.int i) j pos) (tC (.int i)):=fun _ _ _ H _ I h=>wpAny_Constant_int ⟨.int i,H,I.tok _,⟨_,rfl⟩,h⟩
theorem xM{b j pos}:PE X (.Constant (.bool b) j pos) (tC (.bl b)):=fun _ _ _ H _ I h=>Constant_bool ⟨.bl b,H,I,rfl,h⟩
theorem wl{j pos}:PE X (.Constant .none j pos) (tC .non):=fun _ _ _ H _ I h=>Constant_none ⟨.non,H,I,rfl,h⟩
theorem xT{x j pos}:PE X (.Constant (.str x) j pos) (tC (.str x)):=fun _ _ _ H _ I h=>Calls.Constant_str ⟨.str x,H,I.tok _,⟨_,rfl⟩,h⟩
def Gl(X:Cx)(x:Str):Prop:=X.env.kindOf x=some .globalImplicit
theorem vA{E:Value->Shared->Prop}{pins:List (Addr × Obj)}{s:Shared}{σ:St}{H:Hp}{x:Str}{u:Value}{pos:Pos}{Q:Value->Shared->Prop}(I:Inv X pins σ H s)(hg:Gl X x)(hm:X.mg x=some u)(h:Q u s)
  (hd:(x == ("__debug__" : Str))=false:=by decide):wpAny (model X.prog X.w) X.A (eval (.Name x pos) X.env) Q E s :=
 Calls.Name_function_global I.ok.kind hg (Calls.loadGlobal_global (by rw[I.ok.glob];exact I.mod.glob.keeps I.bk) hm h) hd
theorem vn{E:Value->Shared->Prop}{pins:List (Addr × Obj)}{s:Shared}{σ:St}{H:Hp}{x:Str}{u:Value}{pos:Pos}{Q:Value->Shared->Prop}(I:Inv X pins σ H s)(hg:Gl X x)(hm:X.mg x=none)(hv:bootBuiltins x=some u)(h:Q u s)
  (hn:x≠"__name__":=by decide) (hd:(x == ("__debug__" : Str))=false:=by decide):wpAny (model X.prog X.w) X.A (eval (.Name x pos) X.env) Q E s:=by
 obtain⟨mb,h1,h2⟩:=I.mod.blt
 exact Calls.Name_function_global I.ok.kind hg (Calls.loadGlobal_builtin (by rw[I.ok.glob];exact I.mod.glob.keeps I.bk) hm (by rw[I.ok.blt];exact h1.keeps I.bk) ((h2 x hn).trans hv) h) hd
theorem xh{x:Str}{v:V}{u:Value}{pos:Pos}(hg:Gl X x)(hm:X.mg x=some u)(r:RelV v u)(hd:(x == ("__debug__" : Str))=false:=by decide):PE X (.Name x pos) (tC v) :=
 fun _ _ _ H _ I h=>vA I hg hm ⟨v,H,I,r,h⟩ hd
theorem J7{x:Str}{v:V}{u:Value}{pos:Pos}(hg:Gl X x)(hm:X.mg x=none)(hv:bootBuiltins x=some u)(r:RelV v u)(hn:x≠"__name__":=by decide)(hd:(x == ("__debug__" : Str))=false:=by decide):PE X (.Name x pos) (tC v) :=
 fun _ _ _ H _ I h=>vn I hg hm hv ⟨v,H,I,r,h⟩ hn hd
variable{a b:Expr}{ta tb:TE}{pos:Pos}
variable{tA tB':TT}{rest:List Expr}
def zcW(t u:TT):TT:=fun σ H Q=>t σ H fun c H1=>if c=true then u σ H1 Q else Q false H1
def tOr(t u:TT):TT:=fun σ H Q=>t σ H fun c H1=>if c=true then Q true H1 else u σ H1 Q
def zbx(t:TT):TT:=fun σ H Q=>t σ H fun c H1=>Q (!c) H1
theorem J6(ha:PT X a tA):PW X (.BoolOp .And [a] pos) tA:=by
 intro wh pins s σ H Q I h
 refine isTrue_and (thn (ha pins s σ H Q I h) fun c s1 e=>?_)
 cases c with
 | true=>exact isTrue_and_nil e
 | false=>exact e
theorem vB(ha:PT X a tA):PW X (.BoolOp .Or [a] pos) tA:=by
 intro wh pins s σ H Q I h
 refine isTrue_or (thn (ha pins s σ H Q I h) fun c s1 e=>?_)
 cases c with
 | false=>exact isTrue_or_nil e
 | true=>exact e
theorem zaN(ha:PT X a tA)(hb:PW X (.BoolOp .And (b::rest) pos) tB'):PW X (.BoolOp .And (a::b::rest) pos) (zcW tA tB'):=by
 intro wh pins s σ H Q I h
 refine isTrue_and (thn (ha pins s σ H _ I h) fun c s1 ⟨H1,I1,q1⟩=>?_)
 cases c with
 | true=>exact hb wh pins s1 σ H1 Q I1 q1
 | false=>exact⟨H1,I1,q1⟩
theorem uu(ha:PT X a tA)(hb:PW X (.BoolOp .Or (b::rest) pos) tB'):PW X (.BoolOp .Or (a::b::rest) pos) (tOr tA tB'):=by
 intro wh pins s σ H Q I h
 refine isTrue_or (thn (ha pins s σ H _ I h) fun c s1 ⟨H1,I1,q1⟩=>?_)
 cases c with
 | true=>exact⟨H1,I1,q1⟩
 | false=>exact hb wh pins s1 σ H1 Q I1 q1
theorem yn(ha:PT X a tA):PT X (.UnaryOp .Not a pos) (zbx tA):=by
 intro pins s σ H Q I h
 exact isTrue_not (ha pins s σ H (fun c H1=>Q (!c) H1) I h)
def zbi(ta tb:TE):TE:=fun σ H Q=>ta σ H fun x H1=>∃ c,x=.bl c/\if c=true then tb σ H1 Q else Q (.bl false) H1
def zdt(ta tb:TE):TE:=fun σ H Q=>ta σ H fun x H1=>∃ c,x=.bl c/\if c=true then Q (.bl true) H1 else tb σ H1 Q
def JY(ta:TE):TE:=fun σ H Q=>ta σ H fun x H1=>∃ c,x=.bl c/\Q (.bl (!c)) H1
theorem zaC{op}{t:TE}(h:PE X a t):PE X (.BoolOp op [a] pos) t:=fun pins s σ H Q I hw=>BoolOp_one (h pins s σ H Q I hw)
theorem zaQ(ha:PE X a ta)(hb:PE X (.BoolOp .And (b::rest) pos) tb):PE X (.BoolOp .And (a::b::rest) pos) (zbi ta tb):=by
 intro pins s σ H Q I h
 refine BoolOp_and (thn (ha pins s σ H _ I h) fun v s1 ⟨x,H1,I1,r1,q1⟩=>?_)
 obtain⟨c,rfl,q1⟩:=q1
 cases r1
 refine wpAny_truthy_bool ?_
 cases c with
 | true=>exact hb pins s1 σ H1 Q I1 q1
 | false=>exact⟨.bl false,H1,I1,rfl,q1⟩
theorem Jj(ha:PE X a ta):PE X (.UnaryOp .Not a pos) (JY ta):=by
 intro pins s σ H Q I h
 refine UnaryOp_ (thn (ha pins s σ H _ I h) fun v s1 ⟨x,H1,I1,r1,q1⟩=>?_)
 obtain⟨c,rfl,q1⟩:=q1
 cases r1
 exact not_of (wpAny_truthy_bool ⟨.bl (!c),H1,I1,rfl,q1⟩)
def tIf(t:TT)(ta tb:TE):TE:=fun σ H Q=>t σ H fun c H1=>if c=true then ta σ H1 Q else tb σ H1 Q
theorem kF{c:Expr}(hc:PT X c tA)(ha:PE X a ta)(hb:PE X b tb):PE X (.IfExp c a b pos) (tIf tA ta tb):=by
 intro pins s σ H Q I h
 refine wpAny_IfExp (thn (hc pins s σ H _ I h) fun d s1 ⟨H1,I1,q1⟩=>?_)
 cases d with
 | true=>exact ha pins s1 σ H1 Q I1 q1
 | false=>exact hb pins s1 σ H1 Q I1 q1
end
end L2
namespace L2
def SqL(K:oO)(H:Hp)(a:Addr)(xs:List V):Prop :=
 Rd H a (.lst xs) \/
  ∃(o:Obj) (its:Array Value) (n:Nat),K.lookup a=some o/\o.cls=.type "list"/\o.dict=none/\o.data=.seq its n/\its.size<=oN/\Vals xs its.toList
def SqT(K:oO)(H:Hp)(a:Addr)(xs:List V):Prop :=
 Rd H a (.tup xs) \/
  ∃(o:Obj) (its:Array Value) (n:Nat),K.lookup a=some o/\o.cls=.type "tuple"/\o.data=.seq its n/\its.size<=oN/\Vals xs its.toList
def zc8:Value->Option V
 | .none=>some .non
 | .bool b=>some (.bl b)
 | .int i _=>some (.int i)
 | .str x _=>some (.str x)
 | .bytes b _=>some (.byt b)
 | .float b _=>some (.flt b)
 | .ref a=>some (.ref a)
 | .type n=>some (.ty n)
 | _=>none
theorem RelV.abs{x:V}{u:Value}(r:RelV x u):zc8 u=some x:=by
 cases x with
 | non=>cases r;rfl
 | bl _=>cases r;rfl
 | int _=>obtain⟨t,rfl⟩:=r;rfl
 | str _=>obtain⟨t,rfl⟩:=r;rfl
 | byt _=>obtain⟨t,rfl⟩:=r;rfl
 | flt _=>obtain⟨t,rfl⟩:=r;rfl
 | ref _=>cases r;rfl
 | ty _=>cases r;rfl
theorem RelV.inj{x y:V}{u:Value}(r:RelV x u)(q:RelV y u):x=y:=Option.some.inj (r.abs.symm.trans q.abs)
theorem Vals.inj:∀{xs ys:List V} {us:List Value},Vals xs us->Vals ys us->xs=ys
 | _,_,_,.nil,.nil=>rfl
 | _,_,_,.cons r t,.cons r' t'=>by rw[r.inj r',Vals.inj t t']
section
variable{X:Cx}{pins:List (Addr × Obj)}{σ:St}{H:Hp}{s:Shared}{a:Addr}{xs ys:List V}
theorem SqL.of{K:oO}(h:H a=some (.lst xs)):SqL K H a xs:=.inl (.inl h)
theorem SqT.of{K:oO}(h:H a=some (.tup xs)):SqT K H a xs:=.inl (.inl h)
theorem Inv.list(I:Inv X pins σ H s)(h:SqL X.K H a xs):∃ its:List Value,Vals xs its/\PlainL s.heap a its.toArray/\xs.length<=oN:=by
 rcases h with h | ⟨o,its,n,hk,hc,hd,hs,hz,r⟩
 ·obtain⟨z,its,n,r,e⟩:=h.ok I.hok
  exact⟨its,r,⟨_,n,e,rfl,rfl,rfl⟩,z⟩
 ·refine⟨its.toList,r,⟨o,n,I.kIn a o hk,hc,hd,by simpa using hs⟩,?_⟩
  have e:=r.length
  simp only[dC] at e
  omega
theorem Inv.tuple(I:Inv X pins σ H s)(h:SqT X.K H a xs):∃ its:List Value,Vals xs its/\IsTup s.heap a its.toArray/\xs.length<=oN:=by
 rcases h with h | ⟨o,its,n,hk,hc,hs,hz,r⟩
 ·obtain⟨z,its,r,p⟩:=h.ok I.hok
  exact⟨its,r,p,z⟩
 ·refine⟨its.toList,r,⟨o,I.kIn a o hk,hc,n,by simpa using hs⟩,?_⟩
  have e:=r.length
  simp only[dC] at e
  omega
theorem Inv.list_inj(I:Inv X pins σ H s)(h:SqL X.K H a xs)(h':SqL X.K H a ys):xs=ys:=by
 obtain⟨its,r,⟨o,n,e,_,_,d⟩,_⟩:=I.list h
 obtain⟨its',r',⟨o',n',e',_,_,d'⟩,_⟩:=I.list h'
 rw[e] at e';cases e'
 rw[d] at d'
 injection d' with d1 _
 have:its=its':=by simpa using congrArg Array.toList d1
 subst this
 exact r.inj r'
theorem Inv.tuple_inj(I:Inv X pins σ H s)(h:SqT X.K H a xs)(h':SqT X.K H a ys):xs=ys:=by
 obtain⟨its,r,⟨o,e,_,n,d⟩,_⟩:=I.tuple h
 obtain⟨its',r',⟨o',e',_,n',d'⟩,_⟩:=I.tuple h'
 rw[e] at e';cases e'
 rw[d] at d'
 injection d' with d1 _
 have:its=its':=by simpa using congrArg Array.toList d1
 subst this
 exact r.inj r'
end
abbrev Cx.wish(X:Cx)(E:Value->Shared->Prop):Cx:={ X with xe:=E }
abbrev Cx.nox(X:Cx):Cx:=X.wish fun _ _=>False
theorem Cx.Ok.wish{X:Cx}(ok:X.Ok)(E:Value->Shared->Prop):(X.wish E).Ok :=
 ⟨ok.mod,ok.kind,ok.glob,ok.blt,ok.above,ok.inj,ok.has,ok.cab,ok.hd,ok.frames,ok.stk,ok.exf,ok.bs,ok.bsz,ok.noex,ok.exfs,ok.funs,ok.frf⟩
theorem Cx.Ok.unwish{X:Cx}{E:Value->Shared->Prop}(ok:(X.wish E).Ok):X.Ok :=
 ⟨ok.mod,ok.kind,ok.glob,ok.blt,ok.above,ok.inj,ok.has,ok.cab,ok.hd,ok.frames,ok.stk,ok.exf,ok.bs,ok.bsz,ok.noex,ok.exfs,ok.funs,ok.frf⟩
section
variable{X:Cx}{pins:List (Addr × Obj)}{σ:St}{H:Hp}{s:Shared}{E:Value->Shared->Prop}
theorem Inv.wish(I:Inv X pins σ H s)(E:Value->Shared->Prop):Inv (X.wish E) pins σ H s:=⟨I.ok.wish E,I.os,I.bare,I.base,I.loc,I.cell,I.free,I.freeC,I.pin,I.hok,I.len⟩
theorem Inv.unwish(I:Inv (X.wish E) pins σ H s):Inv X pins σ H s:=⟨I.ok.unwish,I.os,I.bare,I.base,I.loc,I.cell,I.free,I.freeC,I.pin,I.hok,I.len⟩
theorem SP.unwish{D:vp}{f:Flow}{s':Shared}(h:SP (X.wish E) pins D f s'):SP X pins D f s':=by
 cases f with
 | next=>obtain⟨σ',H',I,q⟩:=h;exact⟨σ',H',I.unwish,q⟩
 | brk=>obtain⟨σ',H',I,q⟩:=h;exact⟨σ',H',I.unwish,q⟩
 | cont=>obtain⟨σ',H',I,q⟩:=h;exact⟨σ',H',I.unwish,q⟩
 | ret u=>obtain⟨v,σ',H',I,r,q⟩:=h;exact⟨v,σ',H',I.unwish,r,q⟩
theorem PSs.nox{st:List Stmt}{t:TS}(h:PSs X.nox st t):PSs X st t:=fun pins s σ H D I hw =>
 wpAny_mono (h pins s σ H D (I.wish _) hw) (fun _ _ q=>q.unwish) fun _ _ z=>False.elim z
end
section
variable{X:Cx}{st:Stmt}{rest:List Stmt}{t u:TS}{e:Expr}{te:TE}{pos:Pos}
def zax:TS:=fun D σ H=>D.nx σ H
def zcN(t u:TS):TS:=fun D σ H=>t { D with nx:=u D } σ H
theorem zD:PSs X [] zax:=fun _ _ σ H _ I h=>wpAny_execs_nil ⟨σ,H,I,h⟩
theorem zN(h1:PS X st t)(h2:PSs X rest u):PSs X (st::rest) (zcN t u):=by
 intro pins s σ H D I h
 refine wpAny_execs_cons (thn (h1 pins s σ H { D with nx:=u D } I h) fun f s1 q=>?_)
 cases f with
 | next =>
  obtain⟨σ',H',I',q⟩:=q
  exact h2 pins s1 σ' H' D I' q
 | ret v=>exact q
 | brk=>exact q
 | cont=>exact q
theorem zh(h1:PS X st t):PSs X [st] t:=by
 intro pins s σ H D I h
 refine wpAny_execs_cons (thn (h1 pins s σ H D I h) fun f s1 q=>?_)
 cases f with
 | next=>exact wpAny_execs_nil q
 | ret v=>exact q
 | brk=>exact q
 | cont=>exact q
def za6:TS:=fun D σ H=>D.bk σ H
def zb3:TS:=fun D σ H=>D.ct σ H
theorem Inv.quiet{pins:List (Addr × Obj)}{σ:St}{H:Hp}{s:Shared}(I:Inv X pins σ H s):interactive X.env=false:=by simp [interactive,I.ok.kind]
def zaW(te:TE):TS:=fun D σ H=>te σ H fun _ H1=>D.nx σ H1
theorem xJ(he:PE X e te)(hs:swapsWith e none pos.line X.env=pure false:=by rfl):PS X (.Expr e pos) (zaW te):=by
 intro pins s σ H D I h
 exact wpAny_Expr_any (thn (he pins s σ H _ I h) fun v s1 ⟨x,H1,I1,r1,q1⟩=>⟨σ,H1,I1,q1⟩) I.quiet hs
def zbA(te:TE):TS:=fun D σ H=>te σ H D.rt
theorem zx(he:PE X e te):PS X (.Return (some e) pos) (zbA te):=by
 intro pins s σ H D I h
 exact wpAny_Return_some (thn (he pins s σ H _ I h) fun v s1 ⟨x,H1,I1,r1,q1⟩=>⟨x,σ,H1,I1,r1,q1⟩)
def zcy:TS:=fun D _ H=>D.rt .non H
def zcZ(c:TT)(t u:TS):TS:=fun D σ H=>c σ H fun b H1=>if b=true then t D σ H1 else u D σ H1
theorem ya{c:Expr}{a b:List Stmt}{tc:TT}(hc:PT X c tc)(ha:PSs X a t)(hb:PSs X b u):PS X (.If c a b pos) (zcZ tc t u):=by
 intro pins s σ H D I h
 refine wpAny_If (thn (hc pins s σ H _ I h) fun d s1 ⟨H1,I1,q1⟩=>?_)
 cases d with
 | true=>exact ha pins s1 σ H1 D I1 q1
 | false=>exact hb pins s1 σ H1 D I1 q1
end
abbrev TG:=V->St->Hp->(St->Hp->Prop)->Prop
abbrev TGs:=List V->St->Hp->(St->Hp->Prop)->Prop
def PG(X:Cx)(target:Expr)(t:TG):Prop :=
 ∀(pins:List (Addr × Obj)) (s:Shared) (σ:St) (H:Hp) (v:V) (u:Value) (Q:St->Hp->Prop),Inv X pins σ H s->RelV v u->t v σ H Q ->
  wpAny (model X.prog X.w) X.A (assign target X.env u) (fun _ s'=>∃ σ' H',Inv X pins σ' H' s'/\Q σ' H') X.xe s
def PGs(X:Cx)(ts:List Expr)(t:TGs):Prop :=
 ∀(pins:List (Addr × Obj)) (s:Shared) (σ:St) (H:Hp) (vs:List V) (us:List Value) (Q:St->Hp->Prop),Inv X pins σ H s->Vals vs us->t vs σ H Q ->
  wpAny (model X.prog X.w) X.A (assignInOrder ((assignEach ts X.env).map (·.2)) us) (fun _ s'=>∃ σ' H',Inv X pins σ' H' s'/\Q σ' H') X.xe s
abbrev zcj:=V->V->V->Hp->(Hp->Prop)->Prop
def zc0(X:Cx)(t:zcj):Prop :=
 ∀(pins:List (Addr × Obj)) (s:Shared) (σ:St) (H:Hp) (o i v:V) (ov iv u:Value) (Q:Hp->Prop),Inv X pins σ H s->RelV o ov->RelV i iv->RelV v u->t o i v H Q ->
  wpAny (model X.prog X.w) X.A (setItem ov iv u) (fun _ s'=>∃ H',Inv X pins σ H' s'/\Q H') X.xe s
section
variable{X:Cx}{pos:Pos}
def xA(i:Nat):TG:=fun v σ H Q=>Q (σ.set i (some v)) H
theorem zC{i:Nat}{x:Str}(hN:X.N.Nodup)(hi:X.N[i]? = some x)(hx:Loc X.env.scope x)(hf:X.fn x=true\/X.env.scope.names.lookup x=some .local:=by first | exact .inl rfl | exact .inr rfl | assumption):PG X (.Name x pos) (xA i):=by
 intro pins s σ H v u Q I r h
 exact wpAny_assign_Name (Za I hN hi hx r (fun s' I'=>⟨_,H,I',h⟩) hf)
def zad:TGs:=fun vs σ H Q=>vs=[]/\Q σ H
def km(t:TG)(u:TGs):TGs:=fun vs σ H Q=>∃ v r,vs=v::r/\t v σ H fun σ' H'=>u r σ' H' Q
theorem wT:PGs X [] zad:=by
 intro pins s σ H vs us Q I r h
 obtain⟨e,h⟩:=h
 subst e
 cases r
 exact assignInOrder_nil ⟨σ,H,I,h⟩
theorem z8{e:Expr}{es:List Expr}{t:TG}{u:TGs}(h1:PG X e t)(h2:PGs X es u)
  (hs:(assignEach (e::es) X.env).map (·.2)=assign e X.env::(assignEach es X.env).map (·.2):=by rfl):PGs X (e::es) (km t u):=by
 intro pins s σ H vs us Q I r h
 obtain⟨v,vr,e1,h⟩:=h
 subst e1
 cases r with
 | cons r rr =>
  rw[hs]
  refine assignInOrder_cons (thn (h1 pins s σ H _ _ _ I r h) fun _ s1 ⟨σ1,H1,I1,q1⟩=>?_)
  exact h2 pins s1 σ1 H1 _ _ Q I1 rr q1
def K8(K:oO)(n:Nat)(t:TGs):TG:=fun v σ H Q=>∃ a xs,v=.ref a/\SqT K H a xs/\xs.length=n/\t xs σ H Q
theorem uC{es:List Expr}{k:Nat}{t:TGs}{n:Nat}(hc:X.calm=true)(h:PGs X es t)
  (hn:(assignEach es X.env).length=n:=by rfl) (hst:(assignEach es X.env).findIdx? (·.1)=none:=by rfl):PG X (.Tuple es k pos) (K8 X.K n t):=by
 intro pins s σ H v u Q I r hw
 obtain⟨a,xs,e1,hq,hl,hw⟩:=hw
 subst e1
 cases r
 obtain⟨its,rv,ht,hz⟩:=I.tuple hq
 refine assign_Tuple_tuple (I.ok.hd hc) ht (by simp [hn,<- hl,rv.length]) hst fun h' hx=>?_
 have I1:Inv X pins σ H { s with heap:=h' }:=I.kept (t':=s.toks) fun b o e=>hx b o (aE (ay e)) e
 exact h pins _ σ H xs _ Q I1 (by simpa using rv) hw
def zcT(to ti:TE)(t:zcj):TG:=fun v σ H Q=>to σ H fun o H1=>ti σ H1 fun i H2=>t o i v H2 fun H3=>Q σ H3
theorem zbh{o i:Expr}{to ti:TE}{t:zcj}(ho:PE X o to)(hi:PE X i ti)(hs:zc0 X t)
  (ha:∀ v,assign (.Subscript o i pos) X.env v=(do
   let ov <- holding [v] (eval o X.env)
   let iv <- holding [v,ov] (eval i X.env)
   standAt pos
   holding [v,ov,iv] (setItem ov iv v)
   release [v,ov,iv] []):=by intro _;rfl):PG X (.Subscript o i pos) (zcT to ti t):=by
 intro pins s σ H v u Q I r h
 rw[ha]
 refine oH (wpAny_holding (thn (ho pins s σ H _ I h) fun ov s1 ⟨x,H1,I1,r1,q1⟩=>?_))
 refine oH (wpAny_holding (thn (hi pins s1 σ H1 _ I1 q1) fun iv s2 ⟨y,H2,I2,r2,q2⟩=>?_))
 refine oH (wpAny_standAt (oH (wpAny_holding (thn (hs pins s2 σ H2 x y v ov iv u _ I2 r1 r2 r q2) fun _ s3 ⟨H3,I3,q3⟩=>?_))))
 exact wpAny_release ⟨σ,H3,I3,q3⟩
def zcu(te:TE)(g:TG):TS:=fun D σ H=>te σ H fun x H1=>g x σ H1 D.nx
theorem Q1{tg e:Expr}{te:TE}{g:TG}(he:PE X e te)(hg:PG X tg g)(hs:swapsWithSole [tg] e pos.line X.env=pure false:=by rfl)(hw:swappedStores [tg] e X.env=pure none:=by rfl)
  (h1:(assignEach [tg] X.env).map (·.2)=[assign tg X.env]:=by rfl):PS X (.Assign [tg] e pos) (zcu te g):=by
 intro pins s σ H D I h
 refine wpAny_Assign_stores (thn (he pins s σ H _ I h) fun v s1 ⟨x,H1,I1,r1,q1⟩=>?_) hs hw
 rw[h1]
 exact thn (hg pins s1 σ H1 x v _ I1 r1 q1) fun _ s2 q=>q
theorem zt{i:Nat}{x:Str}{e:Expr}{te:TE}{pos':Pos}(hN:X.N.Nodup)(hi:X.N[i]? = some x)(hx:Loc X.env.scope x)(he:PE X e te)(hs:swapsWith e (some (.Name x pos')) pos.line X.env=pure false:=by rfl)(hf:X.fn x=true\/X.env.scope.names.lookup x=some .local:=by first | exact .inl rfl | exact .inr rfl | assumption) :
  PS X (.Assign [.Name x pos'] e pos) (zcu te (xA i)):=by
 intro pins s σ H D I h
 refine wpAny_Assign_Name (thn (he pins s σ H _ I h) fun v s1 ⟨y,H1,I1,r1,q1⟩=>?_) hs
 exact Za I1 hN hi hx r1 (fun s2 I2=>⟨_,H1,I2,q1⟩) hf
def zdk(i j:Nat)(ta:TA):TS:=fun D σ H=>ta σ H fun vs H1=>∃ v w,vs=[v,w]/\D.nx ((σ.set i (some v)).set j (some w)) H1
end
section
variable{X:Cx}{pos:Pos}
def Y2(c:TT)(tb:TS):TS:=fun D σ H=>∃ W:Nat->St->Hp->Prop,(∃ m,W m σ H)/\∀ m σ H,W m σ H ->
 c σ H fun b H1=>if b=true then ∃ N:St->Hp->Prop,(∀ σ' H',N σ' H'->∃ m',m'<m/\W m' σ' H')/\tb { D with nx:=N,ct:=N,bk:=D.nx } σ H1 else D.nx σ H1
theorem kH{c:Expr}{body:List Stmt}{tc:TT}{tb:TS}(hp:PassesOwn (model X.prog X.w) X.A X.env X.xe)(hc:PT X c tc)(hb:PSs X body tb):PS X (.While c body [] pos) (Y2 tc tb):=by
 intro pins s σ H D I h
 obtain⟨W,⟨m0,w0⟩,turn⟩:=h
 refine wpAny_While (codeAny_whileLoop (fun n s'=>∃ σ' H',Inv X pins σ' H' s'/\W n σ' H') ?_ m0 ⟨σ,H,I,w0⟩)
 rintro n s1 ⟨σ1,H1,I1,w1⟩
 refine wpAny_passesOwn hp (thn (hc pins s1 σ1 H1 _ I1 (turn n σ1 H1 w1)) fun b s2 ⟨H2,I2,q2⟩=>?_)
 cases b with
 | true =>
  obtain⟨N,hN,q2⟩:=q2
  rw[if_pos rfl]
  refine wpAny_passesOwn hp (thn (hb pins s2 σ1 H2 _ I2 q2) fun f s3 q3=>?_)
  cases f with
  | next =>
   obtain⟨σ3,H3,I3,n3⟩:=q3
   obtain⟨m',hm,w3⟩:=hN σ3 H3 n3
   exact⟨m',hm,σ3,H3,I3,w3⟩
  | cont =>
   obtain⟨σ3,H3,I3,n3⟩:=q3
   obtain⟨m',hm,w3⟩:=hN σ3 H3 n3
   exact⟨m',hm,σ3,H3,I3,w3⟩
  | brk=>exact q3
  | ret v=>exact q3
 | false =>
  rw[if_neg aF]
  exact wpAny_execs_nil ⟨σ1,H2,I2,q2⟩
end
structure It where
 go:Nat->Hp->Prop
 yld:Nat->Hp->V->Hp->Prop
 stop:Nat->Hp->Prop
def wa(X:Cx)(pins:List (Addr × Obj))(H:Hp)(b:Addr):Prop :=
 H b=none/\b≠X.env.locals/\b ∉ X.fs/\(b ∈ X.ex\/X.s₀.heap.objs.size<=b)/\(∀ x c,X.env.cells.lookup x=some c->c≠b)/\∀ p ∈ X.pn ++ pins,p.1≠b
theorem Inv.fpOk{X:Cx}{pins:List (Addr × Obj)}{σ:St}{H H':Hp}{s:Shared}{b:Addr}(I:Inv X pins σ H s)(hb:s.heap.objs.size<=b)(hn:H' b=none):wa X pins H' b:=by
 refine⟨hn,cb (aD I.lt hb),I.nofs hb,.inr (aO I.sz hb),fun x c e z=>?_,fun p hp z=>?_⟩
 ·obtain⟨v,q⟩:=I.cell x c e
  exact absurd (aD q.lt (by rw[z];exact hb)) (cI _)
 ·exact absurd (aD (ay (I.pin p hp).1) (by rw[z];exact hb)) (cI _)
structure UB(P:Program)(w:World)(K:oO)(tg:Expr)(J:It)(fp:List Addr)(it:Addr)(tn:Nat->Heap->Prop):Prop where
 mem:it ∈ fp
 obj:∀ i h,tn i h->∀ b ∈ fp,∃ o,h.get? b=some o/\∀ v,o.data≠.cell v
 keep:∀ i h h',tn i h->(∀ b ∈ fp,∀ o,h.get? b=some o->h'.get? b=some o)->tn i h'
 item:∀(X:Cx),X.prog=P->X.w=w->X.K=K->X.calm=true->∀(i:Nat) (pins:List (Addr × Obj)) (s:Shared) (σ:St) (H:Hp) (E:Value->Shared->Prop),Inv X pins σ H s->(∀ b ∈ fp,wa X pins H b)->tn i s.heap->J.go i H ->
  wpAny (model P w) X.A (pyNext (.ref it)) (fun r s1=>∃ u,r=some u /\
   wpAny (model P w) X.A (letOwnedTupleGo tg (.ref it) u) (fun _ s2=>∃ x H',Inv X pins σ H' s2/\RelV x u/\J.yld i H x H'/\tn (i+1) s2.heap/\∀ b ∈ fp,H' b=none) E s1) E s
 done:∀(X:Cx),X.prog=P->X.w=w->X.K=K->X.calm=true->∀(i:Nat) (pins:List (Addr × Obj)) (s:Shared) (σ:St) (H:Hp) (E:Value->Shared->Prop),Inv X pins σ H s->(∀ b ∈ fp,wa X pins H b)->tn i s.heap->J.stop i H ->
  wpAny (model P w) X.A (pyNext (.ref it)) (fun r s1=>r=none/\Inv X pins σ H s1) E s
 self:∀(A:Around) (i:Nat) (s:Shared) (Q:Value->Shared->Prop) (E:Value->Shared->Prop),tn i s.heap->Q (.ref it) s->wpAny (model P w) A (pyIter (.ref it)) Q E s
abbrev TI:=St->Hp->(It->Hp->Prop)->Prop
def PIE(X:Cx)(pins:List (Addr × Obj))(σ:St)(tg:Expr)(R:It->Hp->Prop)(itv:Value)(s2:Shared):Prop :=
 ∃(it:Addr) (fp:List Addr) (tn:Nat->Heap->Prop) (J:It) (H':Hp),itv=.ref it/\Inv X pins σ H' s2/\UB X.prog X.w X.K tg J fp it tn/\tn 0 s2.heap/\(∀ b ∈ fp,wa X pins H' b)/\R J H'
def PI(X:Cx)(tg iter:Expr)(wi:TI):Prop :=
 ∀(pins:List (Addr × Obj)) (s:Shared) (σ:St) (H:Hp) (R:It->Hp->Prop),Inv X pins σ H s->wi σ H R ->
  wpAny (model X.prog X.w) X.A (eval iter X.env) (fun v s1=>wpAny (model X.prog X.w) X.A (pyIter v) (PIE X pins σ tg R) X.xe s1) X.xe s
theorem Vk{M:Model}{A:Around}{E:Value->Shared->Prop}{s:Shared}{tg:Expr}{it:Addr}{u:Value}{o:Obj}{n:String}{vs:Array Value}{Q:Unit->Shared->Prop}(ho:s.heap.get? it=some o)(hc:o.cls=.type n)(hd:o.data=.fields vs)
    (hn:["enumerate","zip","dict_itemiterator","dict_reverseitemiterator","odict_iterator","itertools.zip_longest","itertools.pairwise"].contains n=false) (hQ:Q () s):wpAny M A (letOwnedTupleGo tg (.ref it) u) Q E s:=by
  unfold letOwnedTupleGo
  cases tg <;> first
    | exact oJ hQ
    | (cases u <;> first
        | exact oJ hQ
        | (refine oH (wpAny_load ho ?_)
           rw[hc,hd]
           show wpAny M A (if (["enumerate","zip","dict_itemiterator","dict_reverseitemiterator","odict_iterator","itertools.zip_longest","itertools.pairwise"].contains n && vs[0]? == some (rawInt _))=true then _ else _) Q E s
           rw[if_neg (by intro h;rw[hn,Bool.false_and] at h;cases h)]
           exact oJ hQ))
def Itl(K:oO)(a:Addr):It :=
 ⟨fun i H=>∃ xs x,SqL K H a xs/\xs[i]? = some x,fun i H x H'=>H'=H/\∀ xs,SqL K H a xs->xs[i]? = some x,fun i H=>∃ xs,SqL K H a xs/\xs.length<=i⟩
def Itt(K:oO)(a:Addr):It :=
 ⟨fun i H=>∃ xs x,SqT K H a xs/\xs[i]? = some x,fun i H x H'=>H'=H/\∀ xs,SqT K H a xs->xs[i]? = some x,fun i H=>∃ xs,SqT K H a xs/\xs.length<=i⟩
def Itr(lo:Int)(n:Nat):It:=⟨fun i _=>i<n,fun i H x H'=>H'=H/\x=.int (lo+i),fun i _=>n<=i⟩
theorem Ud{P:Program}{w:World}{K:oO}{tg:Expr}(a it:Addr):UB P w K tg (Itl K a) [it] it (fun i h=>h.IsListIter it a i) where
 mem:=by simp
 obj:=fun i h st b hb=>by
  have e:b=it:=by simpa using hb
  subst e
  obtain⟨o,e,c,d⟩:=st
  exact⟨o,e,fun v z=>by rw[d] at z;cases z⟩
 keep:=fun i h h' st k=>st.at fun o e=>k it (by simp) o e
 item:=by
  intro X hP hw hK hc i pins s σ H E I hf st hg
  subst hP hw hK
  obtain⟨xs,x,hq,hx⟩:=hg
  obtain⟨its,rv,p,hz⟩:=I.list hq
  obtain⟨u,hu,ru⟩:=rv.get hx
  obtain⟨f0,f1,f2,f3,f4,f5⟩:=hf it (by simp)
  refine wpAny_pyNext_list_item st p.isList (x:=u) (by simpa using hu) fun h' st' sb=>?_
  have I1:Inv X pins σ H { s with heap:=h' }:=I.turned (t':=s.toks) (fun b o hb e=>(sb.2 b hb).trans e) f0 f1 f3 f4 f5
  obtain⟨o,e,c,d⟩:=id st'
  exact⟨u,rfl,Vk (s:={ s with heap:=h' }) e c d (by decide) ⟨x,H,I1,ru,⟨rfl,fun ys hy=>by rw[I.list_inj hy hq];exact hx⟩,st',fun b hb=>(hf b hb).1⟩⟩
 done:=by
  intro X hP hw hK hc i pins s σ H E I hf st hg
  subst hP hw hK
  obtain⟨xs,hq,hx⟩:=hg
  obtain⟨its,rv,p,hz⟩:=I.list hq
  obtain⟨f0,f1,f2,f3,f4,f5⟩:=hf it (by simp)
  have hl:=rv.length
  exact wpAny_pyNext_list_end (I.ok.hd hc) st p.isList (by simp;omega) fun h' eb=>⟨rfl,I.turned (t':=s.toks) (fun b o hb e=>eb b o hb e) f0 f1 f3 f4 f5⟩
 self:=fun _ _ _ _ _ st h=>wpAny_pyIter_listiter st h
theorem XR{P:Program}{w:World}{K:oO}{tg:Expr}(a it:Addr):UB P w K tg (Itt K a) [it] it (fun i h=>h.IsTupleIter it a i) where
 mem:=by simp
 obj:=fun i h st b hb=>by
  have e:b=it:=by simpa using hb
  subst e
  obtain⟨o,e,c,d⟩:=st
  exact⟨o,e,fun v z=>by rw[d] at z;cases z⟩
 keep:=fun i h h' st k=>st.at fun o e=>k it (by simp) o e
 item:=by
  intro X hP hw hK hc i pins s σ H E I hf st hg
  subst hP hw hK
  obtain⟨xs,x,hq,hx⟩:=hg
  obtain⟨its,rv,p,hz⟩:=I.tuple hq
  obtain⟨u,hu,ru⟩:=rv.get hx
  obtain⟨f0,f1,f2,f3,f4,f5⟩:=hf it (by simp)
  refine wpAny_pyNext_tuple_item st (show s.heap.IsTuple a its.toArray from p) (x:=u) (by simpa using hu) fun h' st' sb=>?_
  have I1:Inv X pins σ H { s with heap:=h' }:=I.turned (t':=s.toks) (fun b o hb e=>(sb.2 b hb).trans e) f0 f1 f3 f4 f5
  obtain⟨o,e,c,d⟩:=id st'
  exact⟨u,rfl,Vk (s:={ s with heap:=h' }) e c d (by decide) ⟨x,H,I1,ru,⟨rfl,fun ys hy=>by rw[I.tuple_inj hy hq];exact hx⟩,st',fun b hb=>(hf b hb).1⟩⟩
 done:=by
  intro X hP hw hK hc i pins s σ H E I hf st hg
  subst hP hw hK
  obtain⟨xs,hq,hx⟩:=hg
  obtain⟨its,rv,p,hz⟩:=I.tuple hq
  obtain⟨f0,f1,f2,f3,f4,f5⟩:=hf it (by simp)
  have hl:=rv.length
  exact wpAny_pyNext_tuple_end (I.ok.hd hc) st (show s.heap.IsTuple a its.toArray from p) (by simp;omega) fun h' eb=>⟨rfl,I.turned (t':=s.toks) (fun b o hb e=>eb b o hb e) f0 f1 f3 f4 f5⟩
 self:=fun _ _ _ _ _ st h=>wpAny_pyIter_tupleiter st h
theorem XS{P:Program}{w:World}{K:oO}{tg:Expr}(it:Addr)(lo:Int)(n:Nat):UB P w K tg (Itr lo n) [it] it (fun i h=>IsRangeIter h it (lo+(i:Nat) * 1) ((n:Int) - (i:Nat)) 1) where
 mem:=by simp
 obj:=fun i h st b hb=>by
  have e:b=it:=by simpa using hb
  subst e
  exact⟨_,st,fun v z=>by
   have z':Data.fields _=Data.cell v:=z
   cases z'⟩
 keep:=fun i h h' st k=>k it (by simp) _ st
 item:=by
  intro X hP hw hK hc i pins s σ H E I hf st hg
  subst hP hw hK
  obtain⟨f0,f1,f2,f3,f4,f5⟩:=hf it (by simp)
  have W:=Walks.range (prog:=X.prog) (w:=X.w) (I.ok.hd hc) it lo 1 n
  refine W.item i s _ _ hg st fun v h' tk hv st' kk=>?_
  obtain⟨t,rfl⟩:=hv
  have I1:Inv X pins σ H { s with heap:=h',toks:=tk }:=I.turned (fun b o hb e=>kk b o (by simpa using hb) e) f0 f1 f3 f4 f5
  refine⟨_,rfl,Vk (s:={ s with heap:=h',toks:=tk }) (n:="range_iterator") st' rfl rfl (by decide) ⟨.int (lo+i),H,I1,⟨t,?_⟩,⟨rfl,rfl⟩,st',fun b hb=>(hf b hb).1⟩⟩
  rw[Int.mul_one]
 done:=by
  intro X hP hw hK hc i pins s σ H E I hf st hg
  subst hP hw hK
  obtain⟨f0,f1,f2,f3,f4,f5⟩:=hf it (by simp)
  exact wpAny_pyNext_range_end (I.ok.hd hc) st (by have:n<=i:=hg;omega) fun h' eb=>⟨rfl,I.turned (t':=s.toks) (fun b o hb e=>eb b o hb e) f0 f1 f3 f4 f5⟩
 self:=fun _ _ _ _ _ st h=>wpAny_pyIter_rangeiter st h
end L2
namespace L2
section
variable{X:Cx}{tg:Expr}
def Kh(K:oO)(tl:TE):TI:=fun σ H R=>tl σ H fun x H1=>∃ a,x=.ref a/\(∃ xs,SqL K H1 a xs)/\R (Itl K a) H1
def zcY(K:oO)(tl:TE):TI:=fun σ H R=>tl σ H fun x H1=>∃ a,x=.ref a/\(∃ xs,SqT K H1 a xs)/\R (Itt K a) H1
theorem yC{l:Expr}{tl:TE}(hl:PE X l tl):PI X tg l (Kh X.K tl):=by
 intro pins s σ H R I h
 refine thn (hl pins s σ H _ I h) fun v s1 ⟨x,H1,I1,r1,q1⟩=>?_
 obtain⟨a,e,⟨xs,hq⟩,q⟩:=q1
 subst e
 cases r1
 obtain⟨its,rv,p,hz⟩:=I1.list hq
 refine wpAny_pyIter_list p.isList ?_
 refine⟨s1.heap.objs.size,[s1.heap.objs.size],_,_,H1,rfl,I1.kept (t':=s1.toks) fun b o e=>aa _ e,Ud a _,⟨_,aI _ rfl,rfl,rfl⟩,fun b hb=>?_,q⟩
 have e:b=s1.heap.objs.size:=by simpa using hb
 subst e
 exact I1.fpOk (au _) (I1.hok.fresh (au _))
theorem zaB{l:Expr}{tl:TE}(hl:PE X l tl):PI X tg l (zcY X.K tl):=by
 intro pins s σ H R I h
 refine thn (hl pins s σ H _ I h) fun v s1 ⟨x,H1,I1,r1,q1⟩=>?_
 obtain⟨a,e,⟨xs,hq⟩,q⟩:=q1
 subst e
 cases r1
 obtain⟨its,rv,p,hz⟩:=I1.tuple hq
 refine wpAny_pyIter_tuple (show s1.heap.IsTuple a its.toArray from p) ?_
 refine⟨s1.heap.objs.size,[s1.heap.objs.size],_,_,H1,rfl,I1.kept (t':=s1.toks) fun b o e=>aa _ e,XR a _,⟨_,aI _ rfl,rfl,rfl⟩,fun b hb=>?_,q⟩
 have e:b=s1.heap.objs.size:=by simpa using hb
 subst e
 exact I1.fpOk (au _) (I1.hok.fresh (au _))
theorem YS{pins:List (Addr × Obj)}{σ:St}{H:Hp}{s:Shared}{R:It->Hp->Prop}{E:Value->Shared->Prop}{lo hi:Int}{t u v:Tok}{tk:Nat}(I:Inv X pins σ H s)(h1:-(2 ^ 62)<=lo)(h2:lo<2 ^ 62)(h3:-(2 ^ 62)<=hi)(h4:hi<2 ^ 62)
  (q:R (Itr lo (hi - lo).toNat) H):wpAny (model X.prog X.w) X.A (pyIter (.ref s.heap.objs.size)) (PIE X pins σ tg R) E { s with heap:=s.heap.push { cls:=.type "range",data:=.fields #[.int lo t,.int hi u,.int 1 v] },toks:=tk }:=by
 refine wpAny_pyIter_range (IsRange.new ..) (small_one h1 h2 h3 h4) ?_
 have I1:Inv X pins σ H { s with heap:=s.heap.push { cls:=.type "range",data:=.fields #[.int lo t,.int hi u,.int 1 v] },toks:=tk }:=I.kept fun b o e=>aa _ e
 refine⟨(s.heap.push { cls:=.type "range",data:=.fields #[.int lo t,.int hi u,.int 1 v] }).objs.size,[(s.heap.push { cls:=.type "range",data:=.fields #[.int lo t,.int hi u,.int 1 v] }).objs.size],_,_,H,rfl,
  I1.kept (t':=tk) fun b o e=>aa _ e,XS _ lo (hi - lo).toNat,?_,fun b hb=>?_,q⟩
 ·have e1:lo+((0:Nat):Int) * 1=lo:=by simp
  have e2:(((hi - lo).toNat:Nat):Int) - ((0:Nat):Int)=Builtin.Range.rangeSize lo hi 1:=by rw[rangeSize_one];split <;> omega
  show IsRangeIter _ _ (lo+((0:Nat):Int) * 1) ((((hi - lo).toNat:Nat):Int) - ((0:Nat):Int)) 1
  rw[e1,e2]
  exact aI _ rfl
 ·have e:b=(s.heap.push { cls:=.type "range",data:=.fields #[.int lo t,.int hi u,.int 1 v] }).objs.size:=by simpa using hb
  subst e
  exact I1.fpOk (au _) (I1.hok.fresh (au _))
def Ki(ta:TA):TI:=fun σ H R=>ta σ H fun vs H1=>∃ j:Int,vs=[.int j]/\-(2 ^ 62)<=j/\j<2 ^ 62/\R (Itr 0 j.toNat) H1
def zav(ta:TA):TI:=fun σ H R=>ta σ H fun vs H1=>∃ i j:Int,vs=[.int i,.int j]/\(-(2 ^ 62)<=i/\i<2 ^ 62/\-(2 ^ 62)<=j/\j<2 ^ 62)/\R (Itr i (j - i).toNat) H1
theorem xO{a:Expr}{ta:TA}{p pos:Pos}(hg:Gl X "range")(hm:X.mg "range" = none)(ha:PA X [a] ta)(hs:oM [a] X.env=[(false,eval a X.env)]:=by rfl):PI X tg (.Call (.Name "range" p) [a] [] pos) (Ki ta):=by
 intro pins s σ H R I h
 refine Call_ (vn I hg hm boot_range (bD (thn (ha pos pins s σ H _ I h) fun us s1 ⟨vs,H1,I1,r1,q1⟩=>?_) hs rfl))
 obtain⟨j,e,q1,q2,q⟩:=q1
 subst e
 cases r1 with
 | cons r rr =>
  cases rr
  obtain⟨t,rfl⟩:=r
  exact call_range_1 (YS I1 (by omega) (by omega) q1 q2 (by simpa using q))
theorem W4{a b:Expr}{ta:TA}{p pos:Pos}(hg:Gl X "range")(hm:X.mg "range" = none)(ha:PA X [a,b] ta)(hs:oM [a,b] X.env=[(false,eval a X.env),(false,eval b X.env)]:=by rfl)(hs2:oM [b] X.env=[(false,eval b X.env)]:=by rfl) :
  PI X tg (.Call (.Name "range" p) [a,b] [] pos) (zav ta):=by
 intro pins s σ H R I h
 refine Call_ (vn I hg hm boot_range (bD (thn (ha pos pins s σ H _ I h) fun us s1 ⟨vs,H1,I1,r1,q1⟩=>?_) (by rw[hs,hs2]) (by rw[hs2];rfl)))
 obtain⟨i,j,e,⟨q1,q2,q3,q4⟩,q⟩:=q1
 subst e
 cases r1 with
 | cons r rr =>
  cases rr with
  | cons r' rr =>
   cases rr
   obtain⟨t,rfl⟩:=r
   obtain⟨t',rfl⟩:=r'
   exact call_range_2 (YS I1 q1 q2 q3 q4 q)
def Qw(wi:TI)(g:TG)(tb:TS):TS:=fun D σ H=>wi σ H fun J H1=>∃ W:Nat->Nat->St->Hp->Prop,(∃ m,W 0 m σ H1)/\∀ i m σ H,W i m σ H ->
 (J.stop i H/\D.nx σ H)\/(J.go i H/\∃ N:St->Hp->Prop,(∀ σ' H',N σ' H'->∃ m',m'<m/\W (i+1) m' σ' H')/\∀ x H',J.yld i H x H'->g x σ H' fun σ2 H2=>tb { D with nx:=N,ct:=N,bk:=D.nx } σ2 H2)
def jE(fp:List Addr)(h:Heap):List (Addr × Obj):=fp.filterMap fun b=>(h.get? b).map fun o=>(b,o)
theorem xG{fp:List Addr}{h:Heap}{b:Addr}{o:Obj}(hb:b ∈ fp)(e:h.get? b=some o):(b,o) ∈ jE fp h:=List.mem_filterMap.mpr ⟨b,hb,by rw[e];rfl⟩
theorem VJ{fp:List Addr}{h:Heap}{p:Addr × Obj}(hp:p ∈ jE fp h):p.1 ∈ fp/\h.get? p.1=some p.2:=by
 obtain⟨b,hb,e⟩:=List.mem_filterMap.mp hp
 cases q:h.get? b with
 | none=>rw[q] at e;cases e
 | some o =>
  rw[q] at e
  have e':(b,o)=p:=Option.some.inj e
  subst e'
  exact⟨hb,q⟩
theorem Inv.pinned{pins:List (Addr × Obj)}{σ:St}{H:Hp}{s:Shared}{fp:List Addr}(I:Inv X pins σ H s)(hf:∀ b ∈ fp,wa X pins H b)(ho:∀ b ∈ fp,∃ o,s.heap.get? b=some o/\∀ v,o.data≠.cell v):Inv X (pins ++ jE fp s.heap) σ H s :=
 I.pins_of fun p hp=>(List.mem_append.mp hp).elim (fun z=>I.pin p (aA _ z)) fun z=>by
  obtain⟨hb,e⟩:=VJ z
  obtain⟨f0,f1,f2,_⟩:=hf p.1 hb
  obtain⟨o,e',d⟩:=ho p.1 hb
  rw[e] at e';cases e'
  exact⟨e,f0,f1,f2,d⟩
theorem Inv.unpinned{pins pl:List (Addr × Obj)}{σ:St}{H:Hp}{s:Shared}(I:Inv X (pins ++ pl) σ H s):Inv X pins σ H s:=I.pins_of fun p hp=>I.pin p (aA _ (aR _ hp))
theorem yF{iter:Expr}{body:List Stmt}{wi:TI}{g:TG}{tb:TS}{pos:Pos}(hp:PassesOwn (model X.prog X.w) X.A X.env X.xe)(hc:X.calm=true)(hi:PI X tg iter wi)(hg:PG X tg g)(hb:PSs X body tb)
  (hs:∀ x,foldedSetIterable iter X.env x=pure x:=by intro _;rfl):PS X (.For tg iter body [] pos) (Qw wi g tb):=by
 intro pins s σ H D I h
 refine wpAny_For (thn (hi pins s σ H _ I h) fun v s1 h1=>thn h1 fun itv s2 h2=>?_) hs
 obtain⟨it,fp,tn,J,H2,e,I2,T,st2,f2,W,⟨m0,w0⟩,turn⟩:=h2
 subst e
 have stat:∀{H':Hp},(∀ b ∈ fp,H' b=none)->∀ b ∈ fp,wa X pins H' b:=fun hn b hb=>⟨hn b hb,(f2 b hb).2⟩
 refine codeAny_forLoop_any (fun n s'=>∃ i σ' H',Inv X pins σ' H' s'/\tn i s'.heap/\(∀ b ∈ fp,H' b=none)/\W i n σ' H') ?_ m0 ⟨0,σ,H2,I2,st2,fun b hb=>(f2 b hb).1,w0⟩
 rintro n s3 ⟨i,σ3,H3,I3,st3,fr3,w3⟩
 rcases turn i n σ3 H3 w3 with ⟨stop,qn⟩ | ⟨go,N,hN,step⟩
 ·refine wpAny_passesOwn hp (thn (T.done X rfl rfl rfl hc i pins s3 σ3 H3 X.xe I3 (stat fr3) st3 stop) fun r s4 ⟨hr,I4⟩=>?_)
  subst hr
  exact wpAny_execs_nil ⟨σ3,H3,I4,qn⟩
 ·refine wpAny_passesOwn hp (thn (T.item X rfl rfl rfl hc i pins s3 σ3 H3 X.xe I3 (stat fr3) st3 go) fun r s4 ⟨u,hr,h4⟩=>?_)
  subst hr
  refine wpAny_passesOwn hp (thn h4 fun _ s5 ⟨x,H5,I5,r5,y5,st5,fr5⟩=>?_)
  have I5':=I5.pinned (stat fr5) (T.obj _ _ st5)
  refine wpAny_passesOwn hp (thn (hg _ s5 σ3 H5 x u _ I5' r5 (step x H5 y5)) fun _ s6 ⟨σ6,H6,I6,q6⟩=>?_)
  refine wpAny_passesOwn hp (thn (hb _ s6 σ6 H6 _ I6 q6) fun f s7 q7=>?_)
  have again:∀{σ7:St} {H7:Hp},Inv X (pins ++ jE fp s5.heap) σ7 H7 s7->N σ7 H7->∃ m,m<n/\∃ i σ' H',Inv X pins σ' H' s7/\tn i s7.heap/\(∀ b ∈ fp,H' b=none)/\W i m σ' H':=fun {σ7 H7} I7 n7=>by
   obtain⟨m',hm,w7⟩:=hN σ7 H7 n7
   refine⟨m',hm,i+1,σ7,H7,I7.unpinned,T.keep _ _ _ st5 fun b hb o e=>(I7.pin (b,o) (aA _ (aA _ (xG hb e)))).1,fun b hb=>?_,w7⟩
   obtain⟨o,e,d⟩:=T.obj _ _ st5 b hb
   exact (I7.pin (b,o) (aA _ (aA _ (xG hb e)))).2.1
  cases f with
  | next=>obtain⟨σ7,H7,I7,n7⟩:=q7;exact again I7 n7
  | cont=>obtain⟨σ7,H7,I7,n7⟩:=q7;exact again I7 n7
  | brk=>obtain⟨σ7,H7,I7,q7⟩:=q7;exact⟨σ7,H7,I7.unpinned,q7⟩
  | ret v=>obtain⟨x7,σ7,H7,I7,r7,q7⟩:=q7;exact⟨x7,σ7,H7,I7.unpinned,r7,q7⟩
end
theorem U0{K:oO}{a:Addr}{xs:List V}{g:TG}{tb:TS}{D:vp}{σ:St}{H:Hp}(Pv:Nat->St->Hp->Prop)(h0:Pv 0 σ H)(hl:∀ i σ H,i<=xs.length->Pv i σ H->SqL K H a xs)
  (hs:∀ i x σ H,xs[i]? = some x->Pv i σ H->g x σ H fun σ2 H2=>tb { D with nx:=Pv (i+1),ct:=Pv (i+1),bk:=D.nx } σ2 H2) (hd:∀ σ H,Pv xs.length σ H->D.nx σ H) :
  ∃ W:Nat->Nat->St->Hp->Prop,(∃ m,W 0 m σ H)/\∀ i m σ H,W i m σ H ->
   ((Itl K a).stop i H/\D.nx σ H)\/((Itl K a).go i H/\∃ N:St->Hp->Prop,(∀ σ' H',N σ' H'->∃ m',m'<m/\W (i+1) m' σ' H')/\∀ x H',(Itl K a).yld i H x H'->g x σ H' fun σ2 H2=>tb { D with nx:=N,ct:=N,bk:=D.nx } σ2 H2):=by
 refine⟨fun i m σ H=>m=xs.length - i/\i<=xs.length/\Pv i σ H,⟨xs.length,by simp,aJ _,h0⟩,?_⟩
 rintro i m σ H ⟨rfl,hi,p⟩
 have q:=hl i σ H hi p
 by_cases hlt:i<xs.length
 ·refine .inr ⟨⟨xs,xs[i],q,by simp [hlt]⟩,Pv (i+1),fun σ' H' p'=>⟨xs.length - (i+1),by omega,rfl,hlt,p'⟩,fun x H' y=>?_⟩
  obtain⟨e,y⟩:=y
  subst e
  exact hs i x σ _ (y xs q) p
 ·have e:i=xs.length:=by omega
  subst e
  exact .inl ⟨⟨xs,q,au _⟩,hd σ H p⟩
theorem Ka{K:oO}{a:Addr}{xs:List V}{g:TG}{tb:TS}{D:vp}{σ:St}{H:Hp}(Pv:Nat->St->Hp->Prop)(h0:Pv 0 σ H)(hl:∀ i σ H,i<=xs.length->Pv i σ H->SqT K H a xs)
  (hs:∀ i x σ H,xs[i]? = some x->Pv i σ H->g x σ H fun σ2 H2=>tb { D with nx:=Pv (i+1),ct:=Pv (i+1),bk:=D.nx } σ2 H2) (hd:∀ σ H,Pv xs.length σ H->D.nx σ H) :
  ∃ W:Nat->Nat->St->Hp->Prop,(∃ m,W 0 m σ H)/\∀ i m σ H,W i m σ H ->
   ((Itt K a).stop i H/\D.nx σ H)\/((Itt K a).go i H/\∃ N:St->Hp->Prop,(∀ σ' H',N σ' H'->∃ m',m'<m/\W (i+1) m' σ' H')/\∀ x H',(Itt K a).yld i H x H'->g x σ H' fun σ2 H2=>tb { D with nx:=N,ct:=N,bk:=D.nx } σ2 H2):=by
 refine⟨fun i m σ H=>m=xs.length - i/\i<=xs.length/\Pv i σ H,⟨xs.length,by simp,aJ _,h0⟩,?_⟩
 rintro i m σ H ⟨rfl,hi,p⟩
 have q:=hl i σ H hi p
 by_cases hlt:i<xs.length
 ·refine .inr ⟨⟨xs,xs[i],q,by simp [hlt]⟩,Pv (i+1),fun σ' H' p'=>⟨xs.length - (i+1),by omega,rfl,hlt,p'⟩,fun x H' y=>?_⟩
  obtain⟨e,y⟩:=y
  subst e
  exact hs i x σ _ (y xs q) p
 ·have e:i=xs.length:=by omega
  subst e
  exact .inl ⟨⟨xs,q,au _⟩,hd σ H p⟩
theorem WW{lo:Int}{n:Nat}{g:TG}{tb:TS}{D:vp}{σ:St}{H:Hp}(Pv:Nat->St->Hp->Prop)(h0:Pv 0 σ H)
  (hs:∀ i σ H,i<n->Pv i σ H->g (.int (lo+i)) σ H fun σ2 H2=>tb { D with nx:=Pv (i+1),ct:=Pv (i+1),bk:=D.nx } σ2 H2) (hd:∀ σ H,Pv n σ H->D.nx σ H) :
  ∃ W:Nat->Nat->St->Hp->Prop,(∃ m,W 0 m σ H)/\∀ i m σ H,W i m σ H ->
   ((Itr lo n).stop i H/\D.nx σ H)\/((Itr lo n).go i H/\∃ N:St->Hp->Prop,(∀ σ' H',N σ' H'->∃ m',m'<m/\W (i+1) m' σ' H')/\∀ x H',(Itr lo n).yld i H x H'->g x σ H' fun σ2 H2=>tb { D with nx:=N,ct:=N,bk:=D.nx } σ2 H2):=by
 refine⟨fun i m σ H=>m=n - i/\i<=n/\Pv i σ H,⟨n,by simp,aJ _,h0⟩,?_⟩
 rintro i m σ H ⟨rfl,hi,p⟩
 by_cases hlt:i<n
 ·refine .inr ⟨hlt,Pv (i+1),fun σ' H' p'=>⟨n - (i+1),by omega,rfl,hlt,p'⟩,fun x H' y=>?_⟩
  obtain⟨e,y⟩:=y
  subst e y
  exact hs i σ _ hlt p
 ·have e:i=n:=by omega
  subst e
  exact .inl ⟨au _,hd σ H p⟩
end L2
namespace L2
abbrev R2:=V->V->Hp->VK->Prop
def OpR(X:Cx)(f:Value->Value->Sem Value)(r:R2):Prop :=
 ∀(pins:List (Addr × Obj)) (s:Shared) (σ:St) (H:Hp) (x y:V) (v u:Value) (Q:VK),Inv X pins σ H s->RelV x v->RelV y u->r x y H Q ->
  wpAny (model X.prog X.w) X.A (f v u) (EP X pins σ Q) X.xe s
def UnR(X:Cx)(f:Value->Sem Value)(r:V->Hp->VK->Prop):Prop :=
 ∀(pins:List (Addr × Obj)) (s:Shared) (σ:St) (H:Hp) (x:V) (v:Value) (Q:VK),Inv X pins σ H s->RelV x v->r x H Q ->
  wpAny (model X.prog X.w) X.A (f v) (EP X pins σ Q) X.xe s
def vJ(X:Cx)(f:Value)(r:List V->Hp->VK->Prop):Prop :=
 ∀(pins:List (Addr × Obj)) (s:Shared) (σ:St) (H:Hp) (xs:List V) (us:List Value) (Q:VK),Inv X pins σ H s->Vals xs us->r xs H Q ->
  wpAny (model X.prog X.w) X.A (call f us) (EP X pins σ Q) X.xe s
def zdc(X:Cx)(r:V->Hp->(Bool->Hp->Prop)->Prop):Prop :=
 ∀(pins:List (Addr × Obj)) (s:Shared) (σ:St) (H:Hp) (x:V) (v:Value) (Q:Bool->Hp->Prop),Inv X pins σ H s->RelV x v->r x H Q ->
  wpAny (model X.prog X.w) X.A (truthy v) (TP X pins σ Q) X.xe s
def tOp(r:R2)(ta tb:TE):TE:=fun σ H Q=>ta σ H fun x H1=>tb σ H1 fun y H2=>r x y H2 Q
def tUn(r:V->Hp->VK->Prop)(ta:TE):TE:=fun σ H Q=>ta σ H fun x H1=>r x H1 Q
def rI(C:Int->Int->Prop)(g:Int->Int->V):R2:=fun x y H Q=>∃ i j,x=.int i/\y=.int j/\C i j/\Q (g i j) H
def rI0(g:Int->Int->V):R2:=fun x y H Q=>∃ i j,x=.int i/\y=.int j/\Q (g i j) H
def rU(g:Int->V):V->Hp->VK->Prop:=fun x H Q=>∃ i,x=.int i/\Q (g i) H
section
variable{X:Cx}{a b c:Expr}{ta tb tc:TE}{pos:Pos}
theorem zcx(ha:PE X a ta)(hb:PE X b tb){pins:List (Addr × Obj)}{s:Shared}{σ:St}{H:Hp}{R:V->V->Hp->Prop}(I:Inv X pins σ H s)
  (h:ta σ H fun x H1=>tb σ H1 fun y H2=>R x y H2) {Q:Value->Shared->Prop} {f:Value->Value->Sem Value}
  (hf:∀ v u s2 x y H2,Inv X pins σ H2 s2->RelV x v->RelV y u->R x y H2->wpAny (model X.prog X.w) X.A (f v u) Q X.xe s2) :
  wpAny (model X.prog X.w) X.A (eval a X.env) (fun v s₁=>wpAny (model X.prog X.w) X.A (eval b X.env) (fun u s₂=>wpAny (model X.prog X.w) X.A (f v u) Q X.xe s₂) X.xe s₁) X.xe s:=by
 refine thn (ha pins s σ H _ I h) fun v s1 ⟨x,H1,I1,r1,q1⟩=>?_
 refine thn (hb pins s1 σ H1 _ I1 q1) fun u s2 ⟨y,H2,I2,r2,q2⟩=>?_
 exact hf v u s2 x y H2 I2 r1 r2 q2
theorem zB{op:Operator}{r:R2}(ho:OpR X (binaryOp op) r)(ha:PE X a ta)(hb:PE X b tb):PE X (.BinOp a op b pos) (tOp r ta tb):=by
 intro pins s σ H Q I h
 exact wpAny_BinOp (zcx ha hb I h fun v u s2 x y H2 I2 rx ry q=>ho pins s2 σ H2 x y v u Q I2 rx ry q)
theorem zbX{op:UnaryOp}{r:V->Hp->VK->Prop}(ho:UnR X (unaryOp op) r)(ha:PE X a ta):PE X (.UnaryOp op a pos) (tUn r ta):=by
 intro pins s σ H Q I h
 exact UnaryOp_ (thn (ha pins s σ H _ I h) fun v s1 ⟨x,H1,I1,r1,q1⟩=>ho pins s1 σ H1 x v Q I1 r1 q1)
theorem opI{f:Value->Value->Sem Value}{C:Int->Int->Prop}{g:Int->Int->Int}
  (rule:∀(i j:Int) (t u:Tok) (s:Shared) (Q:Value->Shared->Prop) (E:Value->Shared->Prop),C i j->Q (.int (g i j) s.toks) { s with toks:=s.toks+1 }->wpAny (model X.prog X.w) X.A (f (.int i t) (.int j u)) Q E s) :
  OpR X f (rI C fun i j=>.int (g i j)):=by
 intro pins s σ H x y v u Q I rx ry h
 obtain⟨i,j,rfl,rfl,hc,q⟩:=h
 obtain⟨t,rfl⟩:=rx
 obtain⟨t',rfl⟩:=ry
 exact rule i j t t' s _ _ hc ⟨.int (g i j),H,I.tok _,⟨_,rfl⟩,q⟩
theorem zcU{f:Value->Value->Sem Value}{g:Int->Int->Int}
  (rule:∀(i j:Int) (t u:Tok) (s:Shared) (Q:Value->Shared->Prop) (E:Value->Shared->Prop),Q (.int (g i j) s.toks) { s with toks:=s.toks+1 }->wpAny (model X.prog X.w) X.A (f (.int i t) (.int j u)) Q E s) :
  OpR X f (rI0 fun i j=>.int (g i j)):=by
 intro pins s σ H x y v u Q I rx ry h
 obtain⟨i,j,rfl,rfl,q⟩:=h
 obtain⟨t,rfl⟩:=rx
 obtain⟨t',rfl⟩:=ry
 exact rule i j t t' s _ _ ⟨.int (g i j),H,I.tok _,⟨_,rfl⟩,q⟩
theorem zbw{f:Value->Value->Sem Value}{g:Int->Int->Bool}
  (rule:∀(i j:Int) (t u:Tok) (s:Shared) (Q:Value->Shared->Prop) (E:Value->Shared->Prop),Q (.bool (g i j)) s->wpAny (model X.prog X.w) X.A (f (.int i t) (.int j u)) Q E s) :
  OpR X f (rI0 fun i j=>.bl (g i j)):=by
 intro pins s σ H x y v u Q I rx ry h
 obtain⟨i,j,rfl,rfl,q⟩:=h
 obtain⟨t,rfl⟩:=rx
 obtain⟨t',rfl⟩:=ry
 exact rule i j t t' s _ _ ⟨.bl (g i j),H,I,rfl,q⟩
def zde(i j:Int):Prop:=0<j/\j<1073741824
def zb1(i j:Int):Prop:=0<=j/\j<=1000000/\i.natAbs<2 ^ 64
def CMul(i j:Int):Prop:=(-(2 ^ 64)<i/\i<2 ^ 64)\/(-(2 ^ 64)<j/\j<2 ^ 64)
theorem CMul.ok{i j:Int}(h:CMul i j):IntMulOk i j:=by
 rcases h with ⟨h1,h2⟩ | ⟨h1,h2⟩
 ·exact .of_left (intBits_le_64 h1 h2)
 ·exact .of_right (intBits_le_64 h1 h2)
theorem op_add:OpR X (binaryOp .Add) (rI0 fun i j=>.int (i+j)):=zcU fun _ _ _ _ _ _ _ q=>add_int q
theorem qv:OpR X (binaryOp .Sub) (rI0 fun i j=>.int (i - j)):=zcU fun _ _ _ _ _ _ _ q=>sub_int q
theorem op_mul:OpR X (binaryOp .Mult) (rI CMul fun i j=>.int (i * j)):=opI fun _ _ _ _ _ _ _ hc q=>mul_int q hc.ok
theorem yV:OpR X (binaryOp .FloorDiv) (rI zde fun i j=>.int (i / j)):=opI fun i j _ _ _ _ _ hc q=>by
 have h1:(0:Int)<j:=hc.1
 have h2:j<1073741824:=hc.2
 exact floordiv_int (by omega) (by rw[Int.fdiv_eq_ediv_of_nonneg i (by omega)];exact q) (.inl (PyProof.noPylong_small (by omega)))
theorem yQ:OpR X (binaryOp .Mod) (rI (fun _ j=>0<j) fun i j=>.int (i % j)):=opI fun i j _ _ _ _ _ hc q=>by
 have h1:(0:Int)<j:=hc
 exact mod_int' (by omega) (by rw[Int.fmod_eq_emod_of_nonneg i (by omega)];exact q)
theorem Uy:OpR X (binaryOp .Pow) (rI zb1 fun i j=>.int (i ^ j.toNat)):=opI fun _ _ _ _ _ _ _ hc q=>pow_int_small hc.1 hc.2.1 hc.2.2 q
theorem unI{f:Value->Sem Value}{g:Int->Int}
  (rule:∀(i:Int) (t:Tok) (s:Shared) (Q:Value->Shared->Prop) (E:Value->Shared->Prop),Q (.int (g i) s.toks) { s with toks:=s.toks+1 }->wpAny (model X.prog X.w) X.A (f (.int i t)) Q E s) :
  UnR X f (rU fun i=>.int (g i)):=by
 intro pins s σ H x v Q I rx h
 obtain⟨i,rfl,q⟩:=h
 obtain⟨t,rfl⟩:=rx
 exact rule i t s _ _ ⟨.int (g i),H,I.tok _,⟨_,rfl⟩,q⟩
theorem zaS:UnR X (unaryOp .USub) (rU fun i=>.int (-i)):=unI fun _ _ _ _ _ q=>neg_int q
end
def JC:V->V->Bool
 | .non,.non=>true | .non,.int _=>true | .int _,.non=>true | .non,.bl _=>true | .bl _,.non=>true | .non,.str _=>true | .str _,.non=>true
 | .int _,.int _=>true | .bl _,.bl _=>true | .str _,.str _=>true | .byt _,.byt _=>true
 | .int _,.str _=>true | .str _,.int _=>true | .bl _,.str _=>true | .str _,.bl _=>true
 | _,_=>false
def rEq:R2:=fun x y H Q=>JC x y=true/\Q (.bl (decide (x=y))) H
def rNe:R2:=fun x y H Q=>JC x y=true/\Q (.bl (!decide (x=y))) H
theorem V0{i j:Int}:decide (V.int i=V.int j)=(i == j):=by
 rw[cZ]
 simp
theorem Je{i j:Bool}:decide (V.bl i=V.bl j)=(i == j):=by
 rw[cZ]
 simp
theorem VT{i j:Str}:decide (V.str i=V.str j)=(i == j):=by
 rw[cZ]
 simp
theorem VD{i j:Array UInt8}:decide (V.byt i=V.byt j)=(i.toList == j.toList):=by
 rw[cZ]
 cases i
 cases j
 simp
section
variable{X:Cx}{a b c:Expr}{ta tb tc:TE}{pos:Pos}
theorem zQ{pins:List (Addr × Obj)}{σ:St}{H:Hp}{s:Shared}{Q:VK}{k k':Bool}(I:Inv X pins σ H s)(q:Q (.bl k) H)(e:k=k'):EP X pins σ Q (.bool k') s:=by
 subst e
 exact⟨.bl k,H,I,rfl,q⟩
theorem qT:OpR X (compareOp .Eq) rEq:=by
 intro pins s σ H x y v u Q I rx ry h
 obtain⟨hs,q⟩:=h
 cases x with
 | non =>
  cases rx
  cases y with
  | non=>cases ry;exact PySem.EqNone.eq_none_none (zQ I q (by simp))
  | bl j=>cases ry;exact PySem.EqNone.eq_none_bool (zQ I q (by simp))
  | int j=>obtain⟨t',rfl⟩:=ry;exact PySem.EqNone.eq_none_int (zQ I q (by simp))
  | str j=>obtain⟨t',rfl⟩:=ry;exact PySem.EqNone.eq_none_str (zQ I q (by simp))
  | _=>exact absurd (show false=true from hs) aF
 | bl i =>
  cases rx
  cases y with
  | non=>cases ry;exact PySem.EqNone.eq_bool_none (zQ I q (by simp))
  | bl j=>cases ry;exact eq_bool (zQ I q Je)
  | str j=>obtain⟨t',rfl⟩:=ry;exact PySem.EqMixed.eq_bool_str (zQ I q (by simp))
  | _=>exact absurd (show false=true from hs) aF
 | int i =>
  obtain⟨t,rfl⟩:=rx
  cases y with
  | non=>cases ry;exact PySem.EqNone.eq_int_none (zQ I q (by simp))
  | int j=>obtain⟨t',rfl⟩:=ry;exact eq_int (zQ I q V0)
  | str j=>obtain⟨t',rfl⟩:=ry;exact PySem.EqMixed.eq_int_str (zQ I q (by simp))
  | _=>exact absurd (show false=true from hs) aF
 | str i =>
  obtain⟨t,rfl⟩:=rx
  cases y with
  | non=>cases ry;exact PySem.EqNone.eq_str_none (zQ I q (by simp))
  | bl j=>cases ry;exact PySem.EqMixed.eq_str_bool (zQ I q (by simp))
  | int j=>obtain⟨t',rfl⟩:=ry;exact PySem.EqMixed.eq_str_int (zQ I q (by simp))
  | str j=>obtain⟨t',rfl⟩:=ry;exact eq_str (zQ I q VT)
  | _=>exact absurd (show false=true from hs) aF
 | byt i =>
  obtain⟨t,rfl⟩:=rx
  cases y with
  | byt j=>obtain⟨t',rfl⟩:=ry;exact PySem.W.eq_bytes (zQ I q VD)
  | _=>exact absurd (show false=true from hs) aF
 | _=>cases y <;> exact absurd (show false=true from hs) aF
theorem X7:OpR X (compareOp .NotEq) rNe:=by
 intro pins s σ H x y v u Q I rx ry h
 obtain⟨hs,q⟩:=h
 cases x with
 | non =>
  cases rx
  cases y with
  | non=>cases ry;exact PySem.EqNone.ne_none_none (zQ I q (by simp))
  | bl j=>cases ry;exact PySem.EqNone.ne_none_bool (zQ I q (by simp))
  | int j=>obtain⟨t',rfl⟩:=ry;exact PySem.EqNone.ne_none_int (zQ I q (by simp))
  | str j=>obtain⟨t',rfl⟩:=ry;exact PySem.EqNone.ne_none_str (zQ I q (by simp))
  | _=>exact absurd (show false=true from hs) aF
 | bl i =>
  cases rx
  cases y with
  | non=>cases ry;exact PySem.EqNone.ne_bool_none (zQ I q (by simp))
  | bl j=>cases ry;exact ne_bool (zQ I q (congrArg not Je))
  | str j=>obtain⟨t',rfl⟩:=ry;exact PySem.EqMixed.ne_bool_str (zQ I q (by simp))
  | _=>exact absurd (show false=true from hs) aF
 | int i =>
  obtain⟨t,rfl⟩:=rx
  cases y with
  | non=>cases ry;exact PySem.EqNone.ne_int_none (zQ I q (by simp))
  | int j=>obtain⟨t',rfl⟩:=ry;exact ne_int (zQ I q (congrArg not V0))
  | str j=>obtain⟨t',rfl⟩:=ry;exact PySem.EqMixed.ne_int_str (zQ I q (by simp))
  | _=>exact absurd (show false=true from hs) aF
 | str i =>
  obtain⟨t,rfl⟩:=rx
  cases y with
  | non=>cases ry;exact PySem.EqNone.ne_str_none (zQ I q (by simp))
  | bl j=>cases ry;exact PySem.EqMixed.ne_str_bool (zQ I q (by simp))
  | int j=>obtain⟨t',rfl⟩:=ry;exact PySem.EqMixed.ne_str_int (zQ I q (by simp))
  | str j=>obtain⟨t',rfl⟩:=ry;exact ne_str (zQ I q (congrArg not VT))
  | _=>exact absurd (show false=true from hs) aF
 | byt i =>
  obtain⟨t,rfl⟩:=rx
  cases y with
  | byt j=>obtain⟨t',rfl⟩:=ry;exact PySem.W.ne_bytes (zQ I q (congrArg not VD))
  | _=>exact absurd (show false=true from hs) aF
 | _=>cases y <;> exact absurd (show false=true from hs) aF
theorem op_lt:OpR X (compareOp .Lt) (rI0 fun i j=>.bl (decide (i<j))):=zbw fun _ _ _ _ _ _ _ q=>lt_int q
theorem op_le:OpR X (compareOp .LtE) (rI0 fun i j=>.bl (decide (i<=j))):=zbw fun _ _ _ _ _ _ _ q=>le_int q
theorem op_gt:OpR X (compareOp .Gt) (rI0 fun i j=>.bl (decide (j<i))):=zbw fun _ _ _ _ _ _ _ q=>gt_int q
theorem zb5:OpR X (compareOp .GtE) (rI0 fun i j=>.bl (decide (j<=i))):=zbw fun _ _ _ _ _ _ _ q=>ge_int q
theorem Vf:OpR X (compareOp .Lt) (fun x y H Q=>∃ i j,x=.str i/\y=.str j/\Q (.bl (decide (i.cps.toList<j.cps.toList))) H):=by
 intro pins s σ H x y v u Q I rx ry h
 obtain⟨i,j,rfl,rfl,q⟩:=h
 obtain⟨t,rfl⟩:=rx
 obtain⟨t',rfl⟩:=ry
 exact lt_str (zQ I q rfl)
theorem zbu:OpR X (compareOp .Is) (fun x y H Q=>y=.non/\Q (.bl (decide (x=.non))) H):=by
 intro pins s σ H x y v u Q I rx ry h
 obtain⟨rfl,q⟩:=h
 cases ry
 refine is_none_gen (zQ I q ?_)
 cases x <;> first
  | (cases rx;rfl)
  | (obtain⟨t,rfl⟩:=rx;rfl)
theorem JI:OpR X (compareOp .IsNot) (fun x y H Q=>y=.non/\Q (.bl (!decide (x=.non))) H):=by
 intro pins s σ H x y v u Q I rx ry h
 obtain⟨rfl,q⟩:=h
 cases ry
 refine isnot_none_gen (zQ I q ?_)
 cases x <;> first
  | (cases rx;rfl)
  | (obtain⟨t,rfl⟩:=rx;rfl)
theorem OpR.or{f:Value->Value->Sem Value}{r r':R2}(h:OpR X f r)(h':OpR X f r'):OpR X f (fun x y H Q=>r x y H Q\/r' x y H Q):=by
 intro pins s σ H x y v u Q I rx ry q
 rcases q with q | q
 ·exact h pins s σ H x y v u Q I rx ry q
 ·exact h' pins s σ H x y v u Q I rx ry q
theorem zK(b:Expr){op:CmpOp}(h:op≠.In:=by decide)(h2:op≠.NotIn:=by decide):behindInMarks op b=false:=by
 have e1:(op == CmpOp.In)=false:=by cases op <;> first | rfl | exact absurd rfl h
 have e2:(op == CmpOp.NotIn)=false:=by cases op <;> first | rfl | exact absurd rfl h2
 cases b <;> simp [behindInMarks,e1,e2]
theorem ui{op:CmpOp}{r:R2}(ho:OpR X (compareOp op) r)(ha:PE X a ta)(hb:PE X b tb)(hm:behindInMarks op b=false):PE X (.Compare a [op] [b] pos) (tOp r ta tb):=by
 intro pins s σ H Q I h
 exact wpAny_Compare1 (zcx ha hb I h fun v u s2 x y H2 I2 rx ry q=>ho pins s2 σ H2 x y v u Q I2 rx ry q) hm
def KG(t:TE):TT:=fun σ H Q=>t σ H fun x H'=>∃ k,x=.bl k/\Q k H'
theorem zI{op:CmpOp}{r:R2}(ho:OpR X (compareOp op) r)(ha:PE X a ta)(hb:PE X b tb)(hm:behindInMarks op b=false):PT X (.Compare a [op] [b] pos) (KG (tOp r ta tb)):=by
 intro pins s σ H Q I h
 refine wpAny_isTrue_Compare1 (thn (ha pins s σ H _ I h) fun v s1 ⟨x,H1,I1,r1,q1⟩=>thn (hb pins s1 σ H1 _ I1 q1) fun u s2 ⟨y,H2,I2,r2,q2⟩ =>
  thn (ho pins s2 σ H2 x y v u _ I2 r1 r2 q2) fun c s3 ⟨z,H3,I3,r3,k,e,q3⟩=>?_) hm
 subst e
 cases r3
 exact wpAny_truthy_bool ⟨H3,I3,q3⟩
def VP(r r':R2)(ta tb tc:TE):TE:=fun σ H Q=>ta σ H fun x H1=>tb σ H1 fun y H2=>r x y H2 fun z H3=>∃ k,z=.bl k /\
 (if k=true then tc σ H3 fun w' H4=>r' y w' H4 Q else Q (.bl false) H3)
theorem Qj{op op':CmpOp}{r r':R2}(ho:OpR X (compareOp op) r)(ho':OpR X (compareOp op') r')(ha:PE X a ta)(hb:PE X b tb)(hc:PE X c tc)
  (hm:lastMarks [op,op'] [b,c]=false:=by with_unfolding_all rfl):PE X (.Compare a [op,op'] [b,c] pos) (VP r r' ta tb tc):=by
 intro pins s σ H Q I h
 refine Compare_chain (thn (ha pins s σ H _ I h) fun v s1 ⟨x,H1,I1,r1,q1⟩=>chain_link (thn (hb pins s1 σ H1 _ I1 q1) fun u s2 ⟨y,H2,I2,r2,q2⟩ =>
  thn (ho pins s2 σ H2 x y v u _ I2 r1 r2 q2) fun d s3 ⟨z,H3,I3,r3,k,e,q3⟩=>?_)) hm
 subst e
 cases r3
 refine wpAny_truthy_bool ?_
 cases k with
 | false=>exact ite_ff ⟨.bl false,H3,I3,rfl,q3⟩
 | true=>exact ite_tt (chain_last (thn (hc pins s3 σ H3 _ I3 q3) fun w' s4 ⟨z',H4,I4,r4,q4⟩=>ho' pins s4 σ H4 y z' u w' Q I4 r2 r4 q4))
theorem kW{op op':CmpOp}{r r':R2}(ho:OpR X (compareOp op) r)(ho':OpR X (compareOp op') r')(ha:PE X a ta)(hb:PE X b tb)(hc:PE X c tc)
  (hm:lastMarks [op,op'] [b,c]=false:=by with_unfolding_all rfl):PT X (.Compare a [op,op'] [b,c] pos) (KG (VP r r' ta tb tc)):=by
 intro pins s σ H Q I h
 refine isTrue_chain (thn (ha pins s σ H _ I h) fun v s1 ⟨x,H1,I1,r1,q1⟩=>test_link (thn (hb pins s1 σ H1 _ I1 q1) fun u s2 ⟨y,H2,I2,r2,q2⟩ =>
  thn (ho pins s2 σ H2 x y v u _ I2 r1 r2 q2) fun d s3 ⟨z,H3,I3,r3,k,e,q3⟩=>?_)) hm
 subst e
 cases r3
 refine wpAny_truthy_bool ?_
 cases k with
 | false =>
  obtain⟨k',e',q'⟩:=q3
  cases e'
  exact ite_ff ⟨H3,I3,q'⟩
 | true =>
  refine ite_tt (test_last (thn (hc pins s3 σ H3 _ I3 q3) fun w' s4 ⟨z',H4,I4,r4,q4⟩=>thn (ho' pins s4 σ H4 y z' u w' _ I4 r2 r4 q4) fun d' s5 ⟨z2,H5,I5,r5,k2,e2,q5⟩=>?_))
  subst e2
  cases r5
  exact wpAny_truthy_bool ⟨H5,I5,q5⟩
def zac(K:oO)(x:V)(H:Hp)(k:Bool):Prop :=
 match x with
 | .non=>k=false
 | .bl b=>k=b
 | .int i=>k=(i != 0)
 | .str y=>y.length<=oN/\k=((y.length:Int) != 0)
 | .byt y=>y.size<=oN/\k=((y.size:Int) != 0)
 | .ref p=>(∃ xs,SqL K H p xs/\k=!xs.isEmpty)\/(∃ xs,SqT K H p xs/\k=!xs.isEmpty)\/∃ kvs,H p=some (.dK kvs)/\k=!kvs.isEmpty
 | _=>False
theorem X2{κ:Type}{kvs:List (κ × V)}{vs:List (κ × Value)}(r:KV kvs vs):(!vs.isEmpty)=!kvs.isEmpty:=by
 cases r <;> rfl
theorem jQ{xs:List V}{its:List Value}(r:Vals xs its):(!its.toArray.isEmpty)=!xs.isEmpty:=by
 cases r <;> simp
theorem Z4:(oN:Nat)<2 ^ 63:=by rw[sizeLine_eq];decide
theorem Q2:zdc X (fun x H Q=>∃ k,zac X.K x H k/\Q k H):=by
 intro pins s σ H x v Q I rx h
 obtain⟨k,e,q⟩:=h
 have hl:=Z4
 have hs:oN=16777216:=sizeLine_eq
 cases x with
 | non =>
  cases rx
  have e':k=false:=e
  subst e'
  exact truthy_none ⟨H,I,q⟩
 | bl b =>
  cases rx
  have e':k=b:=e
  subst e'
  exact wpAny_truthy_bool ⟨H,I,q⟩
 | int i =>
  obtain⟨t,rfl⟩:=rx
  have e':k=(i != 0):=e
  subst e'
  exact PySem.P.truthy_int ⟨H,I,q⟩
 | str y =>
  obtain⟨t,rfl⟩:=rx
  obtain⟨hy,e'⟩:y.length<=oN/\k=((y.length:Int) != 0):=e
  subst e'
  exact PySem.P.truthy_str (by omega) ⟨H,I.tok _,q⟩
 | byt y =>
  obtain⟨t,rfl⟩:=rx
  obtain⟨hy,e'⟩:y.size<=oN/\k=((y.size:Int) != 0):=e
  subst e'
  exact PySem.W.truthy_bytes (by omega) ⟨H,I.tok _,q⟩
 | ref p =>
  cases rx
  have e':(∃ xs,SqL X.K H p xs/\k=!xs.isEmpty)\/(∃ xs,SqT X.K H p xs/\k=!xs.isEmpty)\/∃ kvs,H p=some (.dK kvs)/\k=!kvs.isEmpty:=e
  rcases e' with ⟨xs,hx,e'⟩ | ⟨xs,hx,e'⟩ | ⟨kvs,hx,e'⟩
  ·subst e'
   obtain⟨its,r,pl,hz⟩:=I.list hx
   have hlen:=r.length
   exact wpAny_truthy_list pl.isList (by simp only[ao];omega) ⟨H,I.tok _,by rw[jQ r];exact q⟩
  ·subst e'
   obtain⟨its,r,pl,hz⟩:=I.tuple hx
   have hlen:=r.length
   exact truthy_tuple pl (by simp only[ao];omega) ⟨H,I.tok _,by rw[jQ r];exact q⟩
  ·subst e'
   obtain⟨hz,hS,vs,r,m⟩:kvs.length<=oN/\(p == sysModules)=false/\∃ vs,KV kvs vs/\s.heap.DictOf (Yf X.prog X.w) p vs:=I.hok p _ hx
   have hlen:kvs.length=vs.length:=Paired.length r
   exact wpAny_truthy_dict hS m (by omega) ⟨H,I.tok _,by rw[X2 r];exact q⟩
 | _=>exact (show False from e).elim
theorem YQ(ha:PE X a ta)(he:∀ whole,isTrue a X.env whole=(do let v <- whole;standAt a.pos;holding [v] (truthy v))) :
  PT X a (fun σ H Q=>ta σ H fun x H'=>∃ k,zac X.K x H' k/\Q k H'):=by
 intro pins s σ H Q I h
 exact isTrue_plain (thn (ha pins s σ H _ I h) fun v s1 ⟨x,H1,I1,r1,q1⟩=>Q2 pins s1 σ H1 x v Q I1 r1 q1) (he _)
theorem op_add_str:OpR X (binaryOp .Add) (fun x y H Q=>∃ i j,x=.str i/\y=.str j/\i.length+j.length<=oN/\Q (.str (i ++ j)) H):=by
 intro pins s σ H x y v u Q I rx ry h
 obtain⟨i,j,rfl,rfl,hz,q⟩:=h
 obtain⟨t,rfl⟩:=rx
 obtain⟨t',rfl⟩:=ry
 exact add_str (fun t' tk=>⟨.str (i ++ j),H,I.tok _,⟨_,rfl⟩,q⟩) hz
theorem wI{x:V}{us:List Value}(r:Vals [x] us):∃ u,us=[u]/\RelV x u:=by
 cases r with
 | cons r1 r2=>cases r2;exact⟨_,rfl,r1⟩
theorem Va{x y:V}{us:List Value}(r:Vals [x,y] us):∃ u w',us=[u,w']/\RelV x u/\RelV y w':=by
 cases r with
 | cons r1 r2 =>
  cases r2 with
  | cons r3 r4=>cases r4;exact⟨_,_,rfl,r1,r3⟩
theorem Uc(hc:X.calm=true):vJ X (.builtin "max") (fun xs H Q=>∃ i j,xs=[.int i,.int j]/\Q (.int (if j > i then j else i)) H):=by
 intro pins s σ H xs us Q I r h
 obtain⟨i,j,rfl,q⟩:=h
 obtain⟨u,w',rfl,⟨t,rfl⟩,⟨t',rfl⟩⟩:=Va r
 refine max_two_ints (I.ok.hd hc) fun h' tk k=>⟨_,H,I.kept k,?_,q⟩
 by_cases hj:j > i
 ·rw[if_pos hj,if_pos hj];exact⟨_,rfl⟩
 ·rw[if_neg hj,if_neg hj];exact⟨_,rfl⟩
theorem Ui:vJ X (.type "int") (fun xs H Q=>(∃ i,xs=[.int i]/\Q (.int i) H)\/∃ k,xs=[.bl k]/\Q (.int (if k then 1 else 0)) H):=by
 intro pins s σ H xs us Q I r h
 rcases h with ⟨i,rfl,q⟩ | ⟨k,rfl,q⟩
 ·obtain⟨u,rfl,t,rfl⟩:=wI r
  exact call_int_int ⟨.int i,H,I,⟨_,rfl⟩,q⟩
 ·obtain⟨u,rfl,r1⟩:=wI r
  cases r1
  exact call_int_bool ⟨.int (if k then 1 else 0),H,I.tok _,⟨_,rfl⟩,q⟩
def zcf(K:oO)(x:V)(H:Hp)(n:Nat):Prop :=
 match x with
 | .str y=>y.length<=oN/\n=y.length
 | .byt y=>y.size<=oN/\n=y.size
 | .ref p=>(∃ xs,SqL K H p xs/\n=xs.length)\/∃ xs,SqT K H p xs/\n=xs.length
 | _=>False
theorem UV:vJ X (.builtin "len") (fun xs H Q=>∃ x n,xs=[x]/\zcf X.K x H n/\Q (.int n) H):=by
 intro pins s σ H xs us Q I r h
 obtain⟨x,n,rfl,e,q⟩:=h
 obtain⟨u,rfl,rx⟩:=wI r
 have hl:=Z4
 have hs:oN=16777216:=sizeLine_eq
 cases x with
 | str y =>
  obtain⟨t,rfl⟩:=rx
  obtain⟨hy,e'⟩:y.length<=oN/\n=y.length:=e
  subst e'
  exact len_str (by omega) ⟨.int _,H,I.tok _,⟨_,rfl⟩,q⟩
 | byt y =>
  obtain⟨t,rfl⟩:=rx
  obtain⟨hy,e'⟩:y.size<=oN/\n=y.size:=e
  subst e'
  exact PySem.W.len_bytes (by omega) ⟨.int _,H,I.tok _,⟨_,rfl⟩,q⟩
 | ref p =>
  cases rx
  have e':(∃ xs,SqL X.K H p xs/\n=xs.length)\/∃ xs,SqT X.K H p xs/\n=xs.length:=e
  rcases e' with ⟨xs,hx,e'⟩ | ⟨xs,hx,e'⟩
  ·subst e'
   obtain⟨its,r',pl,hz⟩:=I.list hx
   have hlen:=r'.length
   exact Calls.call_len_list pl.isList (by simp only[ao];omega) ⟨.int xs.length,H,I.tok _,⟨_,by simp only[ao];rw[hlen]⟩,q⟩
  ·subst e'
   obtain⟨its,r',pl,hz⟩:=I.tuple hx
   have hlen:=r'.length
   exact len_tuple pl (by simp only[ao];omega) ⟨.int xs.length,H,I.tok _,⟨_,by simp only[ao];rw[hlen]⟩,q⟩
 | _=>exact (show False from e).elim
end
end L2
namespace L2
structure ObjM(h:Heap)(x dx C:Addr)(mA:Str->Option Value):Prop where
 obj:h.get? x=some (bZ C dx)
 ns:h.Ns1 dx mA
 ne:dx≠x
theorem WI{h:Heap}{dx:Addr}{mA:Str->Option Value}(n:h.Ns1 dx mA):∃ od,h.get? dx=some od/\∀ name,dH name od=some (mA name):=by
 obtain⟨o,es,ep,ho,hd,hk,_,hm⟩:=n
 refine⟨o,ho,fun name=>?_⟩
 have e:=hm name
 unfold nsFind findBy at e
 rw[<- Array.find?_toList] at e
 unfold dH
 rw[hd]
 dsimp only
 split
 ·rename_i y q
  rw[q] at e
  exact congrArg some e
 ·rename_i q
  rw[q] at e
  have a:es.toList.any (·.refKey)=false:=by
   rw[List.any_eq_false]
   intro y hy
   obtain⟨z,t,hkey⟩:=hk y (Array.mem_toList_iff.mp hy)
   simp [DictEntry.refKey,hkey]
  have a':¬ es.toList.any (·.refKey)=true:=by rw[a];exact aF
  rw[if_neg a']
  exact congrArg some e
theorem ObjM.look{h:Heap}{x dx C:Addr}{mA:Str->Option Value}(I:ObjM h x dx C mA):∃ od,PySem.W.InstAt h x (bZ C dx) C (some od)/\∀ name,dH name od=some (mA name) :=
 let ⟨od,ho,hl⟩:=WI I.ns
 ⟨od,⟨I.obj,rfl,rfl,ho⟩,hl⟩
section
variable{prog:Program}{w:World}{A:Around}{E:Value->Shared->Prop}{s:Shared}{K:oO}{x dx C f:Addr}{mA:Str->Option Value}{name:Str}{v:Value}
theorem Kc{expr:Bool}{Q:Value->Shared->Prop}(X:K.In s.heap)(I:ObjM s.heap x dx C mA)(hg:bT K C name=true)(hh:bQ K C=true)
  (ha:ah K (.ref C) name=some none) (hv:mA name=some v) (hv':fm v=true) (h:Q v { s with toks:=s.toks+1 }) :
  wpAny (model prog w) A (getAttr (.ref x) name expr) Q E s:=by
 obtain⟨od,J,hl⟩:=I.look
 exact PySem.W.get_value X J (dD hg).1 (PySem.W.findObj_own hh ha rfl (by rw[hl,hv])) hv' h
theorem UT{pl:Sem Bool}{Q:Value × List Value->Shared->Prop}(X:K.In s.heap)(I:ObjM s.heap x dx C mA)(hg:bT K C name=true)
  (hf:ah K (.ref C) name=some (some (.ref f))) (ht:bg K (.ref f)=true) (hv:mA name=none) (h:Q (.ref f,[.ref x]) s) :
  wpAny (model prog w) A (getMethod (.ref x) name pl) Q E s:=by
 obtain⟨od,J,hl⟩:=I.look
 exact PySem.W.method_fn X J (dD hg).1 (dD hg).2 hf (beq_iff_eq.mp ht) (by show (dH name od).map (·.isSome)=some false;rw[hl,hv];rfl) h
theorem JL{ns:List Str}{Q:Unit->Shared->Prop}(X:K.In s.heap)(I:ObjM s.heap x dx C mA)
  (hs:ah K (.ref C) "__setattr__" = some (some (.builtin "object.__setattr__"))) (hp:cz K C=true) (ht:eE K C name=some none) (hh:bQ K C=true)
  (hw:PySem.Within mA ns) (hsz:ns.length<=oN)
  (h:∀ h',ObjM h' x dx C (fun y=>if y=name then some v else mA y)->Heap.SameBut dx s.heap h'->Q () { s with heap:=h',toks:=s.toks+2 }) :
  wpAny (model prog w) A (setAttr (.ref x) name v) Q E s:=by
 obtain⟨od,J,hl⟩:=I.look
 refine fh X J hs (PySem.W.osa_open (s:={ s with toks:=s.toks+1 }) (r:=none) X J hp ht fun b=>?_)
 obtain⟨cd,hc,hd'⟩:=PySem.W.any_some hh
 have hx:s.heap.get? x=some ⟨.ref C,some dx,.plain,#[]⟩:=I.obj
 refine oH (oJ (oH (oH (wpAny_loadPart hx (oH (PySem.W.Looks.here (s:={ s with toks:=s.toks+1 }) (PySem.W.looks_clsIn X hc) ?_))))))
 rw[hd']
 refine oJ (a:=some dx) (oH (oJ (oH ?_)))
 refine wpAny_nsSet1 (s:={ s with toks:=s.toks+1 }) I.ns fun h' hn2 hs2=>?_
 obtain⟨oD,esD,epD,hoD,hdD,hcD⟩:=hn2.count (PySem.Within.cons name v hw)
 refine oH (wpAny_lookBehind hoD (by rw[hdD];exact pastItsLine_dict (aO hcD (by rw[aM];omega))) ?_)
 exact oJ (h _ ⟨(hs2.2 _ (Ne.symm I.ne)).trans I.obj,hn2,I.ne⟩ hs2)
theorem QI{R:Result->Shared->Prop}{vs:List Value}{kw:List (Str × Value)}(X:K.In s.heap)(hm:cK K C=true)
  (hi:ah K (.ref C) "__init__" = some (some (.ref f))) (hf:PySem.W.typeIn K (.ref f)=some (.type "function"))
  (h:codeAny (model prog w) (A.under (.builtin "type.__call__" ⟨.ref C::vs,kw⟩)) (.call (.ref f) ⟨.ref (s.heap.objs.size+1)::vs,kw⟩) (PySem.W.InitBack (s.heap.objs.size+1) R)
   { s with heap:=(s.heap.push bJ).push (bZ C s.heap.objs.size) }) :
  codeAny (model prog w) A (.call (.ref C) ⟨vs,kw⟩) R s:=by
 obtain⟨hh,g,d,t,os⟩:=s
 exact PySem.W.make_core (PySem.W.makes_of X hm) (cB X hi) (fun self=>fq X self hf) (.inl rfl) h
end
def ZR(f:Str)(v:V):List (Str × V)->List (Str × V)
  | []=>[(f,v)]
  | (g,x)::r=>if g=f then (g,v)::r else (g,x)::ZR f v r
theorem qI(f g:Str)(v:V):∀ fs:List (Str × V),(ZR f v fs).lookup g=if g=f then some v else fs.lookup g
  | []=>by
    show bq g [(f,v)]=_
    by_cases h:g=f
    . have hb:(g == f)=true:=beq_iff_eq.mpr h
      simp only[bq,hb,if_pos h]
    . have hb:(g == f)=false:=beq_eq_false_iff_ne.mpr h
      simp only[bq,hb,if_neg h]
  | (k,x)::r=>by
    have ih:=qI f g v r
    rw[show ZR f v ((k,x)::r)=(if k=f then (k,v)::r else (k,x)::ZR f v r) from rfl]
    by_cases hk:k=f
    . rw[if_pos hk]
      by_cases h:g=k
      . have hb:(g == k)=true:=beq_iff_eq.mpr h
        simp only[bq,hb,if_pos (h.trans hk)]
      . have hb:(g == k)=false:=beq_eq_false_iff_ne.mpr h
        simp only[bq,hb,if_neg (fun e:g=f=>h (e.trans hk.symm))]
    . rw[if_neg hk]
      by_cases h:g=k
      . have hb:(g == k)=true:=beq_iff_eq.mpr h
        simp only[bq,hb,if_neg (fun e:g=f=>hk (h.symm.trans e))]
      . have hb:(g == k)=false:=beq_eq_false_iff_ne.mpr h
        simp only[bq,hb]
        exact ih
theorem qG(f:Str)(v:V):∀ fs:List (Str × V),f ∈ (ZR f v fs).map (·.1)/\∀ g,g ∈ fs.map (·.1)->g ∈ (ZR f v fs).map (·.1)
  | []=>⟨by simp [ZR],fun g h=>by simp at h⟩
  | (k,x)::r=>by
    obtain⟨i1,i2⟩:=qG f v r
    rw[show ZR f v ((k,x)::r)=(if k=f then (k,v)::r else (k,x)::ZR f v r) from rfl]
    by_cases hk:k=f
    . rw[if_pos hk]
      subst hk
      exact⟨by simp,fun g h=>by simpa using h⟩
    . rw[if_neg hk]
      refine⟨?_,fun g h=>?_⟩
      . rw[aC]
        exact aw _ i1
      . rw[aC] at h ⊢
        rcases List.mem_cons.mp h with e | e
        . exact List.mem_cons.mpr (.inl e)
        . exact aw _ (i2 g e)
theorem qM(f:Str)(v:V):∀ fs:List (Str × V),(ZR f v fs).length<=fs.length+1
  | []=>by simp [ZR]
  | (k,x)::r=>by
    have ih:=qM f v r
    rw[show ZR f v ((k,x)::r)=(if k=f then (k,v)::r else (k,x)::ZR f v r) from rfl]
    by_cases hk:k=f
    . rw[if_pos hk,aM,aM];omega
    . rw[if_neg hk,aM,aM];omega
theorem RelO.some_of{v:V}{o:Option Value}(r:RelO (some v) o):∃ u,o=some u/\RelV v u:=by
 cases o with
 | none=>exact (show False from r).elim
 | some u=>exact⟨u,rfl,r⟩
theorem RelO.none_of{o:Option Value}(r:RelO none o):o=none:=by
 cases o with
 | none=>rfl
 | some u=>exact (show False from r).elim
theorem Uh{v:V}{u:Value}(r:RelV v u):fm u=true:=by
 cases v with
 | non=>cases (show u=Value.none from r);rfl
 | bl b=>cases (show u=Value.bool b from r);rfl
 | int i=>obtain⟨t,e⟩:=(show ∃ t,u=Value.int i t from r);cases e;rfl
 | str x=>obtain⟨t,e⟩:=(show ∃ t,u=Value.str x t from r);cases e;rfl
 | byt b=>obtain⟨t,e⟩:=(show ∃ t,u=Value.bytes b t from r);cases e;rfl
 | flt b=>obtain⟨t,e⟩:=(show ∃ t,u=Value.float b t from r);cases e;rfl
 | ref a=>cases (show u=Value.ref a from r);rfl
 | ty n=>cases (show u=Value.type n from r);rfl
section
variable{P:Program}{w:World}{H H':Hp}{h h':Heap}{a C dx:Addr}{fs fs':List (Str × V)}
theorem Ze(hok:HOk P w H h)(e:H a=some (.ins C dx fs)):∃ mA,ObjM h a dx C mA/\(∀ f,RelO (fs.lookup f) (mA f))/\PySem.Within mA (fs.map (·.1))/\fs.length<=1000/\H dx=some (.own a):=by
 obtain⟨d,z,ne,ob,mA,n,r,q⟩:=(show ObjOk P w H h a (.ins C dx fs) from hok a _ e)
 exact⟨mA,⟨ob,n,ne⟩,r,q,z,d⟩
end
structure Cls(K:oO)(C:Addr):Prop where
 pg:bT K C eF=true
 hd:bQ K C=true
 po:cz K C=true
 sa:ah K (.ref C) "__setattr__" = some (some (.builtin "object.__setattr__"))
theorem Cls.get{K:oO}{C:Addr}(c:Cls K C)(f:Str):bT K C f=true:=c.pg
def NoAttr(K:oO)(C:Addr)(f:Str):Prop:=ah K (.ref C) f=some none
theorem NoAttr.taker{K:oO}{C:Addr}{f:Str}(n:NoAttr K C f):eE K C f=some none:=by
 unfold eE
 rw[show ah K (.ref C) f=some none from n]
 rfl
structure zbp(K:oO)(C:Addr)(m:Str)(f:Addr):Prop where
 at_:ah K (.ref C) m=some (some (.ref f))
 fn:bg K (.ref f)=true
 kp:aj K (.ref f)=true
section
variable{X:Cx}{pins:List (Addr × Obj)}{σ:St}{H:Hp}{s:Shared}{a C dx:Addr}{fs:List (Str × V)}{f:Str}{v:V}{A:Around}{E:Value->Shared->Prop}
theorem Wj{b:Bool}{Q:Value->Shared->Prop}(I:Inv X pins σ H s)(e:H a=some (.ins C dx fs))(c:Cls X.K C)(n:NoAttr X.K C f)(l:fs.lookup f=some v)
  (h:∀ u s',Inv X pins σ H s'->RelV v u->Q u s'):wpAny (model X.prog X.w) A (getAttr (.ref a) f b) Q E s:=by
 obtain⟨mA,O,r,_,_,_⟩:=Ze I.hok e
 obtain⟨u,hu,ru⟩:=RelO.some_of (v:=v) (o:=mA f) (by rw[<- l];exact r f)
 exact Kc I.kIn O (c.get f) c.hd n hu (Uh ru) (h u _ (I.tok _) ru)
theorem wc{m:Str}{g:Addr}{pl:Sem Bool}{Q:Value × List Value->Shared->Prop}(I:Inv X pins σ H s)(e:H a=some (.ins C dx fs))(c:Cls X.K C)(k:zbp X.K C m g)(l:fs.lookup m=none)
  (h:Q (.ref g,[.ref a]) s):wpAny (model X.prog X.w) A (getMethod (.ref a) m pl) Q E s:=by
 obtain⟨mA,O,r,_,_,_⟩:=Ze I.hok e
 have hn:mA m=none:=RelO.none_of (by rw[<- l];exact r m)
 exact UT I.kIn O (c.get m) k.at_ k.fn hn h
theorem Wt{y:V}{u:Value}{Q:Unit->Shared->Prop}(I:Inv X pins σ H s)(e:H a=some (.ins C dx fs))(c:Cls X.K C)(n:NoAttr X.K C f)(hl:fs.length<1000)(ry:RelV y u)
  (h:∀ s',Inv X pins σ (upd H a (.ins C dx (ZR f y fs))) s'->Q () s'):wpAny (model X.prog X.w) A (setAttr (.ref a) f u) Q E s:=by
 obtain⟨mA,O,r,wi,_,ho⟩:=Ze I.hok e
 have hz:(fs.map (·.1)).length<=oN:=by rw[ae,sizeLine_eq];omega
 refine JL I.kIn O c.sa c.po n.taker c.hd wi hz fun h' O' sb=>h _ ?_
 have hd:∃ o,h'.get? dx=some o:=let ⟨o,_,_,e',_⟩:=O'.ns; ⟨o,e'⟩
 refine I.write (x:=a) (e:=dx) (by rw[e];exact True.intro) (.inr ho) (fun b q hb z=>(sb.2 b hb).trans z) hd ?_
 refine⟨by rw[zo O.ne];exact ho,?_,O.ne,O'.obj,_,O'.ns,fun g=>?_,fun g hg=>?_⟩
 ·have:=qM f y fs;omega
 ·show RelO ((ZR f y fs).lookup g) (if g=f then some u else mA g)
  rw[qI]
  by_cases q:g=f
  ·rw[if_pos q,if_pos q];exact ry
  ·rw[if_neg q,if_neg q];exact r g
 ·by_cases q:g=f
  ·rw[q];exact (qG f y fs).1
  ·refine (qG f y fs).2 g (wi g fun z=>hg ?_)
   show (if g=f then some u else mA g)=none
   rw[if_neg q];exact z
theorem Inv.made(I:Inv X pins σ H s):Inv X pins σ (upd (upd H s.heap.objs.size (.own (s.heap.objs.size+1))) (s.heap.objs.size+1) (.ins C s.heap.objs.size []))
  { s with heap:=(s.heap.push bJ).push (bZ C s.heap.objs.size) }:=by
 have e1:(s.heap.push bJ).get? s.heap.objs.size=some bJ:=aI s.heap rfl
 have e2:((s.heap.push bJ).push (bZ C s.heap.objs.size)).get? (s.heap.objs.size+1)=some (bZ C s.heap.objs.size):=by
  have:=aI (s.heap.push bJ) (o:=bZ C s.heap.objs.size) rfl
  rwa [bH] at this
 have e3:(s.heap.push bJ).Ns s.heap.objs.size (fun _=>none):=⟨bJ,#[],_,e1,rfl,(fun e he=>absurd he (by simp)),fun _=>rfl⟩
 have I1:=I.laid (a:=s.heap.objs.size) (o:=.own (s.heap.objs.size+1)) (h':=s.heap.push bJ) (t':=s.toks) (fun b u q=>aa _ q) (au _) ⟨_,e1⟩
 refine I1.laid (a:=s.heap.objs.size+1) (o:=.ins C s.heap.objs.size []) (t':=s.toks) (fun b u q=>aa _ q) (Nat.le_of_eq (bH _ _)) ?_
 have ne:s.heap.objs.size≠s.heap.objs.size+1:=aE (d4 _)
 refine⟨by rw[zo ne,zf],aJ _,ne,e2,fun _=>none,(Heap.Ns1.of_empty e3).at fun o q=>aa _ q,fun _=>True.intro,fun y hy=>absurd rfl hy⟩
theorem J0{prog:Program}{w:World}{env:Env}{e:Expr}{f:Str}{pos:Pos}{s:Shared}{Q:Value->Shared->Prop}(hb:attributeBase e f env (eval e env)=eval e env)
  (h:wpAny (model prog w) A (eval e env) (fun o s₁=>wpAny (model prog w) A (getAttr o f true) Q E s₁) E s):wpAny (model prog w) A (eval (.Attribute e f pos) env) Q E s :=
 Attribute_any_ h (by rw[arm_eval_Attribute,hb])
end
def zal(K:oO)(ta:TE)(f:Str):TE:=fun σ H Q=>ta σ H fun x H1=>∃ a C dx fs v,x=.ref a/\H1 a=some (.ins C dx fs)/\Cls K C/\NoAttr K C f/\fs.lookup f=some v/\Q v H1
def zc1(K:oO)(ta tv:TE)(f:Str):TS:=fun D σ H=>tv σ H fun y H1=>ta σ H1 fun x H2=>∃ a C dx fs,x=.ref a/\H2 a=some (.ins C dx fs)/\Cls K C/\NoAttr K C f/\fs.length<1000 /\
 D.nx σ (upd H2 a (.ins C dx (ZR f y fs)))
section
variable{X:Cx}{o e value:Expr}{f:Str}{pos pos' tpos:Pos}{ta tv:TE}
theorem Xz(he:PE X e ta)(hb:attributeBase e f X.env (eval e X.env)=eval e X.env):PE X (.Attribute e f pos) (zal X.K ta f):=by
 intro pins s σ H Q I h
 refine J0 hb (thn (he pins s σ H _ I h) fun u s1 ⟨x,H1,I1,rx,a,C,dx,fs,v,ex,ea,c,n,l,q⟩=>?_)
 subst ex
 obtain rfl:u=Value.ref a:=rx
 exact Wj I1 ea c n l fun u' s2 I2 ru=>⟨v,H1,I2,ru,q⟩
theorem Y6(ha:PE X o ta)(hv:PE X value tv)(hs:swapsWith value (some (.Attribute o f pos')) pos.line X.env=pure false):PS X (.Assign [.Attribute o f pos'] value pos) (zc1 X.K ta tv f):=by
 intro pins s σ H D I h
 refine plainObj_wpAny_Assign_Attribute (thn (hv pins s σ H _ I h) fun u s1 ⟨y,H1,I1,ry,q⟩=>thn (ha pins s1 σ H1 _ I1 q) fun ov s2 ⟨x,H2,I2,rx,a,C,dx,fs,ex,ea,c,n,l,q2⟩=>?_) hs
 subst ex
 obtain rfl:ov=Value.ref a:=rx
 exact Wt I2 ea c n l ry fun s3 I3=>⟨σ,_,I3,q2⟩
theorem Kr{pl:Sem Bool}{m:Str}{apos:Pos}{args:List Expr}{pins:List (Addr × Obj)}{s:Shared}{σ:St}{H:Hp}{Q:Value->Shared->Prop}{te:TE}(he:PE X e te)(I:Inv X pins σ H s)
    (h:te σ H fun x H1=>∃ a C dx fs g,x=.ref a/\H1 a=some (.ins C dx fs)/\Cls X.K C/\zbp X.K C m g/\fs.lookup m=none /\
      ∀ s1,Inv X pins σ H1 s1->wpAny (model X.prog X.w) X.A (callWith pos (.ref g) [.ref a] (backTo pos (oM args X.env)) (backToKw pos (keywordEach [] X.env))) Q X.xe s1)
    (ht:eval (.Call (.Attribute e m apos) args [] pos) X.env=(do
      let ov <- eval e X.env
      standAt apos.atName
      let (f,first) <- holding [ov] (getMethod ov m pl)
      callWith pos f first (backTo pos (oM args X.env)) (backToKw pos (keywordEach [] X.env)))) :
    wpAny (model X.prog X.w) X.A (eval (.Call (.Attribute e m apos) args [] pos) X.env) Q X.xe s:=by
  refine bV (pl:=pl) (thn (he pins s σ H _ I h) fun u s1 ⟨x,H1,I1,rx,a,C,dx,fs,g,ex,ea,c,k,l,q⟩=>?_) ht
  subst ex
  obtain rfl:u=Value.ref a:=rx
  exact wc I1 ea c k l (q s1 I1)
end
section
variable{X:Cx}{pins:List (Addr × Obj)}{σ:St}{H:Hp}{s:Shared}{A:Around}{E:Value->Shared->Prop}{Q:Value->Shared->Prop}{c:Value}{b:Bool}
inductive YM(K:oO)(H:Hp):V->Value->Prop where
 | non:YM K H .non (.type "NoneType")
 | bl (x:Bool):YM K H (.bl x) (.type "bool")
 | int (i:Int):YM K H (.int i) (.type "int")
 | str (x:Str):YM K H (.str x) (.type "str")
 | flt (x:UInt64):YM K H (.flt x) (.type "float")
 | lst {a:Addr} {xs:List V} (e:H a=some (.lst xs)):YM K H (.ref a) (.type "list")
 | frz {a:Addr} {o:Obj} {xs:List V} (e:H a=some (.frz o (.lst xs))):YM K H (.ref a) (.type "list")
 | tup {a:Addr} {xs:List V} (e:H a=some (.tup xs)):YM K H (.ref a) (.type "tuple")
 | dK {a:Addr} {kvs:List (Key × V)} (e:H a=some (.dK kvs)):YM K H (.ref a) (.type "dict")
 | dT {a:Addr} {kvs:List (List Key × V)} (e:H a=some (.dT kvs)):YM K H (.ref a) (.type "dict")
 | ins {a C dx:Addr} {fs:List (Str × V)} (e:H a=some (.ins C dx fs)) (cl:Cls K C) (ha:ah K (.ref C) "__class__" = some (some (.builtin "object.__class__")))
   (hn:cA K (.builtin "object.__class__") "__get__" = some (some (.builtin "getset_descriptor.__get__"))) (htk:du K (.builtin "object.__class__")=some true)
   (hm:bP K C (.type "object")=some true):YM K H (.ref a) (.ref C)
theorem WA{x:V}{u t:Value}(I:Inv X pins σ H s)(rx:RelV x u)(ty:YM X.K H x t)(e:aT X.K t c=some b)(h:∀ tk,Q (.bool b) { s with toks:=tk }) :
  wpAny (model X.prog X.w) A (call (.builtin "isinstance") [u,c]) Q E s:=by
 cases ty with
 | non=>cases (show u=Value.none from rx);exact bn PySem.W.kitx_none I.kIn True.intro e (fun z=>nomatch z) h
 | bl y=>cases (show u=Value.bool y from rx);exact bn PySem.W.kitx_bool I.kIn True.intro e (fun z=>nomatch z) h
 | int i=>obtain⟨t,q⟩:=(show ∃ t,u=Value.int i t from rx);cases q;exact bn PySem.W.kitx_int I.kIn True.intro e (fun z=>nomatch z) h
 | str y=>obtain⟨t,q⟩:=(show ∃ t,u=Value.str y t from rx);cases q;exact bn PySem.W.kitx_str I.kIn True.intro e (fun z=>nomatch z) h
 | flt y=>obtain⟨t,q⟩:=(show ∃ t,u=Value.float y t from rx);cases q;exact bn PySem.W.kitx_float I.kIn True.intro e (fun z=>nomatch z) h
 | @lst a xs ea =>
  cases (show u=Value.ref a from rx)
  obtain⟨_,_,n,_,h1⟩:=(show ObjOk X.prog X.w H s.heap a (.lst xs) from I.hok a _ ea)
  exact bn dP I.kIn ⟨_,h1,rfl⟩ e (fun z=>nomatch z) h
 | @frz a ob xs ea =>
  cases (show u=Value.ref a from rx)
  obtain⟨_,_,_,n,_,h1⟩:=(show ObjOk X.prog X.w H s.heap a (.frz ob (.lst xs)) from I.hok a _ ea)
  exact bn dP I.kIn ⟨_,h1,rfl⟩ e (fun z=>nomatch z) h
 | @tup a xs ea =>
  cases (show u=Value.ref a from rx)
  obtain⟨_,_,_,p⟩:=(show ObjOk X.prog X.w H s.heap a (.tup xs) from I.hok a _ ea)
  obtain⟨o,h1,h2,_⟩:=p
  exact bn eZ I.kIn ⟨o,h1,h2⟩ e (fun z=>nomatch z) h
 | @dK a kvs ea =>
  cases (show u=Value.ref a from rx)
  obtain⟨_,_,vs,_,p⟩:=(show ObjOk X.prog X.w H s.heap a (.dK kvs) from I.hok a _ ea)
  obtain⟨o,es,ep,h1,h2,_⟩:=p
  exact bn fj I.kIn ⟨o,h1,h2.1⟩ e (fun z=>nomatch z) h
 | @dT a kvs ea =>
  cases (show u=Value.ref a from rx)
  obtain⟨_,_,xs,_,o,es,ep,h1,h2,_⟩:=(show ObjOk X.prog X.w H s.heap a (.dT kvs) from I.hok a _ ea)
  exact bn fj I.kIn ⟨o,h1,h2.1⟩ e (fun z=>nomatch z) h
 | @ins a C dx fs ea cl ha hn htk hm =>
  cases (show u=Value.ref a from rx)
  obtain⟨mA,O,_⟩:=Ze I.hok ea
  obtain⟨od,J,_⟩:=O.look
  exact bn (PySem.W.kitx_own (cl.get _) cl.hd ha hn htk hm) I.kIn J e (fun z=>nomatch z) h
end
end L2
namespace L2
structure Room(k:Nat)(A:Around):Prop where
 hd:A.handled=none
 dp:A.depth+3 * k+5<recursionLimit
 un:A.units+16 * k+200<cLine
theorem Room.mono{j k:Nat}{A:Around}(r:Room k A)(h:j<=k):Room j A:=⟨r.hd,by have:=r.dp;omega,by have:=r.un;omega⟩
theorem Room.deeper{k:Nat}{A:Around}(r:Room (k+1) A)(env:Env):Room k (A.deeper env) :=
 ⟨r.hd,by have:=r.dp;show A.depth+1+3 * k+5<_;omega,by have:=r.un;show A.units+3+16 * k+200<_;omega⟩
theorem Room.in1{k:Nat}{A:Around}(r:Room (k+1) A):Room k A.in1 :=
 ⟨r.hd,by have:=r.dp;show A.depth+3 * k+5<_;omega,by have:=r.un;show A.units+1+16 * k+200<_;omega⟩
theorem Wu{A:Around}{C:Addr}{us:List Value}{kw:List (Str × Value)}:(A.under (.builtin "type.__call__" ⟨.ref C::us,kw⟩)).depth=A.depth+1:=by
 first | rfl | simp [Around.under,Code.weight,Code.isCreation,Code.isGuard,Code.isCaller,Code.frames,Code.isFrame,guardIds]
theorem Wn{A:Around}{C:Addr}{us:List Value}{kw:List (Str × Value)}:(A.under (.builtin "type.__call__" ⟨.ref C::us,kw⟩)).units=A.units+1:=by
 first | rfl | simp [Around.under,Code.cUnits,Code.frames,Code.isFrame]
theorem Room.make{k:Nat}{A:Around}(r:Room (k+1) A)(C:Addr)(us:List Value)(kw:List (Str × Value)):Room k (A.under (.builtin "type.__call__" ⟨.ref C::us,kw⟩)) :=
 ⟨r.hd,by have:=r.dp;rw[Wu];omega,by have:=r.un;rw[Wn];omega⟩
theorem Room.depth{k:Nat}{A:Around}(r:Room k A):A.depth<recursionLimit:=by have:=r.dp;omega
theorem Room.units{k:Nat}{A:Around}(r:Room k A):A.units+64<cLine:=by have:=r.un;omega
def vf:TA:=fun _ H Q=>Q [] H
def zP(ta:TE)(tr:TA):TA:=fun σ H Q=>ta σ H fun x H1=>tr σ H1 fun xs H2=>Q (x::xs) H2
section
variable{X:Cx}{e:Expr}{es:List Expr}{te:TE}{t:TA}{pos:Pos}
theorem ze:PA X [] vf:=fun _ _ _ _ H Q I h=>Calls.spliced_nil ⟨[],H,I,.nil,h⟩
theorem za(ha:PE X e te)(hr:PA X es t)(hs:oM (e::es) X.env=(false,eval e X.env)::oM es X.env:=by rfl):PA X (e::es) (zP te t):=by
 intro pos pins s σ H Q I h
 rw[hs]
 show wpAny _ _ (spliced ((false,eval e X.env)::backTo pos (oM es X.env))) _ _ s
 refine Calls.spliced_cons (thn (ha pins s σ H _ I h) fun u s1 ⟨x,H1,I1,r1,q1⟩=>?_)
 exact thn (hr pos pins s1 σ H1 _ I1 q1) fun us s2 ⟨xs,H2,I2,r2,q2⟩=>⟨x::xs,H2,I2,.cons r1 r2,q2⟩
def Uz(t:TA):TE:=fun σ H Q=>t σ H fun xs H1=>xs.length<=oN/\∀ p,H1 p=none->Q (.ref p) (upd H1 p (.tup xs))
def zcq(t:TA):TE:=fun σ H Q=>t σ H fun xs H1=>xs.length<=oN/\∀ p,H1 p=none->Q (.ref p) (upd H1 p (.lst xs))
theorem z9{x1}(h:PA X es t):PE X (.Tuple es x1 pos) (Uz t):=by
 intro pins s σ H Q I hq
 refine wpAny_Tuple_spliced (thn (h pos pins s σ H _ I hq) fun us s1 ⟨xs,H1,I1,r,z,q⟩=>⟨by rw[<- r.length];exact z,?_⟩)
 have hf:H1 s1.heap.objs.size=none:=I1.hok.fresh (au _)
 refine⟨.ref s1.heap.objs.size,upd H1 s1.heap.objs.size (.tup xs),I1.laid (t':=s1.toks) (fun b u e=>aa _ e) (au _) ?_,rfl,q _ hf⟩
 exact⟨z,us,r,⟨_,aI _ rfl,rfl,_,rfl⟩⟩
theorem xR(h:PA X es t):PE X (.List es pos) (zcq t):=by
 intro pins s σ H Q I hq
 refine wpAny_List_spliced (thn (h pos pins s σ H _ I hq) fun us s1 ⟨xs,H1,I1,r,z,q⟩=>⟨by rw[<- r.length];exact z,?_⟩)
 have hf:H1 s1.heap.objs.size=none:=I1.hok.fresh (au _)
 refine⟨.ref s1.heap.objs.size,upd H1 s1.heap.objs.size (.lst xs),I1.laid (t':=s1.toks) (fun b u e=>aa _ e) (au _) ?_,rfl,q _ hf⟩
 exact⟨z,us,0,r,aI _ rfl⟩
end
abbrev Sp:=List V->Hp->VK->XK->Prop
abbrev CXT:=List Env->Hp->Shared->XK->Value->Shared->Prop
structure Env0(P:Program)(w:World)(K:oO)(mg:Str->Option Value)(base:Heap)(A:Around)(outer:List Env)(s:Shared)(H:Hp):Prop where
 frames:A.frames=some outer
 mod:Mod K mg base
 bs:∀ b o,base.get? b=some o->s.heap.get? b=some o/\H b=none
 bsz:base.objs.size<=s.heap.objs.size
 funs:s.heap.FunFrames base outer
 frf:∀ b ∈ frs outer,H b=none
 hok:HOk P w H s.heap
 bare:AllBare s.gens
def CE(outer:List Env)(P:Program)(w:World)(H:Hp)(s:Shared)(Q:VK)(u:Value)(s':Shared):Prop :=
 ∃ v H',s'.os=s.os/\AllBare s'.gens/\Un (frs outer) [] H H' s.heap s'.heap/\HOk P w H' s'.heap/\RelV v u/\Q v H'
def CR(CX:CXT)(outer:List Env)(P:Program)(w:World)(H:Hp)(s:Shared)(Q:VK)(E:XK)(r:Result)(s':Shared):Prop :=
 match r with
 | .ok (.ret u)=>CE outer P w H s Q u s'
 | .ok _=>False
 | .error e=>CX outer H s E e s'
structure FnOk(P:Program)(w:World)(K:oO)(mg:Str->Option Value)(base:Heap)(CX:CXT)(k:Nat)(f:Addr)(fd:FuncData)(ps:List Str)(sp:Sp):Prop where
 len:∀ vs H Q E,sp vs H Q E->vs.length=ps.length
 run:∀(A:Around) (outer:List Env) (s:Shared) (H:Hp) (args:Args) (us:List Value) (vs:List V) (Q:VK) (E:XK),Room k A->Env0 P w K mg base A outer s H->BindsTo s fd args (ps.zip us)->Vals vs us->sp vs H Q E ->
  codeAny (model P w) A (.call (.ref f) args) (CR CX outer P w H s Q E) s
theorem FnOk.imp{P:Program}{w:World}{K:oO}{mg:Str->Option Value}{base:Heap}{CX:CXT}{k:Nat}{f:Addr}{fd:FuncData}{ps:List Str}{sp sp':Sp}(F:FnOk P w K mg base CX k f fd ps sp)
  (h:∀ vs H Q E,sp' vs H Q E->sp vs H Q E):FnOk P w K mg base CX k f fd ps sp' :=
 ⟨fun vs H Q E q=>F.len vs H Q E (h _ _ _ _ q),fun A outer s H args us vs Q E hr he hb hv hs=>F.run A outer s H args us vs Q E hr he hb hv (h _ _ _ _ hs)⟩
theorem Env0.make{P:Program}{w:World}{K:oO}{mg:Str->Option Value}{base:Heap}{A:Around}{outer:List Env}{s:Shared}{H:Hp}(e:Env0 P w K mg base A outer s H)(C:Addr)(us:List Value)(kw:List (Str × Value)) :
  Env0 P w K mg base (A.under (.builtin "type.__call__" ⟨.ref C::us,kw⟩)) outer s H:=⟨by first | exact e.frames | (simpa [Around.under,Code.envs,Code.isFrame,pushEnvs] using e.frames),e.mod,e.bs,e.bsz,e.funs,e.frf,e.hok,e.bare⟩
section
variable{X:Cx}{pins:List (Addr × Obj)}{σ:St}{H:Hp}{s s':Shared}
theorem Inv.env0(I:Inv X pins σ H s):Env0 X.prog X.w X.K X.mg X.base X.A X.stack s H :=
 ⟨I.ok.frames,I.ok.mod,I.bs,aO I.ok.bsz I.sz,I.stack,I.stkFree,I.hok,I.bare⟩
theorem Inv.after{Q:VK}{u:Value}(I:Inv X pins σ H s)(h:CE X.stack X.prog X.w H s Q u s'):EP X pins σ Q u s':=by
 obtain⟨v,H',os,bare,un,hok,r,q⟩:=h
 obtain⟨hh,g,d,t,os'⟩:=s'
 obtain rfl:os'=s.os:=os
 exact⟨v,H',I.call (h':=hh) (g':=g) (d':=d) (t':=t) (ch:=[]) un hok bare (fun b z=>absurd z (by simp)),r,q⟩
end
def jt(sp:Sp)(dvs:List V)(E:XK)(t:TA):TE:=fun σ H Q=>t σ H fun vs H1=>sp (vs ++ dvs) H1 Q E
def ZV(C:Addr)(m:Str)(sp:Sp)(dvs:List V)(E:XK)(ta:TE)(t:TA):TE:=fun σ H Q=>ta σ H fun x H1=>∃ a dx fs,x=.ref a/\H1 a=some (.ins C dx fs)/\fs.lookup m=none /\
 t σ H1 fun vs H2=>sp (x::(vs ++ dvs)) H2 Q E
def Qx(C:Addr)(sp:Sp)(dvs:List V)(E:XK)(t:TA):TE:=fun σ H Q=>t σ H fun vs H1=>∀ x dx,H1 x=none->H1 dx=none->dx≠x ->
 sp (.ref x::(vs ++ dvs)) (upd (upd H1 dx (.own x)) x (.ins C dx [])) (fun v H2=>v=.non/\Q (.ref x) H2) E
def Binds(K:oO)(fd:FuncData)(ps:List Str)(ds:List Value):Prop :=
 ∀(s:Shared) (us:List Value),K.In s.heap->(us ++ ds).length=ps.length->BindsTo s fd ⟨us,[]⟩ (ps.zip (us ++ ds))
theorem Binds.all{K:oO}{fd:FuncData}{ps:List Str}(h:∀ us:List Value,us.length=ps.length->bindArgs fd ⟨us,[]⟩=pure (ps.zip us)):Binds K fd ps []:=fun s us _ hl=>by
 rw[aS] at hl ⊢
 exact .of_eq (h us hl)
def uz(CX:CXT)(X:Cx)(E:XK):Prop:=∀(pins:List (Addr × Obj)) (σ:St) (H:Hp) (s:Shared) (e:Value) (s':Shared),Inv X pins σ H s->CX X.stack H s E e s'->X.xe e s'
section
variable{X:Cx}{CX:CXT}{k:Nat}{f C:Addr}{fd:FuncData}{ps:List Str}{sp:Sp}{dvs:List V}{ds:List Value}{E:XK}{x m:Str}{p pos apos:Pos}{e o:Expr}{es:List Expr}{ta:TE}{t:TA}
theorem jX{pins:List (Addr × Obj)}{σ:St}{H:Hp}{s:Shared}{Q:VK}{us:List Value}{vs:List V}(F:FnOk X.prog X.w X.K X.mg X.base CX k f fd ps sp)(hr:Room k X.A)(hb:Binds X.K fd ps ds)(hd:Vals dvs ds)(hx:uz CX X E)
  (I:Inv X pins σ H s) (r:Vals vs us) (h:sp (vs ++ dvs) H Q E):wpAny (model X.prog X.w) X.A (call (.ref f) us) (EP X pins σ Q) X.xe s:=by
 have r2:Vals (vs ++ dvs) (us ++ ds):=r.append hd
 have hl:(us ++ ds).length=ps.length:=by rw[<- r2.length];exact F.len _ _ _ _ h
 refine wpAny_call (codeAny_mono (F.run X.A X.stack s H ⟨us,[]⟩ (us ++ ds) (vs ++ dvs) Q E hr I.env0 (hb s us I.kIn hl) r2 h) fun r s' hq=>?_)
 cases r with
 | error e=>exact hx pins σ H s e s' I hq
 | ok fl =>
  cases fl with
  | ret u=>exact I.after hq
  | next=>exact False.elim hq
  | brk=>exact False.elim hq
  | cont=>exact False.elim hq
theorem WS(F:FnOk X.prog X.w X.K X.mg X.base CX k f fd ps sp)(hr:Room k X.A)(hg:Gl X x)(hm:X.mg x=some (.ref f))(hk:aj X.K (.ref f)=true)(hb:Binds X.K fd ps ds)(hd:Vals dvs ds)(hx:uz CX X E)
  (ha:PA X (e::es) t) (hdb:(x == ("__debug__" : Str))=false:=by decide) (he:oM (e::es) X.env=(false,eval e X.env)::oM es X.env:=by rfl) (hpl:(backTo pos (oM es X.env)).any (·.1)=false:=by rfl) :
  PE X (.Call (.Name x p) (e::es) [] pos) (jt sp dvs E t):=by
 intro pins s σ H Q I h
 refine wpAny_Call_Name_kw (vA I hg hm ?_ hdb)
 refine bN (h₀:=X.base) I.ok.mod.kin hk (thn (ha pos pins s σ H _ I h) fun us s1 ⟨vs,H1,I1,r,q⟩=>⟨I1.kIn,?_⟩) he hpl
 exact jX F hr hb hd hx I1 r q
theorem Kk{pl:Sem Bool}(he:PE X o ta)(c:Cls X.K C)(hm:zbp X.K C m f)(F:FnOk X.prog X.w X.K X.mg X.base CX k f fd ps sp)(hr:Room k X.A)(hb:Binds X.K fd ps ds)(hd:Vals dvs ds)(hx:uz CX X E)(ha:PA X (e::es) t)
    (hst:oM (e::es) X.env=(false,eval e X.env)::oM es X.env:=by rfl) (hpl:(backTo pos (oM es X.env)).any (·.1)=false:=by rfl)
    (ht:eval (.Call (.Attribute o m apos) (e::es) [] pos) X.env=(do
      let ov <- eval o X.env
      standAt apos.atName
      let (f,first) <- holding [ov] (getMethod ov m pl)
      callWith pos f first (backTo pos (oM (e::es) X.env)) (backToKw pos (keywordEach [] X.env))):=by rfl) :
    PE X (.Call (.Attribute o m apos) (e::es) [] pos) (ZV C m sp dvs E ta t):=by
  intro pins s σ H Q I h
  refine bV (pl:=pl) (thn (he pins s σ H _ I h) fun u s1 ⟨x,H1,I1,rx,a,dx,fs,ex,ea,l,q⟩=>?_) ht
  subst ex
  obtain rfl:u=Value.ref a:=rx
  refine wc I1 ea c hm l ?_
  refine bN (first:=[.ref a]) (h₀:=X.base) I.ok.mod.kin hm.kp (thn (ha pos pins s1 σ H1 _ I1 q) fun us s2 ⟨vs,H2,I2,r,q2⟩=>⟨I2.kIn,?_⟩) hst hpl
  exact jX (us:=.ref a::us) (vs:=.ref a::vs) F hr hb hd hx I2 (.cons rfl r) q2
theorem UG{pl:Sem Bool}(he:PE X o ta)(c:Cls X.K C)(hm:zbp X.K C m f)(F:FnOk X.prog X.w X.K X.mg X.base CX k f fd ps sp)(hr:Room k X.A)(hb:Binds X.K fd ps ds)(hd:Vals dvs ds)(hx:uz CX X E)
    (ht:eval (.Call (.Attribute o m apos) [] [] pos) X.env=(do
      let ov <- eval o X.env
      standAt apos.atName
      let (f,first) <- holding [ov] (getMethod ov m pl)
      callWith pos f first (backTo pos (oM [] X.env)) (backToKw pos (keywordEach [] X.env))):=by rfl) :
    PE X (.Call (.Attribute o m apos) [] [] pos) (ZV C m sp dvs E ta vf):=by
  intro pins s σ H Q I h
  refine bV (pl:=pl) (thn (he pins s σ H _ I h) fun u s1 ⟨x,H1,I1,rx,a,dx,fs,ex,ea,l,q⟩=>?_) ht
  subst ex
  obtain rfl:u=Value.ref a:=rx
  refine wc I1 ea c hm l ?_
  exact eW (first:=[.ref a]) I1.kIn hm.kp (jX (us:=[.ref a]) (vs:=[.ref a]) F hr hb hd hx I1 (.cons rfl .nil) q)
structure Mk(K:oO)(C f:Addr):Prop where
 makes:cK K C=true
 init:ah K (.ref C) "__init__" = some (some (.ref f))
 fn:bg K (.ref f)=true
 kp:aj K (.ref C)=true
theorem Qy{pins:List (Addr × Obj)}{σ:St}{H:Hp}{s:Shared}{Q:VK}{us:List Value}{vs:List V}(M:Mk X.K C f)(F:FnOk X.prog X.w X.K X.mg X.base CX k f fd ps sp)(hr:Room (k+1) X.A)(hb:Binds X.K fd ps ds)(hd:Vals dvs ds)
  (hx:uz CX X E) (I:Inv X pins σ H s) (r:Vals vs us)
  (h:∀ x dx,H x=none->H dx=none->dx≠x->sp (.ref x::(vs ++ dvs)) (upd (upd H dx (.own x)) x (.ins C dx [])) (fun v H2=>v=.non/\Q (.ref x) H2) E) :
  wpAny (model X.prog X.w) X.A (call (.ref C) us) (EP X pins σ Q) X.xe s:=by
 have hq:=h (s.heap.objs.size+1) s.heap.objs.size (I.hok.fresh (cC _)) (I.hok.fresh (au _)) (aE (d4 _))
 have I2:=Inv.made (C:=C) I
 have r2:Vals (V.ref (s.heap.objs.size+1)::(vs ++ dvs)) (Value.ref (s.heap.objs.size+1)::(us ++ ds)):=.cons rfl (r.append hd)
 have hl:(Value.ref (s.heap.objs.size+1)::us ++ ds).length=ps.length:=by
  have e:=r2.length
  rw[F.len _ _ _ _ hq] at e
  exact e.symm
 refine wpAny_call (QI (f:=f) I.kIn M.makes M.init (beq_iff_eq.mp M.fn) (codeAny_mono (F.run _ X.stack _ _ ⟨Value.ref (s.heap.objs.size+1)::us,[]⟩ (Value.ref (s.heap.objs.size+1)::(us ++ ds)) _ _ E (hr.make C us [])
  (I2.env0.make C us []) (hb _ (Value.ref (s.heap.objs.size+1)::us) I2.kIn hl) r2 hq) fun r s' hq'=>?_))
 cases r with
 | error e=>exact hx pins σ _ _ e s' I2 hq'
 | ok fl =>
  cases fl with
  | ret u =>
   obtain⟨v,H',I3,rv,ev,q3⟩:=I2.after hq'
   subst ev
   exact⟨rv,⟨V.ref (s.heap.objs.size+1),H',I3,rfl,q3⟩⟩
  | next=>exact False.elim hq'
  | brk=>exact False.elim hq'
  | cont=>exact False.elim hq'
theorem VA(M:Mk X.K C f)(F:FnOk X.prog X.w X.K X.mg X.base CX k f fd ps sp)(hr:Room (k+1) X.A)(hg:Gl X x)(hm:X.mg x=some (.ref C))(hb:Binds X.K fd ps ds)(hd:Vals dvs ds)(hx:uz CX X E)
  (ha:PA X (e::es) t) (hdb:(x == ("__debug__" : Str))=false:=by decide) (he:oM (e::es) X.env=(false,eval e X.env)::oM es X.env:=by rfl) (hpl:(backTo pos (oM es X.env)).any (·.1)=false:=by rfl) :
  PE X (.Call (.Name x p) (e::es) [] pos) (Qx C sp dvs E t):=by
 intro pins s σ H Q I h
 refine wpAny_Call_Name_kw (vA I hg hm ?_ hdb)
 refine bN (h₀:=X.base) I.ok.mod.kin M.kp (thn (ha pos pins s σ H _ I h) fun us s1 ⟨vs,H1,I1,r,q⟩=>⟨I1.kIn,?_⟩) he hpl
 exact Qy M F hr hb hd hx I1 r q
end
def PK(X:Cx)(kws:List Keyword)(t:TA):Prop :=
 ∀(pos:Pos) (pins:List (Addr × Obj)) (s:Shared) (σ:St) (H:Hp) (Q:List V->Hp->Prop),Inv X pins σ H s->t σ H Q->wpAny (model X.prog X.w) X.A (evalAll ((backToKw pos (keywordEach kws X.env)).map (·.2))) (AP X pins σ Q) X.xe s
section
variable{X:Cx}{CX:CXT}{k:Nat}{f C:Addr}{fd:FuncData}{ps ks:List Str}{sp:Sp}{E:XK}{x m:Str}{p pos apos kpos:Pos}{e o:Expr}{es:List Expr}{kws:List Keyword}{te ta:TE}{t tk:TA}{nm:Option Str}
theorem JB:PK X [] vf:=fun _ _ _ _ H Q I h=>wpAny_evalAll_nil ⟨[],H,I,.nil,h⟩
theorem Vd(ha:PE X e te)(hr:PK X kws t):PK X (⟨nm,e,kpos⟩::kws) (zP te t):=by
 intro pos pins s σ H Q I h
 show wpAny _ _ (evalAll ((do let v <- eval e X.env;standAt pos;pure v)::(backToKw pos (keywordEach kws X.env)).map (·.2))) _ _ s
 refine wpAny_evalAll_cons (oH (thn (ha pins s σ H _ I h) fun u s1 ⟨x,H1,I1,r1,q1⟩=>oH (wpAny_standAt (oJ ?_))))
 exact thn (hr pos pins s1 σ H1 _ I1 q1) fun us s2 ⟨xs,H2,I2,r2,q2⟩=>⟨x::xs,H2,I2,.cons r1 r2,q2⟩
variable{g:List Value->List Value->List Value}{gV:List V->List V->List V}
end
structure zq(N P:List Str)(sc:Scope):Prop where
 kind:sc.kind=.function
 co:sc.isCoroutine=false
 gen:sc.isGenerator=false
 nd:N.Nodup
 pre:N.take P.length=P
 par:∀ x ∈ P,sc.names.lookup x=some .local\/sc.names.lookup x=some .cell
 nofree:∀ y ∈ sc.names,y.2≠.free
theorem Zz{kindOf:Str->Option NameKind}{x:Str}:∀{binds:List (Str × Value)} {m:Str->Option Value},(∀ v,(x,v) ∉ binds)->bindL kindOf binds m x=m x
  | [],_,_=>rfl
  | (n,v)::r,m,h=>by
    unfold bindL
    rw[Zz fun w hw=>h w (aw _ hw)]
    split
    . have:x≠n:=by rintro rfl;exact h v az
      simp [this]
    . rfl
theorem Zl{kindOf:Str->Option NameKind}{x:Str}:∀{binds:List (Str × Value)} {m:Str->Option Value},(∀ v,(x,v) ∉ binds)->bindC kindOf binds m x=m x
  | [],_,_=>rfl
  | (n,v)::r,m,h=>by
    unfold bindC
    rw[Zl fun w hw=>h w (aw _ hw)]
    split
    . rfl
    . have:x≠n:=by rintro rfl;exact h v az
      simp [this]
theorem ZA{kindOf:Str->Option NameKind}{x:Str}{v:Value}:∀{P:List Str} {vs:List Value} {i:Nat} {m:Str->Option Value},P.Nodup->P[i]? = some x->vs[i]? = some v->kindOf x=some .local ->
  bindL kindOf (P.zip vs) m x=some v
 | [],_,_,_,_,h,_,_=>by simp at h
 | _::_,[],_,_,_,_,h,_=>by simp at h
 | p::P,w::vs,0,m,nd,h1,h2,hk=>by
  simp at h1 h2;subst h1;subst h2
  show bindL kindOf ((p,w)::P.zip vs) m p=_
  unfold bindL
  rw[Zz fun v hv=>(List.nodup_cons.mp nd).1 (da hv).1,if_pos hk]
  simp
 | p::P,w::vs,i+1,m,nd,h1,h2,hk=>by
  show bindL kindOf ((p,w)::P.zip vs) m x=_
  unfold bindL
  exact ZA (i:=i) (List.nodup_cons.mp nd).2 (by simpa using h1) (by simpa using h2) hk
theorem ZB{kindOf:Str->Option NameKind}{x:Str}{v:Value}:∀{P:List Str} {vs:List Value} {i:Nat} {m:Str->Option Value},P.Nodup->P[i]? = some x->vs[i]? = some v->kindOf x≠some .local ->
  bindC kindOf (P.zip vs) m x=some v
 | [],_,_,_,_,h,_,_=>by simp at h
 | _::_,[],_,_,_,_,h,_=>by simp at h
 | p::P,w::vs,0,m,nd,h1,h2,hk=>by
  simp at h1 h2;subst h1;subst h2
  show bindC kindOf ((p,w)::P.zip vs) m p=_
  unfold bindC
  rw[Zl fun v hv=>(List.nodup_cons.mp nd).1 (da hv).1,if_neg hk]
  simp
 | p::P,w::vs,i+1,m,nd,h1,h2,hk=>by
  show bindC kindOf ((p,w)::P.zip vs) m x=_
  unfold bindC
  exact ZB (i:=i) (List.nodup_cons.mp nd).2 (by simpa using h1) (by simpa using h2) hk
def start(N:List Str)(vs:List V):St:=vs.map some ++ bp (N.length - vs.length) none
def qg(CX:CXT)(P:Program)(w:World)(K:oO)(mg:Str->Option Value)(base:Heap)(N:List Str)(qual:Str)(scope:Scope)(f:Addr)(cd:Value)(A:Around)(outer:List Env)(s:Shared)(H:Hp)(E:XK):Cx where
 prog:=P
 w:=w
 K:=K
 mg:=mg
 base:=base
 A:=A.deeper (envOfC qual scope s.heap.objs.size f cd)
 N:=N
 s₀:=s
 H₀:=H
 env:=envOfC qual scope s.heap.objs.size f cd
 outer:=outer
 stack:=envOfC qual scope s.heap.objs.size f cd::outer
 ex:=[]
 calm:=true
 fn:=fun _=>true
 pn:=[]
 xe:=fun e s'=>wpAny (model P w) (A.deeper (envOfC qual scope s.heap.objs.size f cd)) (leaving (envOfC qual scope s.heap.objs.size f cd) e) (fun _ s''=>CX outer H s E e s'') (fun e' s''=>CX outer H s E e' s'') s'
theorem Xa{sc:Scope}{n:Nat}{x:Str}(h:sc.names.lookup x=some .cell):∃ c,(cellsFrom n sc.names []).lookup x=some c:=by
 have q:=eI sc.names n [] (.inl h)
 exact Option.isSome_iff_exists.mp q
theorem VH{CX:CXT}{P:Program}{w:World}{K:oO}{mg:Str->Option Value}{base:Heap}{N ps:List Str}{qual:Str}{scope:Scope}{f:Addr}{cd:Value}{A:Around}{outer:List Env}{s s1:Shared}{H:Hp}{E:XK}{us:List Value}{vs:List V}
  (S:zq N ps scope) (hd:A.handled=none) (e0:Env0 P w K mg base A outer s H) (hl:vs.length=ps.length) (r:Vals vs us)
  (x:InCallC s s.heap.objs.size (bindL (envOfC qual scope s.heap.objs.size f cd).kindOf (ps.zip us) fun _=>none) (cellsFrom (s.heap.objs.size+1) scope.names []) (bindC (envOfC qual scope s.heap.objs.size f cd).kindOf (ps.zip us) fun _=>none) s1) :
  Inv (qg CX P w K mg base N qual scope f cd A outer s H E) [] (start N vs) H s1:=by
 have hpl:ps.length<=N.length:=by have:=congrArg eJ S.pre;rw[aK] at this;omega
 obtain⟨h1,tk,rfl,hk⟩:=x.done
 have noA:∀ b:Addr,b ∉ (qg CX P w K mg base N qual scope f cd A outer s H E).ex:=fun b z=>absurd (show b ∈ ([]:List Addr) from z) (by simp)
 refine⟨⟨e0.mod,S.kind,rfl,rfl,au _,fun y z c h1 h2=>?_,fun y hy=>?_,fun y c _ h=>?_,fun _=>hd,Around.frames_deeper e0.frames,.inr ⟨rfl,rfl⟩,fun b z=>absurd z (noA b),e0.bs,e0.bsz,fun b _ _=>noA b,fun b z=>absurd z (noA b),e0.funs,e0.frf⟩,
  rfl,e0.bare,Un.kept hk,⟨_,x.toInCall.ns,fun i y v h1 h2 h3=>?_⟩,fun y c h=>⟨_,x.cell y c h⟩,e0.hok.fresh (au _),fun y c h=>?_,fun p hp=>absurd (show p ∈ ([]:List (Addr × Obj)) from hp) (by simp),e0.hok.kept hk,?_⟩
 ·exact name_of_addr x.apart (bR h1) (bR h2)
 ·have hy:scope.names.lookup y=some .cell\/scope.names.lookup y=some .free:=hy
  rcases hy with hy | hy
  ·exact Xa hy
  ·exact absurd rfl (S.nofree _ (bR hy))
 ·exact de (x.above y c (bR h))
 ·have hi:i<vs.length:=by
   unfold start at h2
   by_cases hi:i<vs.length
   ·exact hi
   ·rw[bS (by simpa using hi)] at h2
    rw[eg] at h2
    split at h2 <;> cases h2
  have ha:vs[i]? = some v:=by
   unfold start at h2
   rw[bY (by simpa using hi),aG] at h2
   cases e:vs[i]? with
   | none=>rw[e] at h2;cases h2
   | some a=>rw[e] at h2;cases h2;rfl
  obtain⟨u,hu,rv⟩:=r.get ha
  have hp:ps[i]? = some y:=by
   rw[<- S.pre,bx (by omega)];exact h1
  have ndP:ps.Nodup:=by rw[<- S.pre];exact S.nd.sublist (List.take_sublist _ _)
  refine⟨u,rv,?_⟩
  rcases S.par y (af hp) with k | k
  ·exact .inl ⟨k,ZA ndP hp hu k⟩
  ·obtain⟨c,e⟩:=Xa (n:=s.heap.objs.size+1) k
   refine .inr ⟨.inl k,c,e,?_⟩
   have q:=x.cell y c e
   rw[ZB ndP hp hu (by show scope.names.lookup y≠_;rw[k];decide)] at q
   exact q
 ·exact e0.hok.fresh (de (x.above y c (bR h)))
 ·unfold start
  show _=N.length
  rw[am,ae,cr]
  omega
theorem QG{CX:CXT}{P:Program}{w:World}{K:oO}{mg:Str->Option Value}{base:Heap}{k:Nat}{f:Addr}{name qual:Str}{params:Arguments}{body:List Stmt}{scope:Scope}{dV kV doc pm cdv ct oc:Value}{an od:Option Addr}
  {osl:Array (Option Value)} {N ps:List Str} {sp:Sp} (lk:K.lookup f=some ⟨oc,od,.func (av name qual params body scope dV kV doc pm an cdv ct),osl⟩) (hcd:ar K cdv qual=true) (S:zq N ps scope)
  (len:∀ vs H Q E,sp vs H Q E->vs.length=ps.length)
  (hbody:∀(A:Around) (outer:List Env) (s:Shared) (H:Hp) (vs:List V) (Q:VK) (E:XK),Room k (A.deeper (envOfC qual scope s.heap.objs.size f cdv))->sp vs H Q E ->
   ∃ t,PSs (qg CX P w K mg base N qual scope f cdv A outer s H E) body t/\t { nx:=fun _ H'=>Q .non H',rt:=Q } (start N vs) H) :
  FnOk P w K mg base CX (k+1) f (av name qual params body scope dV kV doc pm an cdv ct) ps sp:=by
 refine⟨len,fun A outer s H args us vs Q E hr e0 hb r hsp=>?_⟩
 have hl:=len _ _ _ _ hsp
 have KX:K.In s.heap:=e0.mod.kin.keeps fun b o e=>(e0.bs b o e).1
 have lim:s.heap.NoLimit:=e0.mod.nolimit.keeps fun b o e=>(e0.bs b o e).1
 have hkind:∀ y ∈ ps.zip us,scope.names.lookup y.1=some .local\/(scope.names.lookup y.1=some .cell/\((cellsFrom (s.heap.objs.size+1) scope.names []).lookup y.1).isSome=true):=fun⟨n,v⟩ hy=>by
  rcases S.par n (da hy).1 with q | q
  ·exact .inl q
  ·exact .inr ⟨q,eI _ _ _ (.inl q)⟩
 refine codeAny_call_function hr.depth (KX _ _ lk) rfl S.co S.gen rfl (PySem.W.codeRec_of KX hcd) (hb _ _ _ _ ?_)
 refine wpAny_newFunctionEnv_cells S.kind hkind fun env he s1 x=>?_
 subst he
 refine⟨lim.keeps x.toInCall.keep,codeAny_func ?_⟩
 obtain⟨t,ht,hq⟩:=hbody A outer s H vs Q E (hr.deeper _) hsp
 have I:Inv (qg CX P w K mg base N qual scope f cdv A outer s H E) [] (start N vs) H s1:=VH S hr.hd e0 hl r x
 refine wpAny_mono (ht [] s1 (start N vs) H _ I hq) (fun fl s' hs=>?_) fun e s' hs=>hs
 have fin:∀{σ':St} {H':Hp} {v:V} {u:Value},Inv (qg CX P w K mg base N qual scope f cdv A outer s H E) [] σ' H' s'->RelV v u->Q v H'->CE outer P w H s Q u s' :=
  fun {σ' H' v u} J rv q=>⟨v,H',J.os,J.bare,J.base,J.hok,rv,q⟩
 cases fl with
 | ret u =>
  obtain⟨v,σ',H',J,rv,q⟩:=hs
  exact fin J rv q
 | next =>
  obtain⟨σ',H',J,q⟩:=hs
  exact fin (v:=V.non) (u:=Value.none) J rfl q
 | brk =>
  obtain⟨_,_,_,q⟩:=hs
  exact False.elim q
 | cont =>
  obtain⟨_,_,_,q⟩:=hs
  exact False.elim q
end L2
namespace L2
section
variable{X:Cx}{x:Str}{p pos:Pos}{e:Expr}{es:List Expr}{t:TA}{id T:String}{r:List V->Hp->VK->Prop}
def tCB(r:List V->Hp->VK->Prop)(t:TA):TE:=fun σ H Q=>t σ H fun vs H1=>r vs H1 Q
theorem zp(hc:vJ X (.builtin id) r)(hg:Gl X x)(hm:X.mg x=none)(hv:bootBuiltins x=some (.builtin id))(ha:PA X (e::es) t)(hn:x≠"__name__":=by decide)(hdb:(x == ("__debug__" : Str))=false:=by decide)
  (he:oM (e::es) X.env=(false,eval e X.env)::oM es X.env:=by rfl) (hpl:(backTo pos (oM es X.env)).any (·.1)=false:=by rfl):PE X (.Call (.Name x p) (e::es) [] pos) (tCB r t):=by
 intro pins s σ H Q I h
 refine wpAny_Call_Name_kw (vn I hg hm hv ?_ hn hdb)
 exact PyProof.Rows.callWith_builtin1 (thn (ha pos pins s σ H _ I h) fun us s1 ⟨vs,H1,I1,r1,q1⟩=>hc pins s1 σ H1 vs us Q I1 r1 q1) he hpl
theorem xL(hc:vJ X (.type T) r)(hg:Gl X x)(hm:X.mg x=none)(hv:bootBuiltins x=some (.type T))(ha:PA X (e::es) t)(hn:x≠"__name__":=by decide)(hdb:(x == ("__debug__" : Str))=false:=by decide)
  (he:oM (e::es) X.env=(false,eval e X.env)::oM es X.env:=by rfl) (hpl:(backTo pos (oM es X.env)).any (·.1)=false:=by rfl):PE X (.Call (.Name x p) (e::es) [] pos) (tCB r t):=by
 intro pins s σ H Q I h
 refine wpAny_Call_Name_kw (vn I hg hm hv ?_ hn hdb)
 exact bD (thn (ha pos pins s σ H _ I h) fun us s1 ⟨vs,H1,I1,r1,q1⟩=>hc pins s1 σ H1 vs us Q I1 r1 q1) he hpl
end
end L2
namespace HT
open PySem PyProof.Rows
section
open PySem.SeqAt
open PySem.AutoSeq1 (wpAny_loadPart')
open PySem.MeetsSeq PySem.MeetsSeq2 PySem.MeetsSeq3
end
section
variable{prog:Program}{w:World}{A:Around}{E:Value->Shared->Prop}{s:Shared}
def sIx(n d:Nat):Option Int->Nat
 | none=>d
 | some v=>if v<0 then (v+(n:Int)).toNat else min v.toNat n
theorem sIx_none(n d:Nat):sIx n d none=d:=rfl
theorem sIx_nat(n d k:Nat):sIx n d (some (k:Int))=min k n:=by
 show (if (k:Int)<0 then ((k:Int)+(n:Int)).toNat else min (k:Int).toNat n)=min k n
 rw[if_neg (by omega),aX]
theorem sIx_le(n d:Nat)(hd:d<=n)(o:Option Int):sIx n d o<=n:=by
 cases o with
 | none=>exact hd
 | some v =>
  show (if v<0 then (v+(n:Int)).toNat else min v.toNat n)<=n
  by_cases hv:v<0
  ·rw[if_pos hv];omega
  ·rw[if_neg hv];exact Nat.min_le_right _ _
end
end HT
namespace L2
abbrev TO:=St->Hp->(Option Int->Hp->Prop)->Prop
def PO(X:Cx)(e:Option Expr)(t:TO):Prop :=
 ∀(pins:List (Addr × Obj)) (s:Shared) (σ:St) (H:Hp) (Q:Option Int->Hp->Prop),Inv X pins σ H s->t σ H Q ->
  wpAny (model X.prog X.w) X.A (evalPart e X.env) (fun u s'=>∃ o H',Inv X pins σ H' s'/\IsPart u o/\Q o H') X.xe s
def WY:TO:=fun _ H Q=>Q none H
def zaH(t:TE):TO:=fun σ H Q=>t σ H fun x H1=>∃ i,x=.int i/\Q (some i) H1
section
variable{X:Cx}{e:Expr}{te:TE}{lo hi:Option Expr}{tl th:TO}{pos p2:Pos}
theorem xZ:PO X none WY:=by
 intro pins s σ H Q I h
 rw[evalPart_none]
 exact oJ ⟨none,H,I,.none,h⟩
theorem yh(h:PE X e te):PO X (some e) (zaH te):=by
 intro pins s σ H Q I hw
 rw[evalPart_some]
 refine thn (h pins s σ H _ I hw) fun u s1 ⟨x,H1,I1,r1,q1⟩=>?_
 obtain⟨i,rfl,q⟩:=q1
 obtain⟨t,rfl⟩:=r1
 exact⟨some i,H1,I1,.int i t,q⟩
def SlR(X:Cx)(r:V->Option Int->Option Int->Hp->VK->Prop):Prop :=
 ∀(pins:List (Addr × Obj)) (s:Shared) (σ:St) (H:Hp) (x:V) (v vl vu:Value) (lo hi:Option Int) (sl:Addr) (Q:VK),Inv X pins σ H s->RelV x v->s.heap.IsSliceOf sl vl vu .none->IsPart vl lo->IsPart vu hi->r x lo hi H Q ->
  ∃ T id,typeLookup (.type T) "__getitem__" = pure (some (.builtin id))/\s.TypeIs v T/\wpAny (model X.prog X.w) X.A (getItem v (.ref sl)) (EP X pins σ Q) X.xe s
theorem SlR.or{r r':V->Option Int->Option Int->Hp->VK->Prop}(h:SlR X r)(h':SlR X r'):SlR X (fun x lo hi H Q=>r x lo hi H Q\/r' x lo hi H Q):=by
 intro pins s σ H x v vl vu lo hi sl Q I rx hs pl pu q
 rcases q with q | q
 ·exact h pins s σ H x v vl vu lo hi sl Q I rx hs pl pu q
 ·exact h' pins s σ H x v vl vu lo hi sl Q I rx hs pl pu q
def tSl(r:V->Option Int->Option Int->Hp->VK->Prop)(te:TE)(tl th:TO):TE:=fun σ H Q=>te σ H fun x H1=>tl σ H1 fun l H2=>th σ H2 fun u H3=>r x l u H3 Q
theorem yl{r:V->Option Int->Option Int->Hp->VK->Prop}(hr:SlR X r)(he:PE X e te)(hl:PO X lo tl)(hu:PO X hi th):PE X (.Subscript e (.Slice lo hi none p2) pos) (tSl r te tl th):=by
 intro pins s σ H Q I h
 refine Subscript_ (thn (he pins s σ H _ I h) fun v s1 ⟨x,H1,I1,r1,q1⟩=>?_)
 refine wpAny_Slice (thn (hl pins s1 σ H1 _ I1 q1) fun vl s2 ⟨l,H2,I2,pl,q2⟩=>thn (hu pins s2 σ H2 _ I2 q2) fun vu s3 ⟨u,H3,I3,pu,q3⟩=>?_)
 rw[evalPart_none]
 refine oJ ?_
 have I4:Inv X pins σ H3 { s3 with heap:=s3.heap.push { cls:=.type "slice",data:=.fields #[vl,vu,.none] } }:=I3.kept (t':=s3.toks) fun b ob q=>aa _ q
 obtain⟨T,id,hT,ht,hg⟩:=hr pins { s3 with heap:=s3.heap.push { cls:=.type "slice",data:=.fields #[vl,vu,.none] } } σ H3 x v vl vu l u s3.heap.objs.size Q I4 r1 (Heap.IsSliceOf.new ..) pl pu q3
 show wpAny (model X.prog X.w) X.A (subscriptTail e (.Slice lo hi none p2) v (.ref s3.heap.objs.size)) (EP X pins σ Q) X.xe { s3 with heap:=s3.heap.push { cls:=.type "slice",data:=.fields #[vl,vu,.none] } }
 exact tail_any (ops:=[.ref s3.heap.objs.size,v]) ht hT hg (by with_unfolding_all rfl)
def Jz(xs:List V)(lo hi:Option Int):List V:=(xs.drop (HT.sIx xs.length 0 lo)).take (HT.sIx xs.length xs.length hi - HT.sIx xs.length 0 lo)
theorem Ye(xs:List V)(lo hi:Option Int):(Jz xs lo hi).length<=xs.length:=by
 unfold Jz
 rw[aK,br]
 omega
end
end L2
namespace L2
def ixN(n:Nat)(i:Int):Option Nat:=if 0<=i then (if i<n then some i.toNat else none) else if -(n:Int)<=i then some (i+n).toNat else none
def atI{α:Type}(xs:List α)(i:Int):Option α:=(ixN xs.length i).bind fun j=>xs[j]?
theorem Kn{n:Nat}{i:Int}{j:Nat}(h:ixN n i=some j):seqIndex? i n=some j/\j<n/\-(n:Int)<=i/\i<n:=by
 unfold ixN at h
 by_cases h0:0<=i
 ·rw[if_pos h0] at h
  by_cases h1:i<n
  ·rw[if_pos h1] at h
   have e:i.toNat=j:=Option.some.inj h
   exact⟨by rw[seqIndex_of h0 h1,e],by omega,by omega,h1⟩
  ·rw[if_neg h1] at h;cases h
 ·rw[if_neg h0] at h
  by_cases h1:-(n:Int)<=i
  ·rw[if_pos h1] at h
   have e:(i+n).toNat=j:=Option.some.inj h
   exact⟨by rw[seqIndex_neg (by omega) h1,e],by omega,h1,by omega⟩
  ·rw[if_neg h1] at h;cases h
theorem kB{α:Type}{xs:List α}{i:Int}{v:α}(h:atI xs i=some v):∃ j,seqIndex? i xs.length=some j/\xs[j]? = some v/\j<xs.length/\-(xs.length:Int)<=i/\i<xs.length:=by
 unfold atI at h
 cases e:ixN xs.length i with
 | none=>rw[e] at h;cases h
 | some j =>
  rw[e] at h
  obtain⟨h1,h2,h3,h4⟩:=Kn e
  exact⟨j,h1,h,h2,h3,h4⟩
theorem JT{α:Type}{xs:List α}{j:Nat}{v:α}(h:xs[j]? = some v):atI xs (j:Int)=some v:=by
 have hj:j<xs.length:=(List.getElem?_eq_some_iff.mp h).1
 have e:ixN xs.length (j:Int)=some j:=by
  unfold ixN
  rw[if_pos (by omega),if_pos (by omega)];simp
 unfold atI;rw[e];exact h
def JG(b:Expr):Prop:=∀ o i,subscripted b false o i=operate [o,i] (getItem o i)
def IxR(X:Cx)(r:R2):Prop :=
 ∀(value slice:Expr) (pins:List (Addr × Obj)) (s:Shared) (σ:St) (H:Hp) (x y:V) (v u:Value) (Q:VK),Inv X pins σ H s->RelV x v->RelV y u->r x y H Q ->
  subscripted slice false v u=operate [v,u] (getItem v u)->wpAny (model X.prog X.w) X.A (subscriptTail value slice v u) (EP X pins σ Q) X.xe s
def MtR(X:Cx)(id:String)(r:V->List V->Hp->VK->Prop):Prop :=
 ∀(pins:List (Addr × Obj)) (s:Shared) (σ:St) (H:Hp) (x:V) (xs:List V) (v:Value) (us:List Value) (Q:VK),Inv X pins σ H s->RelV x v->Vals xs us->r x xs H Q ->
  wpAny (model X.prog X.w) X.A (call (.builtin id) (v::us)) (EP X pins σ Q) X.xe s
section
variable{X:Cx}{a b:Expr}{ta tb:TE}{pos:Pos}
theorem IxR.or{r r':R2}(h:IxR X r)(h':IxR X r'):IxR X (fun x y H Q=>r x y H Q\/r' x y H Q):=by
 intro value slice pins s σ H x y v u Q I rx ry q hs
 rcases q with q | q
 ·exact h value slice pins s σ H x y v u Q I rx ry q hs
 ·exact h' value slice pins s σ H x y v u Q I rx ry q hs
theorem zw{r:R2}(hr:IxR X r)(ha:PE X a ta)(hb:PE X b tb)(hs:JG b):PE X (.Subscript a b pos) (tOp r ta tb):=by
 intro pins s σ H Q I h
 exact Subscript_ (zcx ha hb I h fun v u s2 x y H2 I2 rx ry q=>hr a b pins s2 σ H2 x y v u Q I2 rx ry q (hs _ _))
def zbE(K:oO):R2:=fun x y H Q=>∃ p xs i v,x=.ref p/\y=.int i/\SqL K H p xs/\atI xs i=some v/\Q v H
def uO(K:oO):R2:=fun x y H Q=>∃ p xs i v,x=.ref p/\y=.int i/\SqT K H p xs/\atI xs i=some v/\Q v H
def zcg:R2:=fun x y H Q=>∃ z i c,x=.str z/\y=.int i/\z.length<=oN/\atI z.cps.toList i=some c/\Q (.str ⟨#[c]⟩) H
theorem ix_list:IxR X (zbE X.K):=by
 intro value slice pins s σ H x y v u Q I rx ry h hs
 obtain⟨p,xs,i,z,rfl,rfl,hq,he,q⟩:=h
 cases rx
 obtain⟨t,rfl⟩:=ry
 obtain⟨its,r,pl,hz⟩:=I.list hq
 obtain⟨j,h1,h2,h3,h4,h5⟩:=kB he
 obtain⟨w,ew,rw'⟩:=r.get h2
 have hl:=r.length
 have hn:=Z4
 have fin:EP X pins σ Q w s:=⟨z,H,I,rw',q⟩
 by_cases h0:0<=i
 ·have hj:i.toNat=j:=by
   rw[seqIndex_of h0 h5] at h1
   exact Option.some.inj h1
  exact item_listR pl.isList h0 (by omega) (by rw[hj];simpa using ew) fin hs
 ·have hj:(i+(its.toArray.size:Int)).toNat=j:=by
   rw[seqIndex_neg (by omega) h4] at h1
   rw[ao,<- hl]
   exact Option.some.inj h1
  exact subscriptTail_builtinR (x:=w) pl.isList.typeIs slot_list_getitem.lookup
   (wpAny_getItem_list_neg (Q:=fun r s'=>r=w/\EP X pins σ Q r s') pl.isList (by omega) (by rw[ao] <;> omega) (by omega) (by rw[hj];simpa using ew) ⟨rfl,fin⟩) hs
theorem ix_tup:IxR X (uO X.K):=by
 intro value slice pins s σ H x y v u Q I rx ry h hs
 obtain⟨p,xs,i,z,rfl,rfl,hq,he,q⟩:=h
 cases rx
 obtain⟨t,rfl⟩:=ry
 obtain⟨its,r,pl,hz⟩:=I.tuple hq
 obtain⟨j,h1,h2,h3,h4,h5⟩:=kB he
 obtain⟨w,ew,rw'⟩:=r.get h2
 have hl:=r.length
 have hn:=Z4
 have fin:EP X pins σ Q w s:=⟨z,H,I,rw',q⟩
 exact subscriptTail_builtinR (x:=w) pl.typeIs slot_tuple_getitem.lookup
  (getItem_tuple (j:=j) (Q:=fun r s'=>r=w/\EP X pins σ Q r s') pl (by omega) (by omega) (by rw[ao,<- hl];exact h1) (by simpa using ew) ⟨rfl,fin⟩) hs
theorem Jn:IxR X zcg:=by
 intro value slice pins s σ H x y v u Q I rx ry h hs
 obtain⟨z,i,c,rfl,rfl,hz,he,q⟩:=h
 obtain⟨t,rfl⟩:=rx
 obtain⟨t',rfl⟩:=ry
 obtain⟨j,h1,h2,h3,h4,h5⟩:=kB he
 have hl:z.cps.toList.length=z.length:=by simp [Str.length]
 rw[hl] at h1 h4 h5
 have hn:=Z4
 exact tail_any (typeIs_str s z t) slot_str_getitem.lookup (getItem_str (c:=c) (by
  have e1:decide (i < -(2 ^ 63:Int))=false:=decide_eq_false (by omega)
  have e2:decide (i ≥ 2 ^ 63)=false:=decide_eq_false (by omega)
  rw[e1,e2,Bool.or_false]) (by rw[h1];simpa using h2) ⟨.str ⟨#[c]⟩,H,I.tok _,⟨_,rfl⟩,q⟩) hs
def rIx(K:oO):R2:=fun x y H Q=>zbE K x y H Q\/uO K x y H Q\/zcg x y H Q
theorem Jf:IxR X (rIx X.K):=ix_list.or (ix_tup.or Jn)
theorem Inv.lst{pins:List (Addr × Obj)}{σ:St}{H:Hp}{s:Shared}{p:Addr}{xs:List V}(I:Inv X pins σ H s)(h:H p=some (.lst xs)) :
  ∃(its:List Value) (n:Nat),Vals xs its/\s.heap.get? p=some { cls:=.type "list",data:=.seq its.toArray n }/\xs.length<=oN:=by
 obtain⟨z,its,n,r,e⟩:=I.hok p _ h
 exact⟨its,n,r,e,z⟩
theorem Zr(lo hi:Option Int)(n:Nat):(sliceBounds lo hi none n).1=((HT.sIx n 0 lo:Nat):Int)/\(sliceBounds lo hi none n).2.1=((HT.sIx n n hi:Nat):Int)/\(sliceBounds lo hi none n).2.2=1:=by
 refine⟨?_,?_,rfl⟩
 ·cases lo with
  | none=>simp [sliceBounds,HT.sIx]
  | some i =>
   simp only[sliceBounds,HT.sIx,fo,show (1:Int) > 0 by decide,if_true]
   by_cases h:i<0
   ·simp only[h,if_true] <;> omega
   ·simp only[h,if_false] <;> omega
 ·cases hi with
  | none=>simp [sliceBounds,HT.sIx]
  | some i =>
   simp only[sliceBounds,HT.sIx,fo,show (1:Int) > 0 by decide,if_true]
   by_cases h:i<0
   ·simp only[h,if_true] <;> omega
   ·simp only[h,if_false] <;> omega
theorem kP(its:List Value)(lo hi:Option Int):slicePick its.toArray lo hi none=((its.drop (HT.sIx its.length 0 lo)).take (HT.sIx its.length its.length hi - HT.sIx its.length 0 lo)).toArray:=by
 obtain⟨h1,h2,h3⟩:=Zr lo hi its.toArray.size
 unfold slicePick
 rw[h1,h2,h3]
 simp only[sliceRange_one,pick_run,ao] <;> rfl
def zco(K:oO):V->Option Int->Option Int->Hp->VK->Prop:=fun x lo hi H Q=>∃ a xs,x=.ref a/\SqL K H a xs/\∀ p,H p=none->Q (.ref p) (upd H p (.lst (Jz xs lo hi)))
theorem sl_list:SlR X (zco X.K):=by
 intro pins s σ H x v vl vu lo hi sl Q I rx hs pl pu h
 obtain⟨a,xs,rfl,hx,q⟩:=h
 cases rx
 obtain⟨its,r,ht,hz⟩:=I.list hx
 have hlen:=r.length
 refine⟨"list",_,slot_list_getitem.lookup,ht.isList.typeIs,?_⟩
 refine wpAny_getItem_list_slice ht.isList hs pl pu .none (by simp) ?_ (by rw[ao] <;> omega)
 rw[kP,<- hlen]
 refine⟨.ref s.heap.objs.size,_,I.laid (t':=s.toks) (o:=.lst (Jz xs lo hi)) (fun b ob q=>aa _ q) (au _) ?_,rfl,q _ (I.hok.fresh (au _))⟩
 exact⟨aO (Ye xs lo hi) hz,_,0,(r.drop (HT.sIx xs.length 0 lo)).take (HT.sIx xs.length xs.length hi - HT.sIx xs.length 0 lo),aI _ rfl⟩
def zbm:V->Bool
 | .non=>true
 | .bl _=>true
 | .int _=>true
 | .str _=>true
 | _=>false
def eqV:V->V->Bool
 | .non,.non=>true
 | .bl a,.bl b=>a == b
 | .bl a,.int b=>(if a then 1 else 0) == b
 | .int a,.bl b=>a == (if b then 1 else 0)
 | .int a,.int b=>a == b
 | .str a,.str b=>a == b
 | _,_=>false
theorem Xe{A:Around}{s:Shared}{y x:V}{u v:Value}(ry:RelV y u)(rx:RelV x v)(fy:zbm y=true)(fx:zbm x=true):SeqAt.EqAt A s u v (eqV y x):=by
 cases y with
 | non =>
  cases ry
  cases x with
  | non=>cases rx;exact SeqAt.EqAt.same _
  | bl b=>cases rx;exact SeqAt.EqAt.none_bool b
  | int b=>obtain⟨t,rfl⟩:=rx;exact SeqAt.EqAt.none_int b t
  | str b=>obtain⟨t,rfl⟩:=rx;exact SeqAt.EqAt.none_str b t
  | _=>exact absurd (show false=true from fx) aF
 | bl a =>
  cases ry
  cases x with
  | non=>cases rx;exact SeqAt.EqAt.bool_none a
  | bl b=>cases rx;exact SeqAt.EqAt.bool_bool a b
  | int b=>obtain⟨t,rfl⟩:=rx;exact SeqAt.EqAt.bool_int a b t
  | str b=>obtain⟨t,rfl⟩:=rx;exact SeqAt.EqAt.bool_str a b t
  | _=>exact absurd (show false=true from fx) aF
 | int a =>
  obtain⟨t',rfl⟩:=ry
  cases x with
  | non=>cases rx;exact SeqAt.EqAt.int_none a t'
  | bl b=>cases rx;exact SeqAt.EqAt.int_bool a t' b
  | int b=>obtain⟨t,rfl⟩:=rx;exact SeqAt.EqAt.int_int a t' b t
  | str b=>obtain⟨t,rfl⟩:=rx;exact SeqAt.EqAt.int_str a t' b t
  | _=>exact absurd (show false=true from fx) aF
 | str a =>
  obtain⟨t',rfl⟩:=ry
  cases x with
  | non=>cases rx;exact SeqAt.EqAt.str_none a t'
  | bl b=>cases rx;exact SeqAt.EqAt.str_bool a t' b
  | int b=>obtain⟨t,rfl⟩:=rx;exact SeqAt.EqAt.str_int a t' b t
  | str b=>obtain⟨t,rfl⟩:=rx;exact SeqAt.EqAt.str_str a t' b t
  | _=>exact absurd (show false=true from fx) aF
 | _=>exact absurd (show false=true from fy) aF
theorem xo:vJ X (.type "list") (fun xs H Q=>∃ p ys,xs=[.ref p]/\(SqL X.K H p ys\/SqT X.K H p ys)/\∀ l,H l=none->Q (.ref l) (upd H l (.lst ys))):=by
 intro pins s σ H xs us Q I r h
 obtain⟨p,ys,rfl,hq,q⟩:=h
 obtain⟨u,rfl,rx⟩:=wI r
 cases rx
 have fin:∀(its:List Value),Vals ys its->ys.length<=oN->∀(h':Heap) (c':Nat),(∀ b o',s.heap.get? b=some o'->h'.get? b=some o') ->
   h'.get? s.heap.objs.size=some { cls:=.type "list",dict:=none,data:=.seq its.toArray c',slots:=#[] }->EP X pins σ Q (.ref s.heap.objs.size) { s with heap:=h' }:=fun its r' hz h' c' kp e =>
  ⟨.ref s.heap.objs.size,_,I.laid (t':=s.toks) kp (au _) (show ObjOk X.prog X.w _ h' _ (.lst ys) from ⟨hz,its,c',r',e⟩),rfl,q _ (I.hok.fresh (au _))⟩
 rcases hq with hq | hq
 ·obtain⟨its,r',pl,hz⟩:=I.list hq
  have hlen:=r'.length
  obtain⟨o,ho,hc,n,hd⟩:=pl.isList
  exact call_list_seq p (.inl rfl) ho hc hd (fun h' c' kp e=>fin its r' hz h' c' kp e) (by simp only[ao] <;> omega)
 ·obtain⟨its,r',pl,hz⟩:=I.tuple hq
  have hlen:=r'.length
  obtain⟨o,ho,hc,n,hd⟩:=pl
  exact call_list_seq p (.inr rfl) ho hc hd (fun h' c' kp e=>fin its r' hz h' c' kp e) (by simp only[ao] <;> omega)
theorem kX:vJ X (.type "tuple") (fun xs H Q=>∃ p ys,xs=[.ref p]/\((SqL X.K H p ys/\∀ l,H l=none->Q (.ref l) (upd H l (.tup ys)))\/(SqT X.K H p ys/\Q (.ref p) H))):=by
 intro pins s σ H xs us Q I r h
 obtain⟨p,ys,rfl,h⟩:=h
 obtain⟨u,rfl,rx⟩:=wI r
 cases rx
 rcases h with ⟨hq,q⟩ | ⟨hq,q⟩
 ·obtain⟨its,r',pl,hz⟩:=I.list hq
  have hlen:=r'.length
  refine call_tuple_list pl.isList (fun h' kp=>?_) (by simp only[ao] <;> omega)
  have I1:Inv X pins σ H { s with heap:=h' }:=I.kept (t':=s.toks) kp
  have I2:Inv X pins σ (upd H h'.objs.size (.tup ys)) { s with heap:=h'.push { cls:=.type "tuple",data:=.seq its.toArray } } :=
   I1.laid (t':=s.toks) (fun b o e=>aa _ e) (au _) (show ObjOk X.prog X.w _ _ _ (.tup ys) from ⟨hz,its,r',IsTup.new _ _⟩)
  exact⟨.ref h'.objs.size,_,I2,rfl,q _ (I1.hok.fresh (au _))⟩
 ·obtain⟨its,r',pl,hz⟩:=I.tuple hq
  exact call_tuple_same pl ⟨.ref p,H,I,rfl,q⟩
def tyV(K:oO)(T:String)(x:V)(H:Hp):Prop:=match x with
 | .str _=>T="str"
 | .int _=>T="int"
 | .ref p=>(T="list"/\∃ xs,SqL K H p xs)\/(T="tuple"/\∃ o,K.lookup p=some o/\o.cls=.type "tuple"/\o.dict=none) \/
   (T="dict"/\((∃ kvs,H p=some (.dK kvs))\/∃ kvs,H p=some (.dT kvs)))\/(T="set"/\∃ S n,H p=some (.set S n))
 | _=>False
theorem zaP{pins:List (Addr × Obj)}{σ:St}{H:Hp}{s:Shared}{T:String}{x:V}{v:Value}(I:Inv X pins σ H s)(r:RelV x v)(ty:tyV X.K T x H) :
  s.TypeIs v T/\∀ a,v=.ref a->∃ ob,s.heap.get? a=some ob/\ob.dict=none:=by
 cases x with
 | str z =>
  obtain⟨t,rfl⟩:=r
  cases (show T="str" from ty)
  exact⟨typeIs_str s z t,fun _ e=>nomatch e⟩
 | int i =>
  obtain⟨t,rfl⟩:=r
  cases (show T="int" from ty)
  exact⟨typeIs_int s i t,fun _ e=>nomatch e⟩
 | ref p =>
  cases r
  rcases ty with ⟨rfl,xs,hq⟩ | ⟨rfl,o,hk,hc,hd⟩ | ⟨rfl,hk⟩ | ⟨rfl,S,n,hk⟩
  ·obtain⟨its,_,pl,_⟩:=I.list hq
   refine⟨pl.isList.typeIs,fun a e=>?_⟩
   cases e
   obtain⟨o,n,e,c,hd,_⟩:=pl
   exact⟨o,e,hd⟩
  ·refine⟨⟨o,I.kIn p o hk,hc⟩,fun a e=>?_⟩
   cases e
   exact⟨o,I.kIn _ o hk,hd⟩
  ·have z:∃ o,s.heap.get? p=some o/\o.ExactDict:=by
    rcases hk with ⟨kvs,hk⟩ | ⟨kvs,hk⟩
    ·obtain⟨_,_,_,_,o,_,_,e,ex,_⟩:=I.hok p _ hk
     exact⟨o,e,ex⟩
    ·obtain⟨_,_,_,_,o,_,_,e,ex,_⟩:=I.hok p _ hk
     exact⟨o,e,ex⟩
   obtain⟨o,e,ex⟩:=z
   refine⟨⟨o,e,ex.1⟩,fun a e2=>?_⟩
   cases e2
   exact⟨o,e,ex.2.1⟩
  ·obtain⟨o,_,_,_,e,ex,_⟩:=I.hok p _ hk
   refine⟨⟨o,e,ex.1⟩,fun a e2=>?_⟩
   cases e2
   exact⟨o,e,ex.2.1⟩
 | _=>exact False.elim ty
def zdq(K:oO)(T:String)(r:V->List V->Hp->VK->Prop)(to:TE):TE:=fun σ H Q=>to σ H fun x H1=>tyV K T x H1/\r x [] H1 Q
def tBM(K:oO)(T:String)(r:V->List V->Hp->VK->Prop)(to:TE)(t:TA):TE:=fun σ H Q=>to σ H fun x H1=>tyV K T x H1/\t σ H1 fun xs H2=>r x xs H2 Q
variable{o e:Expr}{es:List Expr}{to:TE}{t:TA}{name:Str}{apos cpos:Pos}{T id:String}{r:V->List V->Hp->VK->Prop}
theorem vR(pa:PlainAttrs T)(slot:Slot T name id)(hty:typeOf (.builtin id)=pure (.type "method_descriptor"))(hm:MtR X id r)(ho:PE X o to)(ha:PA X (e::es) t)
  (hbase:attributeBase o name X.env (eval o X.env)=eval o X.env:=by rfl)
  (hfew:((backTo cpos (oM (e::es) X.env)).all (fun x=>!x.1) && (backToKw cpos (keywordEach [] X.env)).all (fun x=>x.1.isSome)
   && decide ((e::es).length+([]:List Keyword).length+(if ([]:List Keyword).isEmpty then 0 else 1)<30))=true:=by rfl)
  (hline:(apos.endLine == cpos.line)=true:=by rfl) (hs:oM (e::es) X.env=(false,eval e X.env)::oM es X.env:=by rfl) (hplain:(backTo cpos (oM es X.env)).any (·.1)=false:=by rfl) :
  PE X (.Call (.Attribute o name apos) (e::es) [] cpos) (tBM X.K T r to t):=by
 intro pins s σ H Q I h
 refine wpAny_Call_method_late hbase hfew hline rfl (thn (ho pins s σ H _ I h) fun v s1 ⟨x,H1,I1,r1,ty,q1⟩=>?_)
 obtain⟨h1,h2⟩:=zaP I1 r1 ty
 refine⟨T,id,pa,slot,hty,h1,h2,?_⟩
 have hA:=ha cpos pins s1 σ H1 _ I1 q1
 rw[hs] at hA ⊢
 refine Calls.callWith_builtin (by show (false || (backTo cpos (oM es X.env)).any (·.1))=false;rw[hplain] <;> rfl) (Calls.evalArgs_plain ?_)
 exact thn hA fun us s2 ⟨vs,H2,I2,r2,q2⟩=>hm pins s2 σ H2 x vs v us Q I2 r1 r2 q2
/- xs.append(e),list.index on a module's tuple .. are MtR facts of 06m -/
end
end L2
namespace L2
def MtM(X:Cx)(id:String)(r:V->List V->Hp->VK->Prop):Prop :=
 ∀(pins:List (Addr × Obj)) (s:Shared) (σ:St) (H:Hp) (x:V) (xs:List V) (v:Value) (us:List Value) (Q:VK),Inv X pins σ H s->RelV x v->Vals xs us->r x xs H Q ->
  wpAny (model X.prog X.w) X.A (call (.builtin id) (v::us)) (EP X pins σ Q) X.xe s
theorem Vals.one:∀{x:V} {us:List Value},Vals [x] us->∃ u,us=[u]/\RelV x u
 | _,_,.cons r .nil=>⟨_,rfl,r⟩
theorem Vals.two:∀{x y:V} {us:List Value},Vals [x,y] us->∃ u v,us=[u,v]/\RelV x u/\RelV y v
 | _,_,_,.cons r (.cons q .nil)=>⟨_,_,rfl,r,q⟩
theorem Vals.zero:∀{us:List Value},Vals [] us->us=[]
 | _,.nil=>rfl
theorem Vals.eraseIdx:∀{xs:List V} {us:List Value} (i:Nat),Vals xs us->Vals (xs.eraseIdx i) (us.eraseIdx i)
 | _,_,_,.nil=>.nil
 | _,_,0,.cons _ t=>t
 | _,_,i+1,.cons r t=>.cons r (Vals.eraseIdx i t)
theorem Vals.reverse{xs:List V}{us:List Value}(h:Vals xs us):Vals xs.reverse us.reverse:=by
 induction h with
 | nil=>exact .nil
 | cons r t ih=>rw[List.reverse_cons,List.reverse_cons];exact Vals.append ih (.cons r .nil)
theorem Z6{α:Type}:∀(l:List α) (i:Nat),(l.eraseIdx i).length<=l.length
 | [],_=>au _
 | _::_,0=>cC _
 | _::r,i+1=>Nat.succ_le_succ (Z6 r i)
section
variable{X:Cx}{pins:List (Addr × Obj)}{σ:St}{H:Hp}{s:Shared}{l b:Addr}{xs ys zs:List V}
theorem Inv.lset{its its':List Value}{n:Nat}{f:Array Value->Array Value}{t':Nat}(I:Inv X pins σ H s)(hH:H l=some (.lst xs))
  (e:s.heap.get? l=some { cls:=.type "list",data:=.seq its.toArray n }) (hf:f its.toArray=its'.toArray) (hv:Vals ys its') (hz:ys.length<=oN) :
  Inv X pins σ (upd H l (.lst ys)) { s with heap:=s.heap.update l (Obj.mapSeq f),toks:=t' }:=by
 have q:=PySem.IsL.update e f
 rw[hf] at q
 refine I.write (x:=l) (e:=l) (by rw[hH];exact trivial) (.inl rfl) (fun b' u hb hu=>(aL s.heap (Obj.mapSeq f) (Ne.symm hb)).trans hu) ⟨_,q⟩ ?_
 exact⟨hz,its',_,hv,q⟩
theorem Inv.lnew{its:List Value}{t':Nat}(I:Inv X pins σ H s)(hv:Vals ys its)(hz:ys.length<=oN) :
  Inv X pins σ (upd H s.heap.objs.size (.lst ys)) { s with heap:=s.heap.push { cls:=.type "list",data:=.seq its.toArray },toks:=t' } :=
 I.laid (fun _ _ q=>aa _ q) (au _) ⟨hz,its,0,hv,aI _ rfl⟩
theorem Inv.fresh(I:Inv X pins σ H s):H s.heap.objs.size=none:=I.hok.fresh (au _)
theorem Inv.lstM(I:Inv X pins σ H s)(hH:H l=some (.lst xs)):xs.length<=oN/\∃(its:List Value) (n:Nat),Vals xs its/\xs.length=its.length/\s.heap.get? l=some { cls:=.type "list",data:=.seq its.toArray n }:=by
 obtain⟨z,its,n,r,e⟩:=I.hok l _ hH
 exact⟨z,its,n,r,r.length,e⟩
theorem UI{n:Nat}(h:n<=oN):Builtin.List.listTooLong n=false:=by
 unfold Builtin.List.listTooLong
 exact decide_eq_false (by omega)
end
section
variable{X:Cx}
def WO:V->List V->Hp->VK->Prop:=fun x vs H Q=>∃ l xs y,x=.ref l/\vs=[y]/\H l=some (.lst xs)/\xs.length<oN/\Q .non (upd H l (.lst (xs ++ [y])))
theorem yW:MtM X "list.append" WO:=by
 intro pins s σ H x vs v us Q I rx rv h
 obtain⟨l,xs,y,rfl,rfl,hH,hz,q⟩:=h
 cases rx
 obtain⟨u,rfl,ru⟩:=rv.one
 obtain⟨z,its,n,r,hl,e⟩:=I.lstM hH
 refine call_meets F.slot_list_append ⟨_,e,rfl⟩ F.entry_list_append (F.args_list_append_2 _ _) (PySem.list_append l its.toArray n u (by rw[ao];omega)) ⟨e,?_⟩
 refine⟨.non,_,I.lset (its':=its ++ [u]) hH e (by simp) (r.append (.cons ru .nil)) ?_,rfl,q⟩
 rw[am,cu]
 omega
def Uv:V->List V->Hp->VK->Prop:=fun x vs H Q=>∃ l b xs zs,x=.ref l/\vs=[.ref b]/\H l=some (.lst xs)/\H b=some (.lst zs)/\xs.length+zs.length<=oN/\Q .non (upd H l (.lst (xs ++ zs)))
theorem WG:MtM X "list.extend" Uv:=by
 intro pins s σ H x vs v us Q I rx rv h
 obtain⟨l,b,xs,zs,rfl,rfl,hH,hB,hz,q⟩:=h
 cases rx
 obtain⟨u,rfl,ru⟩:=rv.one
 cases ru
 obtain⟨z,its,n,r,hl,e⟩:=I.lstM hH
 obtain⟨z2,its2,n2,r2,hl2,e2⟩:=I.lstM hB
 have hsz:its.toArray.size+its2.toArray.size<=oN:=by rw[ao,ao];omega
 have hlong:¬ (!its.toArray.isEmpty && Builtin.List.listTooLong (its.toArray.size+its2.toArray.size))=true:=by
  rw[UI hsz,eN]
  exact aF
 refine call_meets F.slot_list_extend ⟨_,e,rfl⟩ F.entry_list_extend (F.args_list_extend_2 _ _)
  (AutoSeq1.list_extend_list_list_0 l its.toArray n b its2.toArray n2 hlong (by rw[ao];omega) (by omega)) ⟨e,e2,?_⟩
 refine⟨.non,_,I.lset (its':=its ++ its2) hH e (by simp) (r.append r2) ?_,rfl,q⟩
 rw[am]
 omega
def zaY:V->List V->Hp->VK->Prop:=fun x vs H Q=>∃ l xs i k y,x=.ref l/\vs=[.int i]/\H l=some (.lst xs)/\-(2 ^ 63)<=i/\i<2 ^ 63/\seqIndex? i xs.length=some k/\xs[k]? = some y/\Q y (upd H l (.lst (xs.eraseIdx k)))
theorem UE:MtM X "list.pop" zaY:=by
 intro pins s σ H x vs v us Q I rx rv h
 obtain⟨l,xs,i,k,y,rfl,rfl,hH,h1,h2,hk,hy,q⟩:=h
 cases rx
 obtain⟨u,rfl,ru⟩:=rv.one
 obtain⟨t,rfl⟩:=ru
 obtain⟨z,its,n,r,hl,e⟩:=I.lstM hH
 obtain⟨w,hw,rw'⟩:=r.get hy
 refine call_meets F.slot_list_pop ⟨_,e,rfl⟩ F.entry_list_pop (F.args_list_pop_2 _ _)
  (MeetsSeq.list_pop_at l its.toArray n i t k w (fitsIndex_both h1 h2) (by rw[ao,<- hl];exact hk) (by rw[<- Array.getElem?_toList];exact hw) (by rw[ao];omega)) ⟨e,?_⟩
 refine⟨y,_,I.lset (its':=its.eraseIdx k) hH e ?_ (r.eraseIdx k) ?_,rw',q⟩
 ·show its.toArray.eraseIdxIfInBounds k=(its.eraseIdx k).toArray
  rw[List.eraseIdxIfInBounds_toArray]
 ·have:=Z6 xs k
  omega
def zcp:R2:=fun x y H Q=>∃ l b xs zs,x=.ref l/\y=.ref b/\H l=some (.lst xs)/\H b=some (.lst zs)/\xs.length+zs.length<=oN/\∀ p,H p=none->Q (.ref p) (upd H p (.lst (xs ++ zs)))
theorem VQ:OpR X (binaryOp .Add) zcp:=by
 intro pins s σ H x y v u Q I rx ry h
 obtain⟨l,b,xs,zs,rfl,rfl,hH,hB,hz,q⟩:=h
 cases rx
 cases ry
 obtain⟨z,its,n,r,hl,e⟩:=I.lstM hH
 obtain⟨z2,its2,n2,r2,hl2,e2⟩:=I.lstM hB
 refine PySem.P.add_list e e2 ?_ (by rw[ao,ao];omega)
 have ea:its.toArray ++ its2.toArray=(its ++ its2).toArray:=by simp
 rw[ea]
 exact⟨.ref _,_,I.lnew (t':=s.toks) (r.append r2) (by rw[am];omega),rfl,q _ I.fresh⟩
theorem len_rep{α:Type}(xs:List α)(k:Nat):(bp k xs).flatten.length=k * xs.length:=by
 induction k with
 | zero=>simp
 | succ k ih=>rw[cX,List.flatten_cons,am,ih,d5,Nat.add_comm]
end
section
variable{prog:Program}{w:World}{A:Around}{E:Value->Shared->Prop}{s:Shared}
end
section
variable{X:Cx}
end
end L2
namespace Att
open PySem PySem.W PySem.Calls PyProof.Rows
theorem qZ{P:Params}{h:Heap}:∀(ns:List Int) (vs:List Value),WellAll P h vs (ns.map WData.int)->IntsAre vs ns:=by
 intro ns
 induction ns with
 | nil =>
  intro vs w
  rw[aN] at w
  cases w
  exact .nil
 | cons n ns ih =>
  intro vs w
  rw[aC] at w
  cases w with
  | cons a b =>
   cases a
   exact .cons _ _ (ih _ b)
theorem script_of{l:OpenLaw}{n:Nat}(hn:l.most=some n){P:Params}{h:Heap}{args:List WData}{vals:List Value}
  (hpre:l.row.toRowW.claim.pre args=true) (hwl:WellAll P h vals args) :
  ∃ a vs ns,vals=[Value.ref a]/\args=[WData.list (ns.map WData.int)]/\h.get? a=some { cls:=.type "list",data:=.seq vs.toArray }/\IntsAre vs ns/\ns.length<=n:=by
 have hsh:WShape.hasAll [] args [.list .int]=true:=(pre_splitW hpre).1
 have hc:l.pre.holds [] { args:=args }=true:=(pre_splitW hpre).2
 obtain⟨d,r,rfl,h1,h2⟩:=hasAllW_cons hsh
 obtain rfl:=hasAllW_nil h2
 obtain⟨xs,rfl,h3⟩:=hasW_list h1
 obtain⟨ns,rfl⟩:=items_int h3
 have hlen:ns.length<=n:=by
  unfold OpenLaw.pre at hc
  have h4:(WTm.not (.lt (.lit (.int (n:Int))) (.len (.arg 0)))).holds [] { args:=[.list (ns.map .int)] }=true:=by
   have h4:=(holds_andW hc).1
   rw[hn] at h4
   exact h4
  have h5:=condW_of h4 (w_not (w_lt w_lit (w_len_list (w_arg rfl))))
  rw[ae] at h5
  refine cT fun q=>?_
  have q':(n:Int)<((ns.length:Nat):Int):=by omega
  first
   | (rw[decide_eq_true q'] at h5;exact absurd h5 (by decide))
   | (simp at h5;omega)
 cases hwl with
 | cons w1 w2 =>
  cases w2
  cases w1 with
  | list ho hall=>exact⟨_,_,ns,rfl,rfl,ho,qZ ns _ hall,hlen⟩
theorem post_true(l:OpenLaw)(args:List WData):l.row.toRowW.claim.post args (.bool true) args=true :=
 postW_of (r:=l.row.toRowW) (X:=(true == true))
  (show WShape.has [] (.bool true) .bool=true by first | rfl | decide | simp [WShape.has,WShape.arms,WShape.armsAll])
  (show (WTm.eq .res (.lit (.bool true))).value [] { args:=args,res:=some (.bool true),after:=args }=some (.bool (true == true)) from w_eq_bool (w_res rfl) w_lit) rfl
section
variable{prog:Program}{w:World}{A:Around}{E:Value->Shared->Prop}{s:Shared}{K:Frag}
def zcQ(h:Heap)(L d:Addr):List (Addr × Obj):=(aY h.objs.size).filterMap fun a=>if a=L\/a=d then none else (h.get? a).map fun o=>(a,o)
end
end Att
namespace L2
theorem Zg:∀{vs:List Value} {ns:List Int},IntsAre vs ns->Vals (ns.map V.int) vs
 | _,_,.nil=>.nil
 | _,_,.cons n t h=>.cons ⟨t,rfl⟩ (Zg h)
end L2
namespace L2
end L2
namespace L2
def xw(s:Stmt)(j:Nat):Stmt:=match s with
 | .ClassDef _ _ _ body _ _ _ _ _ _ _=>body.getD j (.Pass ⟨0,0,0,0⟩)
 | _=>.Pass ⟨0,0,0,0⟩
def zm(s:Stmt):Arguments:=match s with
 | .FunctionDef _ a _ _ _ _ _ _ _ _=>a
 | _=>{ posonlyargs:=[],args:=[],vararg:=none,kwonlyargs:=[],kw_defaults:=[],kwarg:=none,defaults:=[] }
def zk(s:Stmt):List Stmt:=match s with
 | .FunctionDef _ _ b _ _ _ _ _ _ _=>b
 | _=>[]
def zb(s:Stmt):Scope:=match s with
 | .FunctionDef _ _ _ _ _ _ sc _ _ _=>sc
 | _=>{ kind:=.function,names:=[],isGenerator:=false,isCoroutine:=false }
abbrev CX0:CXT:=fun _ _ _ _ _ _=>False
abbrev E0:XK:=fun _ _ _=>False
theorem Yb{X:Cx}:uz CX0 X E0:=fun _ _ _ _ _ _ _ h=>h.elim
structure Fun(K:oO)(x qual:Str)(st:Stmt)(f:Addr)(fd:FuncData):Prop where
 ex:∃(oc:Value) (od:Option Addr) (kV doc pm:Value) (an:Option Addr) (cdv ct:Value) (osl:Array (Option Value)),
  fd=av x qual (zm st) (zk st) (zb st) .none kV doc pm an cdv ct/\K.lookup f=some ⟨oc,od,.func fd,osl⟩/\ar K cdv qual=true
 kp:aj K (.ref f)=true
section
variable{P:Program}{w:World}{K:oO}{mg:Str->Option Value}{base:Heap}
theorem Fun.ok{x qual:Str}{st:Stmt}{f:Addr}{fd:FuncData}{N ps:List Str}{k:Nat}{sp:Sp}(F:Fun K x qual st f fd)(S:zq N ps (zb st))(len:∀ vs H Q E,sp vs H Q E->vs.length=ps.length)
  (hbody:∀(cdv:Value) (A:Around) (outer:List Env) (s:Shared) (H:Hp) (vs:List V) (Q:VK) (E:XK),Room k (A.deeper (envOfC qual (zb st) s.heap.objs.size f cdv))->sp vs H Q E ->
   ∃ t,PSs (qg CX0 P w K mg base N qual (zb st) f cdv A outer s H E).nox (zk st) t/\t { nx:=fun _ H'=>Q .non H',rt:=Q } (start N vs) H):FnOk P w K mg base CX0 (k+1) f fd ps sp:=by
 obtain⟨oc,od,kV,doc,pm,an,cdv,ct,osl,rfl,lk,hcd⟩:=F.ex
 refine QG lk hcd S len fun A outer s H vs Q E hr hsp=>?_
 obtain⟨t,h,q⟩:=hbody cdv A outer s H vs Q E hr hsp
 exact⟨t,h.nox,q⟩
theorem Fun.binds{x qual:Str}{st:Stmt}{f:Addr}{fd:FuncData}{ps:List Str}(F:Fun K x qual st f fd)
  (h:∀(kV doc pm:Value) (an:Option Addr) (cdv ct:Value) (us:List Value),us.length=ps.length->bindArgs (av x qual (zm st) (zk st) (zb st) .none kV doc pm an cdv ct) ⟨us,[]⟩=pure (ps.zip us)):Binds K fd ps []:=by
 obtain⟨oc,od,kV,doc,pm,an,cdv,ct,osl,rfl,lk,hcd⟩:=F.ex
 exact .all (h kV doc pm an cdv ct)
theorem zE{x qual:Str}{st:Stmt}{f:Addr}{oc:Value}{od an:Option Addr}{osl:Array (Option Value)}{kV doc pm cdv ct:Value}(l:K.lookup f=some ⟨oc,od,.func (av x qual (zm st) (zk st) (zb st) .none kV doc pm an cdv ct),osl⟩)
  (c:ar K cdv qual=true) (k:aj K (.ref f)=true):Fun K x qual st f (av x qual (zm st) (zk st) (zb st) .none kV doc pm an cdv ct):=⟨⟨oc,od,kV,doc,pm,an,cdv,ct,osl,rfl,l,c⟩,k⟩
end
section
variable{X:Cx}
theorem pv(i:Nat){x:Str}{pos:Pos}(hN:X.N[i]? = some x:=by rfl)(hv:Vis X.env.scope x:=by first | exact Or.inl rfl | exact Or.inr (Or.inl rfl) | exact Or.inr (Or.inr rfl))(hd:(x == ("__debug__" : Str))=false:=by decide)
  (hcd:(x == ("__classdict__" : Str))=false:=by decide):PE X (.Name x pos) (xx i):=zai hN hv hd hcd
end
theorem zdx{A B:Prop}(h:A):if true=true then A else B:=by
 rw[if_pos rfl]
 exact h
theorem xj{c A B:Prop}[Decidable c](h1:c->A)(h2:¬ c->B):if c then A else B:=by
 by_cases h:c
 ·rw[if_pos h]
  exact h1 h
 ·rw[if_neg h]
  exact h2 h
def Same(H H':Hp):Prop:=∀ b o,H b=some o->H' b=some o
theorem Same.refl(H:Hp):Same H H:=fun _ _ h=>h
theorem Same.trans{H H1 H2:Hp}(a:Same H H1)(b:Same H1 H2):Same H H2:=fun c o h=>b c o (a c o h)
theorem Same.free{H H':Hp}(e:Same H H'){l:Addr}(h:H' l=Option.none):H l=Option.none:=by
 cases q:H l with
 | none=>rfl
 | some o =>
  rw[e l o q] at h
  cases h
theorem Same.seq{K:oO}{H H':Hp}{a:Addr}{xs:List V}(e:Same H H')(h:SqL K H a xs):SqL K H' a xs:=by
 rcases h with (h | ⟨o,h⟩) | h
 ·exact .inl (.inl (e _ _ h))
 ·exact .inl (.inr ⟨o,e _ _ h⟩)
 ·exact .inr h
end L2
open L2
namespace L3
abbrev St:=L2.St
abbrev cs(x:Str):List Nat:=x.cps.toList
abbrev tx(l:List Nat):Str:=⟨l.toArray⟩
theorem za5(x:Str):tx (cs x)=x:=by cases x;rfl
theorem XL(l:List Nat):cs (tx l)=l:=rfl
theorem Xn(x:Str):x.length=(cs x).length:=by simp [Str.length,cs]
theorem ye(l:List Nat):(tx l).length=l.length:=by simp [Str.length,tx]
theorem Zh{x y:Str}(h:cs x=cs y):x=y:=by rw[<- za5 x,<- za5 y,h]
theorem jT{l m:List Nat}(h:tx l=tx m):l=m:=by rw[<- XL l,<- XL m,h]
theorem zbF{l m:List Nat}:tx l=tx m ↔ l=m:=⟨jT,fun h=>by rw[h]⟩
theorem ZN(l m:List Nat):tx l ++ tx m=tx (l ++ m):=by
 apply Zh
 show (tx l ++ tx m).cps.toList=l ++ m
 rw[Str.cps_append]
 simp
def cut{α:Type}(l:List α)(lo hi:Option Int):List α:=(l.drop (HT.sIx l.length 0 lo)).take (HT.sIx l.length l.length hi - HT.sIx l.length 0 lo)
theorem wQ{α:Type}(l:List α)(lo hi:Option Int):(cut l lo hi).length<=l.length:=by
 unfold cut
 rw[aK,br]
 omega
theorem V8(a b:Nat):sliceRange (a:Int) (b:Int) 1=(aY (b - a)).map (fun k=>a+k):=by
 unfold sliceRange
 have e:(if (1:Int) > 0 then (if (a:Int)<b then ((b:Int) - a+1 - 1) / 1 else 0) else (if (a:Int) > b then ((a:Int) - b - 1 - 1) / (-1) else 0)).toNat=b - a:=by
  rw[if_pos (by decide)]
  by_cases h:(a:Int)<b
  ·rw[if_pos h,Int.ediv_one];omega
  ·rw[if_neg h];omega
 show (aY ((if (1:Int) > 0 then (if (a:Int)<b then ((b:Int) - a+1 - 1) / 1 else 0) else (if (a:Int) > b then ((a:Int) - b - 1 - 1) / (-1) else 0)).toNat)).map _=_
 rw[e]
 refine cF fun k _=>?_
 omega
theorem KA(lo hi:Option Int)(n:Nat):Builtin.Str.strSliceIndices lo hi 1 n=(aY (HT.sIx n n hi - HT.sIx n 0 lo)).map (fun k=>HT.sIx n 0 lo+k):=by
 rw[<- V8]
 have clip:∀(v:Int) (d:Nat),max 0 (min (if v<0 then v+(n:Int) else v) (n:Int))=((HT.sIx n d (some v):Nat):Int):=fun v d=>by
  show _=(((if v<0 then (v+(n:Int)).toNat else min v.toNat n):Nat):Int)
  by_cases hv:v<0
  ·simp only[if_pos hv];omega
  ·simp only[if_neg hv];omega
 have h1:((1:Int) > 0)=True:=by simp
 unfold Builtin.Str.strSliceIndices
 cases lo with
 | none =>
  cases hi with
  | none=>simp only[h1,if_true];rfl
  | some j=>simp only[h1,if_true,clip j n];rfl
 | some i =>
  cases hi with
  | none=>simp only[h1,if_true,clip i 0];rfl
  | some j=>simp only[h1,if_true,clip i 0,clip j n]
theorem VN(x:Str)(lo hi:Option Int):Txt.slice x lo hi=tx (cut (cs x) lo hi):=by
 have hn:x.length=x.cps.toList.length:=Xn x
 have hj:HT.sIx x.length x.length hi<=x.length:=HT.sIx_le _ _ (au _) hi
 have hi0:HT.sIx x.length 0 lo<=x.length:=HT.sIx_le _ _ (aJ _) lo
 unfold Txt.slice
 rw[KA]
 split
 ·rename_i h
  have h':HT.sIx x.length x.length hi - HT.sIx x.length 0 lo=x.length:=by simpa using h
  apply Zh
  show x.cps.toList=cut x.cps.toList lo hi
  unfold cut
  rw[<- hn]
  by_cases z:x.length=0
  ·have:x.cps.toList=[]:=dA (by omega)
   rw[this];simp
  ·have e0:HT.sIx x.length 0 lo=0:=by omega
   rw[e0] at h' ⊢
   rw[h',dI,hn,aQ]
 ·apply Zh
  have h:=StrLaws.picks x.cps.toList (HT.sIx x.length x.length hi - HT.sIx x.length 0 lo) (HT.sIx x.length 0 lo) (by omega)
  show (List.filterMap (fun k=>x.cps[k]?) _).toArray.toList=cut x.cps.toList lo hi
  unfold cut
  rw[<- hn]
  simpa using h
section
variable{X:Cx}
theorem WM{v:Value}{o:Option Int}(p:IsPart v o):∃ l:Option (Int × Tok),v=partValue l/\l.map (·.1)=o:=by
 cases p with
 | none=>exact⟨none,rfl,rfl⟩
 | int i t=>exact⟨some (i,t),rfl,rfl⟩
def zcC:V->Option Int->Option Int->Hp->VK->Prop:=fun x lo hi H Q=>∃ z,x=.str z/\z.length<=oN/\Q (.str (tx (cut (cs z) lo hi))) H
theorem uF:SlR X zcC:=by
 intro pins s σ H x v vl vu lo hi sl Q I rx hs pl pu h
 obtain⟨z,rfl,hz,q⟩:=h
 obtain⟨t,rfl⟩:=rx
 obtain⟨l,rfl,el⟩:=WM pl
 obtain⟨u,rfl,eu⟩:=WM pu
 refine⟨"str",_,slot_str_getitem.lookup,typeIs_str s z t,?_⟩
 refine wpAny_getItem_str_slice (l:=l) (u:=u) (st:=none) hs rfl ?_
 have e:Txt.slice z lo hi=tx (cut (cs z) lo hi):=VN z lo hi
 have hl:(tx (cut (cs z) lo hi)).length<=oN:=by rw[ye];have:=wQ (cs z) lo hi;rw[<- Xn] at this;omega
 unfold sliceMade slicePicked
 rw[el,eu]
 unfold Txt.slice at e
 by_cases hc:((1:Int) == 1 && (Builtin.Str.strSliceIndices lo hi 1 z.length).length == z.length)=true
 ·rw[if_pos hc] at e
  have hc':(((none:Option (Int × Tok)).map (·.1)).getD 1 == 1 && (Builtin.Str.strSliceIndices lo hi (((none:Option (Int × Tok)).map (·.1)).getD 1) z.length).length == z.length)=true:=hc
  rw[if_pos hc']
  exact⟨.str (tx (cut (cs z) lo hi)),H,I,⟨t,by rw[<- e]⟩,q⟩
 ·rw[if_neg hc] at e
  have hc':¬ (((none:Option (Int × Tok)).map (·.1)).getD 1 == 1 && (Builtin.Str.strSliceIndices lo hi (((none:Option (Int × Tok)).map (·.1)).getD 1) z.length).length == z.length)=true:=hc
  rw[if_neg hc']
  show (Str.mk ((Builtin.Str.strSliceIndices lo hi 1 z.length).filterMap (z.cps[·]?)).toArray).length<=oN/\_
  rw[e]
  refine⟨hl,?_⟩
  exact⟨.str (tx (cut (cs z) lo hi)),H,I.tok _,⟨_,by
   show Value.str (Str.mk ((Builtin.Str.strSliceIndices lo hi 1 z.length).filterMap (z.cps[·]?)).toArray) _=_
   rw[e]⟩,q⟩
theorem Y8(l:List Nat):∀(k:Nat) (acc:Array Nat),((bp k l.toArray).foldl (· ++ ·) acc).toList=acc.toList ++ (bp k l).flatten
 | 0,acc=>by simp
 | k+1,acc=>by
  rw[cX,List.foldl_cons,Y8 l k,cX,List.flatten_cons]
  simp
theorem Wl:OpR X (binaryOp .Mult) (fun x y H Q=>∃ z n,x=.str z/\y=.int n/\0<=n/\n<=1000/\z.length<=1000/\Q (.str (tx (bp n.toNat (cs z)).flatten)) H):=by
 intro pins s σ H x y v u Q I rx ry h
 obtain⟨z,n,rfl,rfl,h0,h1,hz,q⟩:=h
 obtain⟨t,rfl⟩:=rx
 obtain⟨t',rfl⟩:=ry
 have hs:oN=16777216:=sizeLine_eq
 have hmul:z.length * n.toNat<=1000 * 1000:=Nat.mul_le_mul hz (by omega)
 have fl:((bp n.toNat (cs z)).flatten).length=n.toNat * z.length:=by rw[L2.len_rep,<- Xn]
 refine PySem.P.mul_str ?_ (fun _ _=>?_) (fun _ _=>?_) ?_
 ·rw[decide_eq_false (by omega),decide_eq_false (by omega)];rfl
 ·have:(1000:Int)<=(2 ^ 63 - 1) / n:=by
   apply Int.le_ediv_of_mul_le (by omega)
   omega
  omega
 ·unfold Builtin.Str.tooLong
  exact decide_eq_false (by omega)
 ·by_cases c1:n<1
  ·rw[if_pos c1]
   have e:n.toNat=0:=by omega
   rw[e] at q
   exact⟨by decide,.str (tx []),H,I.tok _,⟨_,rfl⟩,q⟩
  ·rw[if_neg c1]
   by_cases c2:(n == 1 || z.length == 0)=true
   ·rw[if_pos c2]
    have e:tx (bp n.toNat (cs z)).flatten=z:=by
     rw[Bool.or_eq_true] at c2
     rcases c2 with c | c
     ·have:n.toNat=1:=by have:=eq_of_beq c;omega
      rw[this]
      simp only[List.replicate_one,List.flatten_singleton]
     ·have c0:z.length=0:=eq_of_beq c
      have:cs z=[]:=dA (by rw[<- Xn];exact c0)
      apply Zh
      rw[this]
      show (bp n.toNat ([]:List Nat)).flatten=[]
      simp only[List.flatten_replicate_nil]
    rw[e] at q
    exact⟨.str z,H,I,⟨_,rfl⟩,q⟩
   ·rw[if_neg c2]
    have e:(⟨(bp n.toNat z.cps).foldl (· ++ ·) #[]⟩:Str)=tx (bp n.toNat (cs z)).flatten:=by
     apply Zh
     have:=Y8 (cs z) n.toNat #[]
     have e2:(cs z).toArray=z.cps:=by cases z;rfl
     rw[e2] at this
     show (List.foldl (· ++ ·) #[] (bp n.toNat z.cps)).toList=(bp n.toNat (cs z)).flatten
     rw[this]
     rfl
    rw[e]
    refine⟨by rw[ye,fl,Nat.mul_comm];omega,.str _,H,I.tok _,⟨_,rfl⟩,q⟩
theorem W0:OpR X (compareOp .LtE) (fun x y H Q=>∃ i j,x=.str i/\y=.str j/\Q (.bl (!(decide (cs j<cs i)))) H):=by
 intro pins s σ H x y v u Q I rx ry h
 obtain⟨i,j,rfl,rfl,q⟩:=h
 obtain⟨t,rfl⟩:=rx
 obtain⟨t',rfl⟩:=ry
 exact PySem.P.le_str ⟨.bl _,H,I,rfl,q⟩
theorem op_lt_str':OpR X (compareOp .Lt) (fun x y H Q=>∃ i j,x=.str i/\y=.str j/\Q (.bl (decide (cs i<cs j))) H):=Vf
theorem QP:MtR X "str.count" (fun x xs H Q=>∃ z y,x=.str z/\xs=[.str y]/\Q (.int (Txt.count z y)) H):=by
 intro pins s σ H x xs v us Q I rx rv h
 obtain⟨z,y,rfl,rfl,q⟩:=h
 obtain⟨t,rfl⟩:=rx
 obtain⟨u,rfl,t',rfl⟩:=wI rv
 exact PySem.SC.count ⟨.int _,H,I.tok _,⟨_,rfl⟩,q⟩
end
end L3
namespace L3
section
variable{X:Cx}{pins:List (Addr × Obj)}{σ:St}{H:Hp}{s:Shared}{fp:List Addr}{h':Heap}{t':Nat}
theorem Inv.turns(I:Inv X pins σ H s)(k:∀ b o,b ∉ fp->s.heap.get? b=some o->h'.get? b=some o)(hf:∀ b ∈ fp,wa X pins H b):Inv X pins σ H { s with heap:=h',toks:=t' }:=by
 have nit:∀ b u,H b=some u->b ∉ fp:=fun b u e z=>by rw[(hf b z).1] at e;cases e
 refine I.step (g':=s.gens) (d':=s.drawn) (ch:=fp) (fun b hb=>?_) (fun b o _ _ hc e _=>k b o hc e) (fun b o _ _ hc e _=>⟨o.slots,k b o hc e⟩) (fun _ _ _ _ n=>n)
  (fun b o hc e=>⟨o,k b o hc e⟩) (fun _ _ e=>e) (fun _ _ _ e=>e) (fun b ps e=>⟨#[],by rw[e];simp⟩) (fun m hm=>?_) (fun b u e=>?_) I.bare
 ·obtain⟨_,a1,_,a3,a4,a5⟩:=hf b hb
  exact⟨a3,a1,a4,a5⟩
 ·obtain⟨o,es,ep,ho,r⟩:=hm
  exact⟨o,es,ep,k _ o (fun z=>(hf _ z).2.1 rfl) ho,r⟩
 ·refine (I.hok b u e).stay (fun c v hc q=>k c v ?_ q) (fun _ q=>q) fun _ _ q=>q
  rcases hc with z | z
  ·rw[z];exact nit b u e
  ·exact nit c _ z
theorem Inv.track{a:Addr}{o:HO}(I:Inv X pins σ H s)(fa:wa X pins H a)(new:ObjOk X.prog X.w (upd H a o) s.heap a o):Inv X pins σ (upd H a o) s:=by
 obtain⟨a0,a1,a2,a3,a4,a5⟩:=fa
 have e:s={ s with heap:=s.heap,gens:=s.gens,drawn:=s.drawn,toks:=s.toks }:=rfl
 rw[e]
 refine I.step (g':=s.gens) (d':=s.drawn) (ch:=[a]) (fun b hb=>?_) (fun b o _ _ _ e _=>e) (fun b o _ _ _ e _=>⟨o.slots,e⟩) (fun b o hc _ n=>?_)
  (fun b o _ e=>⟨o,e⟩) (fun b xs e=>?_) (fun b u xs e=>?_) (fun b ps e=>?_) (fun m hm=>hm) (fun b u e=>?_) I.bare
 ·have eb:b=a:=by simpa using hb
  subst eb
  exact⟨a3,a1,a4,a5⟩
 ·rw[zo (by simpa using hc)];exact n
 ·rw[zo (zH e a0)];exact e
 ·rw[zo (zH e a0)];exact e
 ·exact⟨#[],by rw[zo (zH e a0),e];simp⟩
 ·by_cases hb:b=a
  ·subst hb;rw[zf] at e;cases e;exact new
  ·rw[zo hb] at e
   exact (I.hok b u e).stay (fun c v _ q=>q) (fun c q=>by rw[zo (zH q a0)];exact q) fun c xs q=>by rw[zo (zH q a0)];exact q
end
def Its(x:Str):It:=⟨fun i _=>i<(cs x).length,fun i H v H'=>H'=H/\∃ c,(cs x)[i]? = some c/\v=.str (tx [c]),fun i _=>i=(cs x).length⟩
theorem Qr{P:Program}{w:World}{K:oO}{tg:Expr}{ty:String}(hty:["enumerate","zip","dict_itemiterator","dict_reverseitemiterator","odict_iterator","itertools.zip_longest","itertools.pairwise"].contains ty=false)(it:Addr)(x:Str)(t:Tok)
  (W:∀ A:Around,A.handled=none->Walks P w A it [it] [it] x.cps.size (SignAt x) fun i h=>h.IsStrIter it ty x t i)
  (S:∀(A:Around) (i:Nat) (s:Shared) (Q:Value->Shared->Prop) (E:Value->Shared->Prop),s.heap.IsStrIter it ty x t i->Q (.ref it) s->wpAny (model P w) A (pyIter (.ref it)) Q E s) :
  UB P w K tg (Its x) [it] it (fun i h=>h.IsStrIter it ty x t i) where
 mem:=by simp
 obj:=fun i h st b hb=>by
  have e:b=it:=by simpa using hb
  subst e
  obtain⟨o,e,c,d⟩:=st
  exact⟨o,e,fun v z=>by rw[d] at z;cases z⟩
 keep:=fun i h h' st k=>let ⟨o,e,r⟩:=st; ⟨o,k it (by simp) o e,r⟩
 item:=by
  intro X hP hw hK hc i pins s σ H E I hf st hg
  subst hP hw hK
  obtain⟨f0,f1,f2,f3,f4,f5⟩:=hf it (by simp)
  have hg':i<x.cps.size:=by have:i<x.cps.toList.length:=hg;simpa using this
  refine (W X.A (I.ok.hd hc)).item i s _ _ hg' st fun v h' tk hv st' kk=>?_
  obtain⟨c,u,hcc,rfl⟩:=hv
  have I1:Inv X pins σ H { s with heap:=h',toks:=tk }:=I.turned (fun b o hb e=>kk b o (by simpa using hb) e) f0 f1 f3 f4 f5
  obtain⟨o,e,cl,d⟩:=id st'
  refine⟨_,rfl,Vk (s:={ s with heap:=h',toks:=tk }) e cl d hty ⟨.str (tx [c]),H,I1,⟨u,rfl⟩,⟨rfl,c,?_,rfl⟩,st',fun b hb=>(hf b hb).1⟩⟩
  show x.cps.toList[i]? = some c
  simpa using hcc
 done:=by
  intro X hP hw hK hc i pins s σ H E I hf st hg
  subst hP hw hK
  obtain⟨f0,f1,f2,f3,f4,f5⟩:=hf it (by simp)
  have hi:i=x.cps.size:=by have:i=x.cps.toList.length:=hg;simpa using this
  rw[hi] at st
  exact (W X.A (I.ok.hd hc)).done s _ _ st fun h' tk kk=>⟨rfl,I.turned (fun b o hb e=>kk b o (by simpa using hb) e) f0 f1 f3 f4 f5⟩
 self:=fun A i s Q E st h=>S A i s Q E st h
section
variable{X:Cx}{tg:Expr}
def zcv(tl:TE):TI:=fun σ H R=>tl σ H fun v H1=>∃ x,v=.str x/\R (Its x) H1
theorem Jk{l:Expr}{tl:TE}(hl:PE X l tl):PI X tg l (zcv tl):=by
 intro pins s σ H R I h
 refine thn (hl pins s σ H _ I h) fun v s1 ⟨y,H1,I1,r1,q1⟩=>?_
 obtain⟨x,e,q⟩:=q1
 subst e
 obtain⟨t,rfl⟩:=r1
 have fin:∀(ty:String) (hty:["enumerate","zip","dict_itemiterator","dict_reverseitemiterator","odict_iterator","itertools.zip_longest","itertools.pairwise"].contains ty=false)
   (W:∀ A:Around,A.handled=none->Walks X.prog X.w A s1.heap.objs.size [s1.heap.objs.size] [s1.heap.objs.size] x.cps.size (SignAt x) fun i h=>h.IsStrIter s1.heap.objs.size ty x t i)
   (S:∀(A:Around) (i:Nat) (s:Shared) (Q:Value->Shared->Prop) (E:Value->Shared->Prop),s.heap.IsStrIter s1.heap.objs.size ty x t i->Q (.ref s1.heap.objs.size) s->wpAny (model X.prog X.w) A (pyIter (.ref s1.heap.objs.size)) Q E s),
   PIE X pins σ tg R (.ref s1.heap.objs.size) { s1 with heap:=s1.heap.push { cls:=.type ty,data:=.fields #[.str x t,.int 0 0] } }:=fun ty hty W S=>by
  refine⟨s1.heap.objs.size,[s1.heap.objs.size],_,_,H1,rfl,I1.kept (t':=s1.toks) fun b o e=>aa _ e,Qr hty _ x t W S,⟨_,aI _ rfl,rfl,rfl⟩,fun b hb=>?_,q⟩
  have e:b=s1.heap.objs.size:=by simpa using hb
  subst e
  exact I1.fpOk (au _) (I1.hok.fresh (au _))
 cases ha:x.cps.all (· < 128)
 ·exact wpAny_pyIter_wide ha (fin "str_iterator" (by decide) (fun A hA=>Walks.strWide hA _ x t) fun A i s Q E st h=>wpAny_pyIter_striter_wide st h)
 ·exact wpAny_pyIter_ascii ha (fin "str_ascii_iterator" (by decide) (fun A hA=>Walks.strAscii hA _ x t) fun A i s Q E st h=>wpAny_pyIter_striter_ascii st h)
end
theorem KS{x:Str}{g:TG}{tb:TS}{D:vp}{σ:St}{H:Hp}(Pv:Nat->St->Hp->Prop)(h0:Pv 0 σ H)
  (hs:∀ i c σ H,(cs x)[i]? = some c->Pv i σ H->g (.str (tx [c])) σ H fun σ2 H2=>tb { D with nx:=Pv (i+1),ct:=Pv (i+1),bk:=D.nx } σ2 H2) (hd:∀ σ H,Pv (cs x).length σ H->D.nx σ H) :
  ∃ W:Nat->Nat->St->Hp->Prop,(∃ m,W 0 m σ H)/\∀ i m σ H,W i m σ H ->
   ((Its x).stop i H/\D.nx σ H)\/((Its x).go i H/\∃ N:St->Hp->Prop,(∀ σ' H',N σ' H'->∃ m',m'<m/\W (i+1) m' σ' H')/\∀ v H',(Its x).yld i H v H'->g v σ H' fun σ2 H2=>tb { D with nx:=N,ct:=N,bk:=D.nx } σ2 H2):=by
 refine⟨fun i m σ H=>m=(cs x).length - i/\i<=(cs x).length/\Pv i σ H,⟨(cs x).length,by simp,aJ _,h0⟩,?_⟩
 rintro i m σ H ⟨rfl,hi,p⟩
 by_cases hlt:i<(cs x).length
 ·refine .inr ⟨hlt,Pv (i+1),fun σ' H' p'=>⟨(cs x).length - (i+1),by omega,rfl,hlt,p'⟩,fun v H' y=>?_⟩
  obtain⟨e,c,hc,ev⟩:=y
  subst e ev
  exact hs i c σ _ hc p
 ·have e:i=(cs x).length:=by omega
  subst e
  exact .inl ⟨rfl,hd σ H p⟩
def Ite(x:Str):It:=⟨fun i _=>i<(cs x).length,fun i H v H'=>∃ p c,H p=none/\(cs x)[i]? = some c/\v=.ref p/\H'=upd H p (.tup [.int (i:Nat),.str (tx [c])]),fun i _=>i=(cs x).length⟩
section
variable{X:Cx}
def zcc(ta:TA):TI:=fun σ H R=>ta σ H fun vs H1=>∃ x,vs=[.str x]/\R (Ite x) H1
end
end L3
namespace L3
theorem vX{env:Env}:∀(names:List (Str × NameKind)) (acc:List (Str × Addr)),
    (∀ y,(y,NameKind.free) ∈ names->∃ c,env.cells.lookup y=some c)->(∀ y c,acc.lookup y=some c->env.cells.lookup y=some c) ->
    ∃ cl,(forIn names acc fun(x:Str × NameKind) (cs:List (Str × Addr))=>if (x.2 == NameKind.free)=true then (do let a <- cellOf env x.1;pure (ForInStep.yield ((x.1,a)::cs))) else pure (ForInStep.yield cs):Sem (List (Str × Addr)))=pure cl /\
      (∀ y c,cl.lookup y=some c->env.cells.lookup y=some c)/\(∀ y,(y,NameKind.free) ∈ names\/(acc.lookup y).isSome=true->∃ c,cl.lookup y=some c)
  | [],acc,_,ha=>⟨acc,rfl,ha,fun y h=>by
      rcases h with h | h
      . cases h
      . exact Option.isSome_iff_exists.mp h⟩
  | (n,k)::r,acc,hn,ha=>by
    by_cases hk:k=NameKind.free
    . subst hk
      obtain⟨c,hc⟩:=hn n (by simp)
      have ha':∀ y d,((n,c)::acc).lookup y=some d->env.cells.lookup y=some d:=fun y d e=>by
        rw[aW] at e
        by_cases hy:(y == n)=true
        . rw[hy] at e
          have:y=n:=eq_of_beq hy
          subst this
          cases e
          exact hc
        . have hy':(y == n)=false:=by simpa using hy
          rw[hy'] at e
          exact ha y d e
      obtain⟨cl,e,h1,h2⟩:=vX r ((n,c)::acc) (fun y hy=>hn y (aw _ hy)) ha'
      refine⟨cl,?_,h1,fun y hy=>h2 y ?_⟩
      . rw[db]
        have ec:cellOf env n=pure c:=by unfold cellOf;rw[hc]
        simp only[beq_self_eq_true,if_true,ec,pure_bind]
        exact e
      . rcases hy with hy | hy
        . rcases List.mem_cons.mp hy with q | q
          . cases q
            exact .inr (by simp)
          . exact .inl q
        . refine .inr ?_
          rw[aW]
          by_cases hyn:(y == n)=true
          . rw[hyn];rfl
          . have hy':(y == n)=false:=by simpa using hyn
            rw[hy'];exact hy
    . obtain⟨cl,e,h1,h2⟩:=vX r acc (fun y hy=>hn y (aw _ hy)) ha
      refine⟨cl,?_,h1,fun y hy=>h2 y ?_⟩
      . rw[db]
        have ek:(k == NameKind.free)=false:=by simpa using hk
        simp only[ek,bO,if_false,pure_bind]
        exact e
      . rcases hy with hy | hy
        . rcases List.mem_cons.mp hy with q | q
          . cases q;exact absurd rfl hk
          . exact .inl q
        . exact .inr hy
theorem wu{scope:Scope}{env:Env}(hn:∀ y,(y,NameKind.free) ∈ scope.names->∃ c,env.cells.lookup y=some c) :
  ∃ cl,closureFor scope env=pure cl/\(∀ y c,cl.lookup y=some c->env.cells.lookup y=some c)/\(∀ y,(y,NameKind.free) ∈ scope.names->∃ c,cl.lookup y=some c):=by
 obtain⟨cl,e,h1,h2⟩:=vX scope.names [] hn (fun y c h=>by cases h)
 refine⟨cl,?_,h1,fun y hy=>h2 y (.inl hy)⟩
 unfold closureFor
 simp only[bind_pure]
 exact e
abbrev Uo(ifs:List Expr)(env:Env):Sem Bool :=
 forIn ifs true fun c r=>if r=true then (do let ok <- isTrue c env (eval c env);pure (ForInStep.yield ok)) else pure (ForInStep.yield r)
theorem ZE{prog:Program}{w:World}{A:Around}{R:Result->Shared->Prop}{s:Shared}{elt tg iter:Expr}{ifs:List Expr}{scope:Scope}{pos:Pos}{it acc:Value}{env:Env}
  (I:Nat->Shared->Prop) {EE:Value->Shared->Prop} (hEE:EE=notedBy (model prog w) A env fun e s'=>R (.error e) s')
  (turn:∀ n s,I n s->wpAny (model prog w) A (pyNext it) (fun r s1=>match r with
   | none=>R (.ok .next) s1
   | some v=>wpAny (model prog w) A (letOwnedTupleGo tg it v) (fun _ s2=>wpAny (model prog w) A (assign tg env v) (fun _ s3 =>
     wpAny (model prog w) A (Uo ifs env) (fun ok s4=>if ok=true then
      wpAny (model prog w) A (eval elt env) (fun x s5=>wpAny (model prog w) A (call (.builtin "list.append") [acc,x]) (fun _ s6=>∃ m,m<n/\I m s6) EE s5) EE s4
      else ∃ m,m<n/\I m s4) EE s3) EE s2) EE s1) EE s) (n:Nat) (h:I n s) :
  codeAny (model prog w) A (.compLoop (.ListComp elt [⟨tg,iter,ifs,0⟩] scope pos) 0 it acc env) R s:=by
 subst hEE
 refine codeAny_loop rfl I (fun n s hI=>?_) n h
 show wpAny _ A ((compTurn (.ListComp elt [⟨tg,iter,ifs,0⟩] scope pos) 0 it acc env).onRaise (fun x=>do noteFrame x env;theTreesLotGoes x)) _ _ s
 refine wpAny_noted ?_
 rw[compTurn_list]
 refine oH (wpAny_standAt (oH (thn (turn n s hI) fun r s1 h1=>?_)))
 cases r with
 | none=>exact oJ h1
 | some v =>
  refine oH (thn h1 fun _ s2 h2=>oH (thn h2 fun _ s3 h3=>oH (thn h3 fun ok s4 h4=>?_)))
  cases ok with
  | false=>exact oJ ⟨rfl,h4⟩
  | true=>exact oH (oH (thn h4 fun x s5 h5=>oH (thn h5 fun _ s6 h6=>oJ (oJ ⟨rfl,h6⟩))))
def yf(X:Cx)(scope:Scope)(cl:List (Str × Addr))(C:Addr)(N:List Str)(pins:List (Addr × Obj))(s3:Shared)(H3:Hp)(fp:List Addr)(E:Value->Shared->Prop):Cx :=
 { X with N:=N,s₀:=s3,H₀:=H3,env:=compEnvC scope cl C X.env,outer:=X.stack,ex:=fp,fn:=fun _=>false,pn:=X.pn ++ pins,xe:=E }
def vj(σ:St)(own:Nat)(ix:List Nat):St:=bp own none ++ ix.map fun i=>(σ[i]?).join
structure qO(X:Cx)(scope:Scope)(own caps:List Str)(ix:List Nat):Prop where
 kind:scope.kind=.function
 nocell:∀ y ∈ scope.names,y.2≠.cell
 names:∀ y ∈ scope.names,y.2=.local->scope.names.lookup y.1=some .local
 free:∀ y,(y,NameKind.free) ∈ scope.names->X.env.kindOf y=some .cell
 hown:∀ y ∈ own,scope.names.lookup y=some .local
 hcaps:∀ y ∈ caps,scope.names.lookup y=some .free
 hix:ix.map (fun i=>X.N[i]?)=caps.map some
theorem wm{α β:Type}[BEq α][LawfulBEq α]{l:List (α × β)}{a:α}{b:β}(h:l.lookup a=some b):(a,b) ∈ l:=by
 induction l with
 | nil=>cases h
 | cons p r ih =>
  obtain⟨c,d⟩:=p
  rw[aW] at h
  by_cases e:(a == c)=true
  ·rw[e] at h
   cases h
   rw[eq_of_beq e]
   exact az
  ·have e':(a == c)=false:=by simpa using e
   rw[e'] at h
   exact aw _ (ih h)
theorem vm{scope:Scope}{env:Env}(hf:env.scope.kind=.function):∀{names:List (Str × NameKind)} {x:Str} {k:NameKind},names.lookup x=some k ->
    (names.map fun(n,k)=>if (k == NameKind.free && env.scope.kind == .function && env.kindOf n == some .cell) then (n,NameKind.cell) else (n,k)).lookup x=some (if (k == NameKind.free && env.scope.kind == .function && env.kindOf x == some .cell)=true then .cell else k)
  | [],_,_,h=>by simp at h
  | (n,k')::r,x,k,h=>by
    have ih:=@vm scope env hf r x k
    show bq x ((if (k' == NameKind.free && env.scope.kind == .function && env.kindOf n == some .cell)=true then (n,NameKind.cell) else (n,k'))::_)=_
    by_cases hx:(x == n)=true
    . have hxn:x=n:=eq_of_beq hx
      subst hxn
      rw[aW,hx] at h
      cases h
      by_cases c:(k' == NameKind.free && env.scope.kind == .function && env.kindOf x == some .cell)=true
      . rw[if_pos c,if_pos c,aW,hx]
      . rw[if_neg c,if_neg c,aW,hx]
    . have hx':(x == n)=false:=by simpa using hx
      rw[aW,hx'] at h
      by_cases c:(k' == NameKind.free && env.scope.kind == .function && env.kindOf n == some .cell)=true
      . rw[if_pos c,aW,hx'];exact ih h
      . rw[if_neg c,aW,hx'];exact ih h
theorem uE{scope:Scope}{env:Env}:∀{names:List (Str × NameKind)} {x:Str},names.lookup x=none ->
    (names.map fun(n,k)=>if (k == NameKind.free && env.scope.kind == .function && env.kindOf n == some .cell) then (n,NameKind.cell) else (n,k)).lookup x=none
  | [],_,_=>rfl
  | (n,k')::r,x,h=>by
    have ih:=@uE scope env r x
    show bq x ((if (k' == NameKind.free && env.scope.kind == .function && env.kindOf n == some .cell)=true then (n,NameKind.cell) else (n,k'))::_)=_
    by_cases hx:(x == n)=true
    . rw[aW,hx] at h;cases h
    . have hx':(x == n)=false:=by simpa using hx
      rw[aW,hx'] at h
      by_cases c:(k' == NameKind.free && env.scope.kind == .function && env.kindOf n == some .cell)=true
      . rw[if_pos c,aW,hx'];exact ih h
      . rw[if_neg c,aW,hx'];exact ih h
section
variable{X:Cx}{scope:Scope}{own caps:List Str}{ix:List Nat}{cl:List (Str × Addr)}{pins:List (Addr × Obj)}{σ:St}{H:Hp}{s:Shared}{fp:List Addr}{E:Value->Shared->Prop}
theorem jU(S:qO X scope own caps ix)(hcl1:∀ y c,cl.lookup y=some c->X.env.cells.lookup y=some c)(hcl2:∀ y,(y,NameKind.free) ∈ scope.names->∃ c,cl.lookup y=some c)
  (I:Inv X pins σ H s) (hfp:∀ b ∈ fp,wa X pins H b) (hlt:∀ b ∈ fp,b<s.heap.objs.size) {h4:Heap} {t4:Nat} (hn:h4.Ns s.heap.objs.size fun _=>none) (hk:∀ b o,s.heap.get? b=some o->h4.get? b=some o) :
  Inv (yf X scope cl s.heap.objs.size (own ++ caps) pins s H fp E) [] (vj σ own.length ix) H { s with heap:=h4,toks:=t4 }:=by
 have kf:X.env.scope.kind=.function:=I.ok.kind
 have nofp:∀ b ∈ fp,b≠s.heap.objs.size:=fun b hb=>aE (hlt b hb)
 have cellLt:∀ x c,X.env.cells.lookup x=some c->c<s.heap.objs.size:=fun x c e=>by
  obtain⟨v,o,ho,_⟩:=I.cell x c e
  exact ay ho
 have kinds:∀ y k,scope.names.lookup y=some k->(relabel scope X.env).names.lookup y=some (if (k == NameKind.free && X.env.scope.kind == .function && X.env.kindOf y == some .cell)=true then .cell else k):=fun y k e=>vm (scope:=scope) kf e
 have back:∀ y k,(relabel scope X.env).names.lookup y=some k->∃ k',scope.names.lookup y=some k'/\k=(if (k' == NameKind.free && X.env.scope.kind == .function && X.env.kindOf y == some .cell)=true then .cell else k'):=fun y k e=>by
  cases q:scope.names.lookup y with
  | none =>
   have:=uE (scope:=scope) (env:=X.env) q
   have e':(scope.names.map fun(n,k)=>if (k == NameKind.free && X.env.scope.kind == .function && X.env.kindOf n == some .cell) then (n,NameKind.cell) else (n,k)).lookup y=some k:=e
   rw[this] at e';cases e'
  | some k' =>
   refine⟨k',rfl,?_⟩
   have:=kinds y k' q
   rw[e] at this
   exact Option.some.inj this
 have isCell:∀ y,scope.names.lookup y=some .free->(relabel scope X.env).names.lookup y=some .cell:=fun y e=>by
  have:=kinds y _ e
  rw[this,if_pos]
  rw[S.free y (wm e),kf]
  rfl
 refine⟨⟨I.ok.mod,?_,I.ok.glob,I.ok.blt,au _,?_,?_,?_,I.ok.hd,I.ok.frames,.inl rfl,?_,I.bs,aO I.ok.bsz I.sz,?_,?_,I.stack,I.stkFree⟩,rfl,I.bare,Un.kept hk,⟨_,hn,?_⟩,?_,?_,?_,?_,I.hok.kept hk,?_⟩
 ·show (relabel scope X.env).kind=.function
  exact S.kind
 ·intro x y c h1 h2
  exact I.ok.inj x y c (hcl1 x c h1) (hcl1 y c h2)
 ·intro y hy
  have hy':(relabel scope X.env).names.lookup y=some .cell\/(relabel scope X.env).names.lookup y=some .free:=hy
  have:scope.names.lookup y=some .free:=by
   rcases hy' with q | q
   ·obtain⟨k',e,ek⟩:=back y _ q
    by_cases c:(k' == NameKind.free && X.env.scope.kind == .function && X.env.kindOf y == some .cell)=true
    ·rw[cE,cE] at c
     rw[e,eq_of_beq c.1.1]
    ·rw[if_neg c] at ek
     exact absurd ek.symm (S.nocell _ (wm e))
   ·obtain⟨k',e,ek⟩:=back y _ q
    by_cases c:(k' == NameKind.free && X.env.scope.kind == .function && X.env.kindOf y == some .cell)=true
    ·rw[if_pos c] at ek;cases ek
    ·rw[if_neg c] at ek
     rw[e,<- ek]
  exact hcl2 y (wm this)
 ·intro x c h _
  exact absurd h (by simp [yf])
 ·intro b hb
  refine⟨nofp b hb,fun x c e=>?_⟩
  exact (hfp b hb).2.2.2.2.1 x c (hcl1 x c e)
 ·intro b o e hb
  obtain⟨_,_,_,q,_⟩:=hfp b hb
  rcases q with q | q
  ·exact I.ok.noex b o e q
  ·exact absurd (aD (ay e) (aO I.ok.bsz q)) (cI _)
 ·intro b hb z
  rcases List.mem_cons.mp (I.stkSub b z) with e | e
  ·exact (hfp b hb).2.1 e
  ·exact (hfp b hb).2.2.1 e
 ·intro i y v h1 h2 h3
  have hi:own.length<=i:=by
   refine cT fun hlt'=>?_
   unfold vj at h2
   rw[bY (by rw[cr];exact hlt'),eg,if_pos hlt'] at h2
   cases h2
  have h1':caps[i - own.length]? = some y:=by
   have:(own ++ caps)[i]? = some y:=h1
   rw[bS hi] at this
   exact this
  have h2':(ix.map fun i=>(σ[i]?).join)[i - own.length]? = some (some v):=by
   unfold vj at h2
   rw[bS (by rw[cr];exact hi),cr] at h2
   exact h2
  rw[aG] at h2'
  have hx:=congrArg (fun l=>l[i - own.length]?) S.hix
  simp only[aG,h1',Option.map_some] at hx
  cases q:ix[i - own.length]? with
  | none=>rw[q] at h2';cases h2'
  | some j =>
   rw[q] at h2' hx
   have hj:X.N[j]? = some y:=Option.some.inj hx
   have hv:(σ[j]?).join=some v:=Option.some.inj h2'
   have hσ:σ[j]? = some (some v):=by
    cases r:σ[j]? with
    | none=>rw[r] at hv;cases hv
    | some z=>rw[r] at hv;cases z with
     | none=>cases hv
     | some z=>cases hv;rfl
   have hfree:scope.names.lookup y=some .free:=S.hcaps y (af h1')
   have hkc:=S.free y (wm hfree)
   obtain⟨m,hm,hl⟩:=I.loc
   obtain⟨u,ru,l⟩:=hl j y v hj hσ (.inr (.inl hkc))
   refine⟨u,ru,.inr ⟨.inl (isCell y hfree),?_⟩⟩
   rcases l with ⟨k,_⟩ | ⟨_,c,e,z⟩
   ·have:X.env.kindOf y=some .local:=k
    rw[hkc] at this;cases this
   ·obtain⟨c',e'⟩:=hcl2 y (wm hfree)
    have:=hcl1 y c' e'
    rw[e] at this
    cases this
    obtain⟨o,ho,hd⟩:=z
    exact⟨c,e',o,hk c o ho,hd⟩
 ·intro x c e
  obtain⟨v,o,ho,hd⟩:=I.cell x c (hcl1 x c e)
  exact⟨v,o,hk c o ho,hd⟩
 ·exact I.hok.fresh (au _)
 ·intro x c e
  exact I.freeC x c (hcl1 x c e)
 ·intro p hp
  have hp':p ∈ X.pn ++ pins:=by
   have:p ∈ (X.pn ++ pins) ++ []:=hp
   rwa [aS] at this
  obtain⟨e,n,ne,nf,d⟩:=I.pin p hp'
  refine⟨hk _ _ e,n,?_,fun z=>?_,d⟩
  ·exact aE (ay e)
  ·rcases List.mem_cons.mp (I.stkSub p.1 z) with q | q
   ·exact ne q
   ·exact nf q
 ·show (vj σ own.length ix).length=(own ++ caps).length
  have:=congrArg eJ S.hix
  rw[ae,ae] at this
  unfold vj
  rw[am,cr,ae,am,this]
end
end L3
namespace L3
def xu(σ σ':St):Prop:=σ.length=σ'.length/\∀(i:Nat) v,σ[i]? = some (some v)->σ'[i]? = some (some v)
def PTs(X:Cx)(ifs:List Expr)(t:TT):Prop :=
 ∀(pins:List (Addr × Obj)) (s:Shared) (σ:St) (H:Hp) (Q:Bool->Hp->Prop),Inv X pins σ H s->t σ H Q->wpAny (model X.prog X.w) X.A (Uo ifs X.env) (TP X pins σ Q) X.xe s
def vT:TT:=fun _ H Q=>Q true H
theorem xv{X:Cx}:PTs X [] vT:=fun _ _ _ H _ I h=>oJ ⟨H,I,h⟩
theorem Uu{X:Cx}{c:Expr}{t:TT}(h:PT X c t):PTs X [c] t:=fun pins s σ H Q I hq=>by
 show wpAny _ _ (forIn [c] true _) _ _ s
 simp only[db,eO,if_true]
 exact oH (oH (thn (h pins s σ H Q I hq) fun b s' hb=>oJ (oJ hb)))
def j9(wi:TI)(g:TG)(tt:TT)(te:TE)(own:Nat)(ix:List Nat):TE:=fun σ H Q=>wi σ H fun J H1=>∀ D,H1 D=none->∃ W:Nat->Nat->List V->Hp->Prop,(∃ m,W 0 m [] (upd H1 D (.lst []))) /\
 ∀ i m acc H',W i m acc H'->(J.stop i H'/\Q (.ref D) H')\/(J.go i H'/\∀ x H2,J.yld i H' x H2->g x (vj σ own ix) H2 fun σ3 H3=>xu (vj σ own ix) σ3/\tt σ3 H3 fun b H4=>if b=true then
  te σ3 H4 fun v H5=>H5 D=some (.lst acc)/\acc.length<oN/\∃ m',m'<m/\W (i+1) m' (acc ++ [v]) (upd H5 D (.lst (acc ++ [v])))
  else ∃ m',m'<m/\W (i+1) m' acc H4)
theorem Un.but{fs ex:List Addr}{H H':Hp}{h h1 h2:Heap}{a:Addr}(u:Un fs ex H H' h h1)(sb:Heap.SameBut a h1 h2)(ha:h.get? a=none):Un fs ex H H' h h2:=by
 have ne:∀ b o,h.get? b=some o->b≠a:=fun b o e z=>by subst z;rw[ha] at e;cases e
 refine⟨fun b o e n hb hx=>(sb.2 b (ne b o e)).trans (u.keep b o e n hb hx),fun b o e n hb hx=>?_,u.free,fun b o e hx=>?_,u.tups,u.frzs,u.tbls⟩
 ·obtain⟨sl,q⟩:=u.slot b o e n hb hx
  exact⟨sl,(sb.2 b (ne b o e)).trans q⟩
 ·obtain⟨o',q⟩:=u.there b o e hx
  exact⟨o',(sb.2 b (ne b o e)).trans q⟩
theorem HOk.but{P:Program}{w:World}{H:Hp}{h1 h2:Heap}{a:Addr}(ok:HOk P w H h1)(sb:Heap.SameBut a h1 h2)(ha:H a=none):HOk P w H h2:=fun b ob e=>by
 refine (ok b ob e).stay (fun c u hc q=>(sb.2 c ?_).trans q) (fun _ q=>q) fun _ _ q=>q
 rintro rfl
 rcases hc with rfl | hc
 ·rw[ha] at e;cases e
 ·rw[ha] at hc;cases hc
section
variable{X:Cx}{scope:Scope}{own caps:List Str}{ix:List Nat}{elt tg iter:Expr}{ifs:List Expr}{pos:Pos}{wi:TI}{g:TG}{tt:TT}{te:TE}
theorem jA(hc:X.calm=true)(S:qO X scope own caps ix)
  (hg:∀ cl C pins s3 H3 fp,PG (yf X scope cl C (own ++ caps) pins s3 H3 fp fun _ _=>False) tg g)
  (ht:∀ cl C pins s3 H3 fp,PTs (yf X scope cl C (own ++ caps) pins s3 H3 fp fun _ _=>False) ifs tt)
  (he:∀ cl C pins s3 H3 fp,PE (yf X scope cl C (own ++ caps) pins s3 H3 fp fun _ _=>False) elt te)
  {cl:List (Str × Addr)} (hc1:∀ y c,cl.lookup y=some c->X.env.cells.lookup y=some c) (hc2:∀ y,(y,NameKind.free) ∈ scope.names->∃ c,cl.lookup y=some c)
  {pins:List (Addr × Obj)} {σ:St} {H2:Hp} {s2:Shared} {Q:VK} {it:Addr} {fp:List Addr} {tn:Nat->Heap->Prop} {J:It} (I2:Inv X pins σ H2 s2) (T:UB X.prog X.w X.K tg J fp it tn) (st2:tn 0 s2.heap) (f2:∀ b ∈ fp,wa X pins H2 b)
  (q:∀ D,H2 D=none->∃ W:Nat->Nat->List V->Hp->Prop,(∃ m,W 0 m [] (upd H2 D (.lst []))) /\
   ∀ i m acc H',W i m acc H'->(J.stop i H'/\Q (.ref D) H')\/(J.go i H'/\∀ x H2,J.yld i H' x H2->g x (vj σ own.length ix) H2 fun σ3 H3=>xu (vj σ own.length ix) σ3/\tt σ3 H3 fun b H4=>if b=true then
    te σ3 H4 fun v H5=>H5 D=some (.lst acc)/\acc.length<oN/\∃ m',m'<m/\W (i+1) m' (acc ++ [v]) (upd H5 D (.lst (acc ++ [v])))
    else ∃ m',m'<m/\W (i+1) m' acc H4))
  {RR:Value->Addr->Result->Shared->Prop} {E:Value->Shared->Prop}
  (hRR:∀ D C m s' H',H2 D=none->s'.heap.Ns C m->wa X pins H' C->Inv X pins σ H' s'->Q (.ref D) H'->RR (.ref D) C (.ok .next) s') :
  wpAny (model X.prog X.w) X.A (newList []) (fun acc s3=>wpAny (model X.prog X.w) X.A (newFunctionEnv scope X.env.globals cl [] X.env.qual none .none (some X.env)) (fun cenv s4 =>
   codeAny (model X.prog X.w) X.A (.compStart (.ListComp elt [⟨tg,iter,ifs,0⟩] scope pos) 0 (.ref it) acc { cenv with scope:=relabel scope X.env }) (RR acc cenv.locals) s4) E s3) E s2:=by
 have hD:H2 s2.heap.objs.size=none:=I2.hok.fresh (au _)
 obtain⟨W,⟨m0,w0⟩,turn⟩:=q _ hD
 refine wpAny_newObj_type (wpAny_newFunctionEnv S.nocell (by intro y hy;simp at hy) (fun h1 hns1 hsb1=>?_) S.kind)
 dsimp only at hns1 hsb1 ⊢
 have I3:Inv X pins σ (upd H2 s2.heap.objs.size (.lst [])) { s2 with heap:=s2.heap.push { cls:=.type "list",dict:=none,data:=.seq ([]:List Value).toArray } } :=
  I2.lnew (its:=[]) (t':=s2.toks) .nil (aJ _)
 generalize hs3:({ s2 with heap:=s2.heap.push { cls:=.type "list",dict:=none,data:=.seq ([]:List Value).toArray } }:Shared)=s3 at I3
 have e3:s2.heap.push { cls:=.type "list",dict:=none,data:=.seq ([]:List Value).toArray }=s3.heap:=by rw[<- hs3]
 rw[e3] at hns1 hsb1 ⊢
 have k1:∀ b o,s3.heap.get? b=some o->h1.get? b=some o:=fun b o e=>(hsb1.2 b (aE (ay e))).trans (aa _ e)
 have k23:∀ b o,s2.heap.get? b=some o->s3.heap.get? b=some o:=fun b o e=>by rw[<- e3];exact aa _ e
 have hz:s3.heap.objs.size=s2.heap.objs.size+1:=by rw[<- e3,bH]
 have fpObj:∀ b ∈ fp,∃ o,s2.heap.get? b=some o:=fun b hb=>let ⟨o,e,_⟩:=T.obj 0 _ st2 b hb; ⟨o,e⟩
 have fplt:∀ b ∈ fp,b<s2.heap.objs.size:=fun b hb=>let ⟨o,e⟩:=fpObj b hb;ay e
 have f3:∀ b ∈ fp,wa X pins (upd H2 s2.heap.objs.size (.lst [])) b:=fun b hb=>⟨by rw[zo (aE (fplt b hb))];exact (f2 b hb).1,(f2 b hb).2⟩
 have I4:Inv (yf X scope cl s3.heap.objs.size (own ++ caps) pins s3 (upd H2 s2.heap.objs.size (.lst [])) fp fun _ _=>False) [] (vj σ own.length ix) (upd H2 s2.heap.objs.size (.lst [])) { s3 with heap:=h1,toks:=s3.toks+([]:List (Str × Value)).length } :=
  jU S hc1 hc2 I3 f3 (fun b hb=>by rw[hz];exact ci (fplt b hb)) hns1 k1
 have st4:tn 0 h1:=T.keep 0 _ _ st2 fun b hb o e=>k1 b o (k23 b o e)
 generalize hs4:({ s3 with heap:=h1,toks:=s3.toks+([]:List (Str × Value)).length }:Shared)=s4 at I4
 have es4:({ s2 with heap:=h1,toks:=s2.toks+([]:List (Str × Value)).length }:Shared)=s4:=by rw[<- hs4,<- hs3]
 have e4:h1=s4.heap:=by rw[<- hs4]
 have loop:codeAny (model X.prog X.w) X.A (.compLoop (.ListComp elt [⟨tg,iter,ifs,0⟩] scope pos) 0 (.ref it) (.ref s2.heap.objs.size) (compEnvC scope cl s3.heap.objs.size X.env)) (RR (.ref s2.heap.objs.size) s3.heap.objs.size) s4:=by
  let X':=yf X scope cl s3.heap.objs.size (own ++ caps) pins s3 (upd H2 s2.heap.objs.size (.lst [])) fp fun _ _=>False
  have fp':∀{H':Hp},(∀ b ∈ fp,H' b=none)->∀ b ∈ fp,wa X' [] H' b:=fun {H'} hn b hb=>by
   obtain⟨_,a1,a2,a3,a4,a5⟩:=f3 b hb
   refine⟨hn b hb,aE (show b<s3.heap.objs.size from by rw[hz];exact ci (fplt b hb)),fun z=>?_,.inl hb,fun x c e=>a4 x c (hc1 x c e),fun p hp=>?_⟩
   ·rcases List.mem_cons.mp (I3.stkSub b z) with e | e
    ·exact a1 e
    ·exact a2 e
   ·have:p ∈ (X.pn ++ pins) ++ []:=hp
    rw[aS] at this
    exact a5 p this
  refine ZE (fun n s'=>∃ i acc H',Inv X' [] (vj σ own.length ix) H' s'/\tn i s'.heap/\(∀ b ∈ fp,H' b=none)/\W i n acc H') rfl ?_ m0 ⟨0,[],_,I4,by rw[<- e4];exact st4,fun b hb=>(f3 b hb).1,w0⟩
  rintro n s5 ⟨i,acc,H5,I5,st5,fr5,w5⟩
  refine wpAny_noRaise ?_
  rcases turn i n acc H5 w5 with ⟨stop,qn⟩ | ⟨go,step⟩
  ·refine thn (T.done X' rfl rfl rfl hc i [] s5 _ H5 _ I5 (fp' fr5) st5 stop) fun r s6 ⟨hr,I6⟩=>?_
   subst hr
   obtain⟨m,hm,_⟩:=I6.loc
   refine hRR _ _ m s6 H5 hD hm (I3.fpOk (au _) I6.free) (I3.call' (s':=s6) I6.os I6.base I6.hok I6.bare fun b hb=>?_) qn
   obtain⟨_,a1,a2,a3,a4,a5⟩:=f3 b hb
   exact⟨a3,a1,a4,a5⟩
  ·refine thn (T.item X' rfl rfl rfl hc i [] s5 _ H5 (fun _ _=>False) I5 (fp' fr5) st5 go) fun r s6 ⟨u,hr,h6⟩=>?_
   subst hr
   refine wpAny_noRaise (thn h6 fun _ s7 ⟨x,H7,I7,r7,y7,st7,fr7⟩=>?_)
   have I7':=I7.pinned (fp' fr7) (T.obj _ _ st7)
   refine wpAny_noRaise (thn (hg _ _ _ _ _ _ _ s7 _ H7 x u _ I7' r7 (step x H7 y7)) fun _ s8 ⟨σ8,H8,I8,ks,q8⟩=>?_)
   refine wpAny_noRaise (thn (ht _ _ _ _ _ _ _ s8 σ8 H8 _ I8 q8) fun b s9 ⟨H9,I9,q9⟩=>?_)
   have back:∀{s':Shared} {H':Hp} {acc':List V} {m':Nat},Inv X' ([] ++ jE fp s7.heap) σ8 H' s'->m'<n->W (i+1) m' acc' H'->∃ m,m<n/\∃ i acc H',Inv X' [] (vj σ own.length ix) H' s'/\tn i s'.heap/\(∀ b ∈ fp,H' b=none)/\W i m acc H':=fun {s' H' acc' m'} J' hm w'=>by
    refine⟨m',hm,i+1,acc',H',(J'.unpinned).weak ks.1 ks.2,T.keep _ _ _ st7 fun b hb o e=>(J'.pin (b,o) (aA _ (aA _ (xG hb e)))).1,fun b hb=>?_,w'⟩
    obtain⟨o,e,d⟩:=T.obj _ _ st7 b hb
    exact (J'.pin (b,o) (aA _ (aA _ (xG hb e)))).2.1
   cases b with
   | false =>
    rw[if_neg aF] at q9 ⊢
    obtain⟨m',hm,w'⟩:=q9
    exact back I9 hm w'
   | true =>
    rw[if_pos rfl] at q9 ⊢
    refine wpAny_noRaise (thn (he _ _ _ _ _ _ _ s9 σ8 H9 _ I9 q9) fun v s10 ⟨y,H10,I10,r10,hD10,hsz,m',hm,w'⟩=>?_)
    refine wpAny_noRaise ?_
    have:=yW (X:=X') _ s10 σ8 H10 (.ref s2.heap.objs.size) [y] (.ref s2.heap.objs.size) [v] (fun _ H'=>H'=upd H10 s2.heap.objs.size (.lst (acc ++ [y]))) I10 rfl (.cons r10 .nil) ⟨_,acc,y,rfl,rfl,hD10,hsz,rfl⟩
    refine thn this fun _ s11 ⟨_,H11,I11,_,eH⟩=>?_
    subst eH
    exact back I11 hm w'
 have goal:codeAny (model X.prog X.w) X.A (.compStart (.ListComp elt [⟨tg,iter,ifs,0⟩] scope pos) 0 (.ref it) (.ref s2.heap.objs.size) (compEnvC scope cl s3.heap.objs.size X.env)) (RR (.ref s2.heap.objs.size) s3.heap.objs.size) s4 :=
  codeAny_compStart_list loop (T.self _ 0 s4 _ _ (by rw[<- e4];exact st4) loop)
 rw[<- es4] at goal
 exact goal
theorem xY(hc:X.calm=true)(S:qO X scope own caps ix)(hi:PI X tg iter wi)
  (hg:∀ cl C pins s3 H3 fp,PG (yf X scope cl C (own ++ caps) pins s3 H3 fp fun _ _=>False) tg g)
  (ht:∀ cl C pins s3 H3 fp,PTs (yf X scope cl C (own ++ caps) pins s3 H3 fp fun _ _=>False) ifs tt)
  (he:∀ cl C pins s3 H3 fp,PE (yf X scope cl C (own ++ caps) pins s3 H3 fp fun _ _=>False) elt te)
  (hs:∀ x,foldedSetIterable iter X.env x=pure x:=by intro _;rfl) :
  PE X (.ListComp elt [⟨tg,iter,ifs,0⟩] scope pos) (j9 wi g tt te own.length ix):=by
 intro pins s σ H Q I h
 obtain⟨cl,hclos,hc1,hc2⟩:=wu (scope:=scope) (env:=X.env) fun y hy=>I.ok.has y (.inl (S.free y hy))
 rw[eval_ListComp]
 refine wpAny_comprehension_free (use:=none) rfl hs hclos S.kind S.names (thn (hi pins s σ H _ I h) fun v s1 h1=>thn h1 fun itv s2 h2=>?_)
 obtain⟨it,fp,tn,J,H2,e,I2,T,st2,f2,q⟩:=h2
 subst e
 refine jA (RR:=fun acc C=>compPost (model X.prog X.w) X.A X.xe none (EP X pins σ Q) acc C) hc S hg ht he hc1 hc2 I2 T st2 f2 q ?_
 intro D C m s' H' _ hn fc I' qn
 obtain⟨a0,a1,a2,a3,a4,a5⟩:=fc
 exact⟨m,hn,fun h' sb=>⟨.ref D,H',I'.turned (t':=s'.toks) (fun b o hb e=>(sb.2 b hb).trans e) a0 a1 a3 a4 a5,rfl,qn⟩⟩
def Xy(i:Nat)(t:TE):TS:=fun D σ H=>t σ H fun x H1=>D.nx (σ.set i (some x)) H1
theorem vt{i:Nat}{y:Str}{py spos:Pos}(hN:X.N.Nodup)(hy:X.N[i]? = some y)(hly:Loc X.env.scope y)(hf:X.fn y=true\/X.env.scope.names.lookup y=some .local)(hc:X.calm=true)(S:qO X scope own caps ix)(hi:PI X tg iter wi)
  (hg:∀ cl C pins s3 H3 fp,PG (yf X scope cl C (own ++ caps) pins s3 H3 fp fun _ _=>False) tg g)
  (ht:∀ cl C pins s3 H3 fp,PTs (yf X scope cl C (own ++ caps) pins s3 H3 fp fun _ _=>False) ifs tt)
  (he:∀ cl C pins s3 H3 fp,PE (yf X scope cl C (own ++ caps) pins s3 H3 fp fun _ _=>False) elt te)
  (hsw:swapsWith (.ListComp elt [⟨tg,iter,ifs,0⟩] scope pos) (some (.Name y py)) spos.line X.env=pure true:=by rfl)
  (hs:∀ x,foldedSetIterable iter X.env x=pure x:=by intro _;rfl) :
  PS X (.Assign [.Name y py] (.ListComp elt [⟨tg,iter,ifs,0⟩] scope pos) spos) (Xy i (j9 wi g tt te own.length ix)):=by
 intro pins s σ H D I h
 obtain⟨cl,hclos,hc1,hc2⟩:=wu (scope:=scope) (env:=X.env) fun y hy=>I.ok.has y (.inl (S.free y hy))
 rw[exec_Assign_Name_used _ _ _ _ hsw]
 refine oH (wpAny_standAt (oH ?_))
 show wpAny _ X.A (do let _ <- comprehension (.ListComp elt [⟨tg,iter,ifs,0⟩] scope pos) scope X.env _ (newList []) false (eval iter X.env) (some (assign (.Name y py) X.env))) _ _ s
 refine oH (thn (wpAny_comprehension_free (use:=some (assign (.Name y py) X.env)) (Q:=fun _ s'=>SP X pins D .next s') rfl hs hclos S.kind S.names (thn (hi pins s σ H _ I h) fun v s1 h1=>thn h1 fun itv s2 h2=>?_)) fun _ s' hq=>oJ (oJ hq))
 obtain⟨it,fp,tn,J,H2,e,I2,T,st2,f2,q⟩:=h2
 subst e
 refine jA (Q:=fun x H1=>D.nx (σ.set i (some x)) H1) (RR:=fun acc C=>compPost (model X.prog X.w) X.A X.xe (some (assign (.Name y py) X.env)) (fun _ s'=>SP X pins D .next s') acc C) hc S hg ht he hc1 hc2 I2 T st2 f2 q ?_
 intro D' C m s' H1 hD' hn fc I1 nx
 obtain⟨a0,a1,a2,a3,a4,a5⟩:=fc
 show wpAny _ X.A (assign (.Name y py) X.env (.ref D')) _ _ s'
 refine wpAny_assign_Name (ZP I1 hN hy hly (v:=.ref D') rfl (fun s'' I2' ⟨a,sb,ha⟩=>?_) hf)
 have hCa:C≠a:=by
  rcases ha with e | e
  ·rw[e];exact a1
  ·exact fun z=>a4 _ _ e z.symm
 refine⟨m,hn.sameBut sb hCa,fun h' sb'=>⟨_,H1,I2'.turned (t':=s''.toks) (fun b o hb e=>(sb'.2 b hb).trans e) a0 a1 a3 a4 a5,nx⟩⟩
end
end L3
namespace L3
section
variable{X:Cx}{a b:Expr}{ta tb:TE}{pos:Pos}
def UL:R2:=fun x y H Q=>(∃ i j,x=.int i/\y=.int j/\Q (.int (i+j)) H)\/(∃ i j,x=.str i/\y=.str j/\i.length+j.length<=oN/\Q (.str (i ++ j)) H)\/zcp x y H Q
theorem yB:OpR X (binaryOp .Add) UL:=op_add.or (op_add_str.or VQ)
def K5:R2:=fun x y H Q=>(∃ i j,x=.int i/\y=.int j/\CMul i j/\Q (.int (i * j)) H)\/∃ z n,x=.str z/\y=.int n/\0<=n/\n<=1000/\z.length<=1000/\Q (.str (tx (bp n.toNat (cs z)).flatten)) H
theorem Kb:OpR X (binaryOp .Mult) K5:=op_mul.or Wl
def zcE:R2:=fun x y H Q=>(∃ i j,x=.int i/\y=.int j/\Q (.bl (decide (i<j))) H)\/∃ i j,x=.str i/\y=.str j/\Q (.bl (decide (cs i<cs j))) H
theorem Xb:OpR X (compareOp .Lt) zcE:=op_lt.or op_lt_str'
def zc2:R2:=fun x y H Q=>(∃ i j,x=.int i/\y=.int j/\Q (.bl (decide (i<=j))) H)\/∃ i j,x=.str i/\y=.str j/\Q (.bl (!(decide (cs j<cs i)))) H
theorem vF:OpR X (compareOp .LtE) zc2:=op_le.or W0
theorem Ug:OpR X (compareOp .Gt) (fun x y H Q=>∃ i j,x=.str i/\y=.str j/\Q (.bl (decide (cs j<cs i))) H):=by
 intro pins s σ H x y v u Q I rx ry h
 obtain⟨i,j,rfl,rfl,q⟩:=h
 obtain⟨t,rfl⟩:=rx
 obtain⟨t',rfl⟩:=ry
 exact PySem.P.gt_str ⟨.bl _,H,I,rfl,q⟩
def zbU:R2:=fun x y H Q=>(∃ i j,x=.int i/\y=.int j/\Q (.bl (decide (j<i))) H)\/∃ i j,x=.str i/\y=.str j/\Q (.bl (decide (cs j<cs i))) H
theorem qx:OpR X (compareOp .Gt) zbU:=op_gt.or Ug
def zcM(K:oO):V->Option Int->Option Int->Hp->VK->Prop:=fun x lo hi H Q=>zco K x lo hi H Q\/zcC x lo hi H Q
theorem jM:SlR X (zcM X.K):=sl_list.or uF
def cV:V->Option Value
 | .ty n=>some (.type n)
 | .ref a=>some (.ref a)
 | _=>none
theorem Qe:vJ X (.builtin "isinstance") (fun xs H Q=>∃ x c u t b,xs=[x,c]/\cV c=some u/\YM X.K H x t/\aT X.K t u=some b/\Q (.bl b) H):=by
 intro pins s σ H xs us Q I r h
 obtain⟨x,c,u,t,b,rfl,hc,ty,e,q⟩:=h
 obtain⟨v,w',rfl,rx,rc⟩:=Va r
 have:w'=u:=by
  cases c with
  | ty n=>cases hc;exact rc
  | ref a=>cases hc;exact rc
  | _=>cases hc
 subst this
 exact WA I rx ty e fun tk=>⟨.bl b,H,I.tok tk,rfl,q⟩
end
end L3
namespace L3
def Iel(K:oO)(a:Addr):It:=⟨fun i H=>∃ xs x,SqL K H a xs/\xs[i]? = some x,fun i H v H'=>∃ p x,H p=none/\(∀ xs,SqL K H a xs->xs[i]? = some x)/\v=.ref p/\H'=upd H p (.tup [.int (i:Nat),x]),fun i H=>∃ xs,SqL K H a xs/\i=xs.length⟩
theorem X5{P:Program}{w:World}{K:oO}{elts:List Expr}{x1:Nat}{tpos:Pos}(e it a:Addr)(hei:e≠it) :
  UB P w K (.Tuple elts x1 tpos) (Iel K a) [e,it] e (fun i h=>(∃ old,IsEnum h e it i old)/\h.IsListIter it a i) where
 mem:=by simp
 obj:=fun i h st b hb=>by
  obtain⟨⟨old,he⟩,o,e2,c,d⟩:=st
  rcases List.mem_cons.mp hb with q | q
  ·subst q
   exact⟨_,he,fun v z=>by have z':Data.fields _=Data.cell v:=z;cases z'⟩
  ·have q':b=it:=by simpa using q
   subst q'
   exact⟨o,e2,fun v z=>by rw[d] at z;cases z⟩
 keep:=fun i h h' st k=>by
  obtain⟨⟨old,he⟩,st⟩:=st
  exact⟨⟨old,k e (by simp) _ he⟩,st.at fun o q=>k it (by simp) o q⟩
 item:=by
  intro X hP hw hK hc i pins s σ H E I hf st hg
  subst hP hw hK
  obtain⟨⟨old,he⟩,st⟩:=st
  obtain⟨xs,x,hq,hx⟩:=hg
  obtain⟨its,rv,p,hz⟩:=I.list hq
  obtain⟨u,hu,ru⟩:=rv.get hx
  have hA:X.A.in1.handled=none:=I.ok.hd hc
  have pl:=p.isList
  have hai:a≠it:=fun z=>by
   subst z
   obtain⟨o1,q1,c1,_⟩:=st
   obtain⟨o2,q2,c2,_⟩:=pl
   rw[q1] at q2;cases q2
   rw[c1] at c2
   exact absurd (Value.type.inj c2) (by decide)
  have hea:e≠a:=fun z=>by
   subst z
   obtain⟨o2,q2,c2,_⟩:=pl
   rw[he] at q2;cases q2
   exact absurd (Value.type.inj c2) (by decide)
  refine wpAny_pyNext_enum_itemD (Draws.list (A:=X.A.in1) hA it a hai its.toArray) he ⟨st,pl⟩ (by rw[ao];exact (List.getElem?_eq_some_iff.mp hu).1) hei (by simp [hei,hea]) fun v h' tk hv ho st' hT hsz kk=>?_
  have ev:v=u:=by
   have hv':its.toArray[i]? = some v:=hv
   rw[List.getElem?_toArray,hu] at hv'
   exact (Option.some.inj hv').symm
  subst ev
  refine⟨_,rfl,wpAny_letOwnedTupleGo_enum ho fun h2 he2 sb=>?_⟩
  have elt:e<s.heap.objs.size:=ay he
  have ilt:it<s.heap.objs.size:=by obtain⟨o,q,_⟩:=st;exact ay q
  have I1:Inv X pins σ H { s with heap:=h2,toks:=tk+1 }:=Inv.turns (fp:=[e,it]) I (fun b o hb q=>by
   have hb':b≠e/\b≠it:=by simpa using hb
   exact (sb.2 b hb'.1).trans (kk b o hb'.1 hb'.2 q)) hf
  have hp:H s.heap.objs.size=none:=I.hok.fresh (au _)
  have hT2:h2.get? s.heap.objs.size=some { cls:=.type "tuple",data:=.seq #[.int (i:Nat) tk,v] }:=(sb.2 _ (cb elt)).trans hT
  have I2:Inv X pins σ (upd H s.heap.objs.size (.tup [.int (i:Nat),x])) { s with heap:=h2,toks:=tk+1 } :=
   Inv.track I1 (I.fpOk (au _) hp) ⟨by show 2<=oN;decide,[.int (i:Nat) tk,v],.cons ⟨_,rfl⟩ (.cons ru .nil),⟨_,hT2,rfl,_,rfl⟩⟩
  refine⟨.ref s.heap.objs.size,_,I2,rfl,⟨s.heap.objs.size,x,hp,fun ys hy=>by rw[I.list_inj hy hq];exact hx,rfl,rfl⟩,⟨⟨_,by simpa using he2⟩,?_⟩,fun b hb=>?_⟩
  ·exact st'.1.at fun o q=>(sb.2 it (Ne.symm hei)).trans q
  ·rw[zo]
   ·exact (hf b hb).1
   ·rcases List.mem_cons.mp hb with q | q
    ·rw[q];exact aE elt
    ·have q':b=it:=by simpa using q
     rw[q'];exact aE ilt
 done:=by
  intro X hP hw hK hc i pins s σ H E I hf st hg
  subst hP hw hK
  obtain⟨⟨old,he⟩,st⟩:=st
  obtain⟨xs,hq,hi⟩:=hg
  obtain⟨its,rv,p,hz⟩:=I.list hq
  have pl:=p.isList
  have hai:a≠it:=fun z=>by
   subst z
   obtain⟨o1,q1,c1,_⟩:=st
   obtain⟨o2,q2,c2,_⟩:=pl
   rw[q1] at q2;cases q2
   rw[c1] at c2
   exact absurd (Value.type.inj c2) (by decide)
  have hA:X.A.in1.handled=none:=I.ok.hd hc
  have hi':i=its.toArray.size:=by rw[ao,<- rv.length];exact hi
  subst hi'
  refine wpAny_pyNext_enum_endD (Draws.list (A:=X.A.in1) hA it a hai its.toArray) he ⟨st,pl⟩ fun h' hx=>⟨rfl,?_⟩
  exact Inv.turns (fp:=[e,it]) (t':=s.toks) I (fun b o hb q=>hx b o (fun z=>hb (by simp [z])) q) hf
 self:=fun A i s Q E st h=>by
  obtain⟨⟨old,he⟩,_⟩:=st
  exact wpAny_pyIter_enum he h
section
variable{X:Cx}
def VM(K:oO)(ta:TA):TI:=fun σ H R=>ta σ H fun vs H1=>∃ a,vs=[.ref a]/\(∃ xs,SqL K H1 a xs)/\R (Iel K a) H1
theorem w9{a:Expr}{ta:TA}{p pos tpos:Pos}{elts:List Expr}{x1:Nat}(hg:Gl X "enumerate")(hm:X.mg "enumerate" = none)(ha:PA X [a] ta)(hs:oM [a] X.env=[(false,eval a X.env)]:=by rfl) :
  PI X (.Tuple elts x1 tpos) (.Call (.Name "enumerate" p) [a] [] pos) (VM X.K ta):=by
 intro pins s σ H R I h
 refine Call_ (vn I hg hm PyProof.Rows.boot_enumerate (bD (thn (ha pos pins s σ H _ I h) fun us s1 ⟨vs,H1,I1,r1,q1⟩=>?_) hs rfl))
 obtain⟨l,e,⟨xs,hq⟩,q⟩:=q1
 subst e
 obtain⟨u,rfl,ru⟩:=wI r1
 cases ru
 obtain⟨its,rv,pl,hz⟩:=I1.list hq
 refine call_enumerate_list pl.isList fun h' he hit hsz kk=>?_
 have I2:Inv X pins σ H1 { s1 with heap:=h' }:=I1.kept (t':=s1.toks) kk
 refine wpAny_pyIter_enum (s:={ s1 with heap:=h' }) (i:=0) he ?_
 refine⟨s1.heap.objs.size+1,[s1.heap.objs.size+1,s1.heap.objs.size],_,_,H1,rfl,I2,X5 _ _ l (Nat.succ_ne_self _),⟨⟨_,he⟩,hit⟩,fun b hb=>?_,q⟩
 have hb':s1.heap.objs.size<=b:=by
  rcases List.mem_cons.mp hb with e | e
  ·rw[e];exact cC _
  ·have:b=s1.heap.objs.size:=by simpa using e
   rw[this];exact au _
 exact I1.fpOk hb' (I1.hok.fresh hb')
end
def ForEL(K:oO)(a:Addr)(g:TG)(tb:TS)(D:vp)(σ:St)(H:Hp):Prop:=∃ W:Nat->Nat->St->Hp->Prop,(∃ m,W 0 m σ H)/\∀ i m σ H,W i m σ H ->
 ((Iel K a).stop i H/\D.nx σ H)\/((Iel K a).go i H/\∃ N:St->Hp->Prop,(∀ σ' H',N σ' H'->∃ m',m'<m/\W (i+1) m' σ' H')/\∀ x H',(Iel K a).yld i H x H'->g x σ H' fun σ2 H2=>tb { D with nx:=N,ct:=N,bk:=D.nx } σ2 H2)
theorem zce{K:oO}{ta:TA}{g:TG}{tb:TS}{D:vp}{σ:St}{H:Hp}:Qw (VM K ta) g tb D σ H=ta σ H fun vs H1=>∃ a,vs=[.ref a]/\(∃ xs,SqL K H1 a xs)/\ForEL K a g tb D σ H1:=rfl
theorem ForEL.by{K:oO}{a:Addr}{xs:List V}{g:TG}{tb:TS}{D:vp}{σ:St}{H:Hp}(Pv:Nat->St->Hp->Prop)(h0:Pv 0 σ H)(hl:∀ i σ H,i<=xs.length->Pv i σ H->SqL K H a xs)
  (hs:∀ i x σ H p,xs[i]? = some x->Pv i σ H->H p=none->g (.ref p) σ (upd H p (.tup [.int (i:Nat),x])) fun σ2 H2=>tb { D with nx:=Pv (i+1),ct:=Pv (i+1),bk:=D.nx } σ2 H2) (hd:∀ σ H,Pv xs.length σ H->D.nx σ H):ForEL K a g tb D σ H:=by
 refine⟨fun i m σ H=>m=xs.length - i/\i<=xs.length/\Pv i σ H,⟨xs.length,by simp,aJ _,h0⟩,?_⟩
 rintro i m σ H ⟨rfl,hi,p⟩
 have q:=hl i σ H hi p
 by_cases hlt:i<xs.length
 ·refine .inr ⟨⟨xs,xs[i],q,by simp [hlt]⟩,Pv (i+1),fun σ' H' p'=>⟨xs.length - (i+1),by omega,rfl,hlt,p'⟩,fun v H' y=>?_⟩
  obtain⟨p',x,hp,hx,ev,eH⟩:=y
  subst ev eH
  exact hs i x σ H p' (hx xs q) p hp
 ·have e:i=xs.length:=by omega
  subst e
  exact .inl ⟨⟨xs,q,rfl⟩,hd σ H p⟩
def ForT(K:oO)(a:Addr)(g:TG)(tb:TS)(D:vp)(σ:St)(H:Hp):Prop:=∃ W:Nat->Nat->St->Hp->Prop,(∃ m,W 0 m σ H)/\∀ i m σ H,W i m σ H ->
 ((Itt K a).stop i H/\D.nx σ H)\/((Itt K a).go i H/\∃ N:St->Hp->Prop,(∀ σ' H',N σ' H'->∃ m',m'<m/\W (i+1) m' σ' H')/\∀ x H',(Itt K a).yld i H x H'->g x σ H' fun σ2 H2=>tb { D with nx:=N,ct:=N,bk:=D.nx } σ2 H2)
theorem zdb{K:oO}{tl:TE}{g:TG}{tb:TS}{D:vp}{σ:St}{H:Hp}:Qw (zcY K tl) g tb D σ H=tl σ H fun x H1=>∃ a,x=.ref a/\(∃ xs,SqT K H1 a xs)/\ForT K a g tb D σ H1:=rfl
theorem ForT.by{K:oO}{a:Addr}{xs:List V}{g:TG}{tb:TS}{D:vp}{σ:St}{H:Hp}(Pv:Nat->St->Hp->Prop)(h0:Pv 0 σ H)(hl:∀ i σ H,i<=xs.length->Pv i σ H->SqT K H a xs)
  (hs:∀ i x σ H,xs[i]? = some x->Pv i σ H->g x σ H fun σ2 H2=>tb { D with nx:=Pv (i+1),ct:=Pv (i+1),bk:=D.nx } σ2 H2) (hd:∀ σ H,Pv xs.length σ H->D.nx σ H):ForT K a g tb D σ H:=Ka Pv h0 hl hs hd
def tTr(K:oO)(ta:TE):TT:=fun σ H Q=>ta σ H fun x H'=>∃ k,zac K x H' k/\Q k H'
theorem zcn{K:oO}{ta:TE}{σ:L2.St}{H:Hp}{Q:Bool->Hp->Prop}:tTr K ta σ H Q=ta σ H fun x H'=>∃ k,zac K x H' k/\Q k H':=rfl
def tBl(ta:TE):TT:=fun σ H Q=>ta σ H fun x H'=>∃ k,x=.bl k/\Q k H'
theorem zch{ta:TE}{σ:L2.St}{H:Hp}{Q:Bool->Hp->Prop}:tBl ta σ H Q=ta σ H fun x H'=>∃ k,x=.bl k/\Q k H':=rfl
section
variable{X:Cx}{a:Expr}{ta:TE}
theorem xz(ha:PE X a ta)(he:∀ whole,isTrue a X.env whole=(do let v <- whole;standAt a.pos;holding [v] (truthy v))):PT X a (tBl ta):=by
 intro pins s σ H Q I h
 refine isTrue_plain (thn (ha pins s σ H _ I h) fun v s1 ⟨x,H1,I1,r1,k,e,q1⟩=>?_) (he _)
 subst e
 exact Q2 pins s1 σ H1 (.bl k) v Q I1 r1 ⟨k,rfl,q1⟩
end
end L3
namespace L3
def Irv(K:oO)(a:Addr)(n:Nat):It:=⟨fun i H=>∃ xs,SqL K H a xs/\xs.length=n/\i<n,fun i H v H'=>H'=H/\∀ xs,SqL K H a xs->xs.length=n->xs[n - 1 - i]? = some v,fun i H=>i=n⟩
theorem U5{P:Program}{w:World}{K:oO}{tg:Expr}(a it:Addr)(n:Nat):UB P w K tg (Irv K a n) [it] it (fun i h=>i<=n/\h.IsRevIter it a ((n:Int) - 1 - (i:Int))) where
 mem:=by simp
 obj:=fun i h st b hb=>by
  have e:b=it:=by simpa using hb
  subst e
  obtain⟨_,o,e,c,d⟩:=st
  exact⟨o,e,fun v z=>by rw[d] at z;cases z⟩
 keep:=fun i h h' st k=>⟨st.1,st.2.at fun o e=>k it (by simp) o e⟩
 item:=by
  intro X hP hw hK hc i pins s σ H E I hf st hg
  subst hP hw hK
  obtain⟨xs,hq,hn,hi⟩:=hg
  obtain⟨its,rv,p,hz⟩:=I.list hq
  obtain⟨f0,f1,f2,f3,f4,f5⟩:=hf it (by simp)
  have hx:xs[n - 1 - i]? = some (xs[n - 1 - i]'(by omega)):=al (by omega)
  generalize xs[n - 1 - i]'(by omega)=x at hx
  obtain⟨u,hu,ru⟩:=rv.get hx
  have st2:=st.2
  have e:(n:Int) - 1 - (i:Int)=((n - 1 - i:Nat):Int):=by omega
  rw[e] at st2
  refine wpAny_pyNext_rev_item st2 p.isList (x:=u) (by simpa using hu) fun h' st' sb=>?_
  have I1:Inv X pins σ H { s with heap:=h' }:=I.turned (t':=s.toks) (fun b o hb e=>(sb.2 b hb).trans e) f0 f1 f3 f4 f5
  have e2:((n - 1 - i:Nat):Int) - 1=(n:Int) - 1 - ((i+1:Nat):Int):=by omega
  rw[e2] at st'
  obtain⟨o,e,c,d⟩:=id st'
  exact⟨u,rfl,Vk (s:={ s with heap:=h' }) e c d (by decide) ⟨x,H,I1,ru,⟨rfl,fun ys hy _=>by rw[I.list_inj hy hq];exact hx⟩,⟨hi,st'⟩,fun b hb=>(hf b hb).1⟩⟩
 done:=by
  intro X hP hw hK hc i pins s σ H E I hf st hg
  subst hP hw hK
  obtain⟨f0,f1,f2,f3,f4,f5⟩:=hf it (by simp)
  have hi:i=n:=hg
  have st2:=st.2
  rw[hi,show (n:Int) - 1 - (n:Int)=-1 by omega] at st2
  exact wpAny_pyNext_rev_end (I.ok.hd hc) st2 fun h' eb=>⟨rfl,I.turned (t':=s.toks) (fun b o hb e=>eb b o hb e) f0 f1 f3 f4 f5⟩
 self:=fun _ _ _ _ _ st h=>wpAny_pyIter_revIter st.2 h
theorem QQ:bootBuiltins "reversed" = some (.type "reversed"):=PyProof.Rows.boot_reversed
section
variable{X:Cx}{tg:Expr}
def zcS(K:oO)(ta:TA):TI:=fun σ H R=>ta σ H fun vs H1=>∃ a xs,vs=[.ref a]/\SqL K H1 a xs/\R (Irv K a xs.length) H1
theorem zaK{a:Expr}{ta:TA}{p pos:Pos}(hg:Gl X "reversed")(hm:X.mg "reversed" = none)(ha:PA X [a] ta)(hs:oM [a] X.env=[(false,eval a X.env)]:=by rfl) :
  PI X tg (.Call (.Name "reversed" p) [a] [] pos) (zcS X.K ta):=by
 intro pins s σ H R I h
 refine Call_ (vn I hg hm QQ (bD (thn (ha pos pins s σ H _ I h) fun us s1 ⟨vs,H1,I1,r1,q1⟩=>?_) hs rfl))
 obtain⟨l,xs,e,hq,q⟩:=q1
 subst e
 obtain⟨u,rfl,ru⟩:=wI r1
 cases ru
 obtain⟨its,rv,pl,hz⟩:=I1.list hq
 have hn:its.toArray.size=xs.length:=by rw[ao,<- rv.length]
 refine call_reversed_list pl.isList ?_
 have hit:(s1.heap.push (revObj l ((its.toArray.size:Int) - 1))).IsRevIter s1.heap.objs.size l ((xs.length:Int) - 1 - ((0:Nat):Int)):=by
  refine⟨_,aI _ rfl,rfl,?_⟩
  rw[hn,show (xs.length:Int) - 1 - ((0:Nat):Int)=(xs.length:Int) - 1 by omega]
  rfl
 refine wpAny_pyIter_revIter (s:={ s1 with heap:=s1.heap.push (revObj l ((its.toArray.size:Int) - 1)) }) hit ?_
 refine⟨s1.heap.objs.size,[s1.heap.objs.size],_,_,H1,rfl,I1.kept (t':=s1.toks) fun b o e=>aa _ e,U5 l _ xs.length,⟨aJ _,hit⟩,fun b hb=>?_,q⟩
 have e:b=s1.heap.objs.size:=by simpa using hb
 subst e
 exact I1.fpOk (au _) (I1.hok.fresh (au _))
end
section
variable{prog:Program}{w:World}{A:Around}{E:Value->Shared->Prop}{s:Shared}
end
section
variable{X:Cx}
def zbZ(K:oO)(ta:TA):TE:=fun σ H Q=>ta σ H fun vs H1=>∃ a xs,vs=[.ref a]/\SqL K H1 a xs/\∀ l,H1 l=none->Q (.ref l) (upd H1 l (.lst xs.reverse))
theorem KL{K:oO}{ta:TA}{σ:L2.St}{H:Hp}{Q:VK}:zbZ K ta σ H Q=ta σ H fun vs H1=>∃ a xs,vs=[.ref a]/\SqL K H1 a xs/\∀ l,H1 l=none->Q (.ref l) (upd H1 l (.lst xs.reverse)):=rfl
end
def Izp(K:oO)(a b:Addr):It:=⟨fun i H=>∃ xs ys x y,SqL K H a xs/\SqL K H b ys/\xs[i]? = some x/\ys[i]? = some y,fun i H v H'=>∃ p x y,H p=none/\(∀ xs,SqL K H a xs->xs[i]? = some x)/\(∀ ys,SqL K H b ys->ys[i]? = some y)/\v=.ref p/\H'=upd H p (.tup [x,y]),fun i H=>∃ xs ys,SqL K H a xs/\SqL K H b ys/\(xs.length=i\/ys.length=i)/\i<=xs.length/\i<=ys.length⟩
theorem wV{h:Heap}{a b:Addr}{o1 o2:Obj}{t u:String}(h1:h.get? a=some o1)(c1:o1.cls=.type t)(h2:h.get? b=some o2)(c2:o2.cls=.type u)(hne:t≠u):a≠b:=fun z=>by
 rw[z,h2] at h1
 cases h1
 rw[c2] at c1
 exact hne (Value.type.inj c1).symm
structure Q6(z TI TO i1 i2:Addr):Prop where
 TIz:TI≠z
 TOz:TO≠z
 i1z:i1≠z
 i2z:i2≠z
 TITO:TI≠TO
 TIi1:TI≠i1
 TIi2:TI≠i2
 TOi1:TO≠i1
 TOi2:TO≠i2
 i12:i1≠i2
def ZipAt(z TI TO i1 i2 l1 l2:Addr)(i:Nat)(h:Heap):Prop:=IsZip h z TI TO .none/\IsPair h TI (.ref i1) (.ref i2)/\(∃ a b,IsPair h TO a b)/\h.IsListIter i1 l1 i/\h.IsListIter i2 l2 i
theorem ZipAt.apart{z TI TO i1 i2 l1 l2:Addr}{i:Nat}{h:Heap}{xs ys:Array Value}(D:Q6 z TI TO i1 i2)(st:ZipAt z TI TO i1 i2 l1 l2 i h)(h1:h.IsList l1 xs)(h2:h.IsList l2 ys):ZipApart z TI TO i1 i2 l1 l2:=by
 obtain⟨hz,hTI,⟨a,b,hTO⟩,⟨o1,e1,c1,_⟩,⟨o2,e2,c2,_⟩⟩:=st
 obtain⟨p1,q1,k1,_⟩:=h1
 obtain⟨p2,q2,k2,_⟩:=h2
 exact⟨D.TIz,D.TOz,D.i1z,D.i2z,D.TITO,D.TIi1,D.TIi2,D.TOi1,D.TOi2,D.i12,wV q1 k1 hz rfl (by decide),wV q1 k1 hTO rfl (by decide),wV q1 k1 e1 c1 (by decide),wV q1 k1 e2 c2 (by decide),wV q2 k2 hz rfl (by decide),wV q2 k2 hTO rfl (by decide),wV q2 k2 e1 c1 (by decide),wV q2 k2 e2 c2 (by decide)⟩
section
variable{X:Cx}
def zds(K:oO)(ta:TA):TI:=fun σ H R=>ta σ H fun vs H1=>∃ a b,vs=[.ref a,.ref b]/\(∃ xs,SqL K H1 a xs)/\(∃ ys,SqL K H1 b ys)/\R (Izp K a b) H1
end
def zdr(K:oO)(a b:Addr)(g:TG)(tb:TS)(D:vp)(σ:L2.St)(H:Hp):Prop:=∃ W:Nat->Nat->L2.St->Hp->Prop,(∃ m,W 0 m σ H)/\∀ i m σ H,W i m σ H ->
 ((Izp K a b).stop i H/\D.nx σ H)\/((Izp K a b).go i H/\∃ N:L2.St->Hp->Prop,(∀ σ' H',N σ' H'->∃ m',m'<m/\W (i+1) m' σ' H')/\∀ x H',(Izp K a b).yld i H x H'->g x σ H' fun σ2 H2=>tb { D with nx:=N,ct:=N,bk:=D.nx } σ2 H2)
theorem zdd{K:oO}{ta:TA}{g:TG}{tb:TS}{D:vp}{σ:L2.St}{H:Hp}:Qw (zds K ta) g tb D σ H=ta σ H fun vs H1=>∃ a b,vs=[.ref a,.ref b]/\(∃ xs,SqL K H1 a xs)/\(∃ ys,SqL K H1 b ys)/\zdr K a b g tb D σ H1:=rfl
end L3
namespace L3
abbrev xob(C:Addr)(dx:Option Addr)(t:Addr)(tb:Value):Obj:={ cls:=.ref C,dict:=dx,data:=.fields #[.ref t,tb,.none,.none,.bool false,.none] }
abbrev xog(C:Addr)(dx:Option Addr)(t:Addr)(tb c:Value)(k:Bool):Obj:={ cls:=.ref C,dict:=dx,data:=.fields #[.ref t,tb,c,.none,.bool k,.none] }
def Kw(h:Heap)(x:Addr)(tb:Value):Prop:=tb=.none\/∃ T oT ts,tb=.ref T/\T≠x/\h.get? T=some oT/\oT.data=.fields ts/\3<ts.size
section
variable{M:Model}{A:Around}{E:Value->Shared->Prop}{s:Shared}{base:Heap}{env env0:Env}{outer:List Env}{L x t C:Addr}{dx:Option Addr}{cx:Value}{kx:Bool}
theorem Z5(h:env.frame=env0.frame):dM env=dM env0:=by unfold dM;rw[h]
theorem kn{tb head:Value}{hadNext:Bool}{Q:Unit->Shared->Prop}(hfr:A.frames=some (env0::outer))(hl:s.heap.FunFrames base (env0::outer))(hf:env0.frame=some L)(he:env.frame=some L)
  (hx:s.heap.get? x=some (xog C dx t tb cx kx))
  (h:∀ h' oT ts,h'.get? x=some (xog C dx t (.ref s.heap.objs.size) cx kx)->s.heap.objs.size≠x->h'.get? s.heap.objs.size=some oT->oT.data=.fields ts->3<ts.size ->
   (∀ b o,b≠x->b ∉ frs (env0::outer)->s.heap.get? b=some o->h'.get? b=some o)->(∀ b o,b≠x->s.heap.get? b=some o->∃ sl,h'.get? b=some { o with slots:=sl })->Q () { s with heap:=h' }) :
  wpAny M A (do let a <- dM env;let pl <- entryPlaceOf L hadNext;let b <- EntryCells.newEntry head a .none (rawInt L) .none pl;setField (.ref x) 1 b) Q E s:=by
 have hxf:x ∉ frs (env0::outer):=fun hm=>by
  obtain⟨_,o,ho,hnf⟩:=hl.mem hm
  rw[hx] at ho
  cases ho
  exact hnf _ rfl
 rw[Z5 (he.trans hf.symm)]
 refine oH (wpAny_frameOf_fun hfr hl hf fun h1 hs1=>oH (wpAny_entryPlaceOf fun pl hpl=>?_))
 unfold EntryCells.newEntry newFields
 refine oH (wpAny_newObj_type ?_ (hpl.sizeOk5 _ _ _ _ _))
 have hz:h1.objs.size=s.heap.objs.size:=hs1.1
 have hx1:h1.get? x=some (xog C dx t tb cx kx):=(hs1.2.1 x hxf).trans hx
 generalize ho:({ cls:=.type "traceback",dict:=none,data:=.fields ([head,.ref L,.none,rawInt L,.none] ++ (if pl.isEmpty then bp 6 Value.none else pl)).toArray }:Obj)=ob
 have hx2:(h1.push ob).get? x=some (xog C dx t tb cx kx):=aa _ hx1
 refine wpAny_setField hx2 rfl (by show 1<6;decide) ?_
 have hne:h1.objs.size≠x:=cb (ay hx1)
 have hx3:((h1.push ob).update x (Obj.mapFields (·.setIfInBounds 1 (Value.ref h1.objs.size)))).get? x=some (xog C dx t (.ref h1.objs.size) cx kx) :=
  bW (Obj.mapFields (·.setIfInBounds 1 (Value.ref h1.objs.size))) hx2 rfl
 have hT:((h1.push ob).update x (Obj.mapFields (·.setIfInBounds 1 (Value.ref h1.objs.size)))).get? h1.objs.size=some ob :=
  (aL _ _ (Ne.symm hne)).trans (aI h1 (by rw[<- ho];rfl))
 rw[hz] at hx3 hT hne
 have kp:∀ b o,b≠x->h1.get? b=some o->((h1.push ob).update x (Obj.mapFields (·.setIfInBounds 1 (Value.ref h1.objs.size)))).get? b=some o:=fun b o hb e =>
  (aL _ _ (Ne.symm hb)).trans (aa _ e)
 rw[hz] at kp ⊢
 refine h _ ob _ hx3 hne hT (by rw[<- ho]) (by simp only[ao,am,aM,cw] <;> omega) (fun b o hb hbf e=>kp b o hb ((hs1.2.1 b hbf).trans e)) fun b o hb e=>?_
 obtain⟨sl,q⟩:=hs1.2.2 b o e
 exact⟨sl,kp b _ hb q⟩
theorem kG{tb:Value}{Q:Unit->Shared->Prop}(hfr:A.frames=some (env0::outer))(hl:s.heap.FunFrames base (env0::outer))(hf:env0.frame=some L)(he:env.frame=some L)
  (hx:s.heap.get? x=some (xog C dx t tb cx kx)) (htb:Kw s.heap x tb)
  (h:∀ h' T oT ts,h'.get? x=some (xog C dx t (.ref T) cx kx)->T≠x->(tb=.ref T\/s.heap.objs.size<=T)->h'.get? T=some oT->oT.data=.fields ts->3<ts.size ->
   (∀ b o,b≠x->tb≠.ref b->b ∉ frs (env0::outer)->s.heap.get? b=some o->h'.get? b=some o)->(∀ b o,b≠x->tb≠.ref b->s.heap.get? b=some o->∃ sl,h'.get? b=some { o with slots:=sl })->Q () { s with heap:=h' }) :
  wpAny M A (noteFrame (.ref x) env) (fun _ s1=>wpAny M A (setFlight (.ref x) none) Q E s1) E s:=by
 have land:∀(h1:Heap) (T:Addr) (oT:Obj) (ts:Array Value),h1.get? x=some (xog C dx t (.ref T) cx kx)->T≠x->(tb=.ref T\/s.heap.objs.size<=T)->h1.get? T=some oT->oT.data=.fields ts->3<ts.size ->
   (∀ b o,b≠x->tb≠.ref b->b ∉ frs (env0::outer)->s.heap.get? b=some o->h1.get? b=some o)->(∀ b o,b≠x->tb≠.ref b->s.heap.get? b=some o->∃ sl,h1.get? b=some { o with slots:=sl }) ->
   wpAny M A (setFlight (.ref x) none) Q E { s with heap:=h1 }:=fun h1 T oT ts e1 nT oldT e2 d2 z2 k1 k2=>by
  unfold setFlight
  refine oH (wpAny_field (s:={ s with heap:=h1 }) e1 rfl (x:=.ref T) rfl ?_)
  rw[if_pos (show (Value.ref T != Value.none)=true from by simp)]
  refine wpAny_setField (s:={ s with heap:=h1 }) e2 d2 z2 ?_
  have d3:=Obj.data_mapFields d2 (·.setIfInBounds 3 ((none:Option Addr).elim Value.none fun f=>rawInt f))
  have nb:∀ b,b≠x->tb≠.ref b->(∃ o,s.heap.get? b=some o)->b≠T:=fun b hb hbt ⟨o,eo⟩ z=>by
   subst z
   rcases oldT with q | q
   ·exact hbt q
   ·exact absurd (ay eo) (Nat.not_lt.mpr q)
  refine h _ T _ _ ((aL _ _ nT).trans e1) nT oldT (bW _ e2 (Obj.isFreed_of_fields d3)) d3 (by simpa using z2) (fun b o hb hbt hbf e=>?_) fun b o hb hbt e=>?_
  ·exact (aL _ _ (Ne.symm (nb b hb hbt ⟨o,e⟩))).trans (k1 b o hb hbt hbf e)
  ·obtain⟨sl,q⟩:=k2 b o hb hbt e
   exact⟨sl,(aL _ _ (Ne.symm (nb b hb hbt ⟨o,e⟩))).trans q⟩
 unfold noteFrame
 simp only[he]
 refine oH (wpAny_field hx rfl (x:=tb) rfl ?_)
 rcases htb with rfl | ⟨T,oT,ts,rfl,nT,e2,d2,z2⟩
 ·rw[if_neg (by decide)]
  refine kn hfr hl hf he hx fun h' oT ts e1 ne e2 d2 z2 k1 k2=>land h' _ oT ts e1 ne (.inr (au _)) e2 d2 z2 (fun b o hb _ hbf e=>k1 b o hb hbf e) fun b o hb _ e=>k2 b o hb e
 ·rw[if_pos (show (Value.ref T != Value.none)=true from by simp)]
  obtain⟨y,hy⟩:∃ y,ts[3]? = some y:=⟨ts[3],by simp [z2]⟩
  refine oH (wpAny_field e2 d2 (x:=y) hy ?_)
  by_cases c:(y == rawInt L)=true
  ·rw[if_pos c]
   exact oJ (land s.heap T oT ts hx nT (.inl rfl) e2 d2 z2 (fun b o _ _ _ e=>e) fun b o _ _ e=>⟨o.slots,e⟩)
  ·rw[if_neg c]
   refine oH (wpAny_setField e2 d2 z2 ?_)
   have oth:∀ b,b≠T->(s.heap.update T (Obj.mapFields (·.setIfInBounds 3 Value.none))).get? b=s.heap.get? b:=fun b hb=>aL _ _ (Ne.symm hb)
   have hl1:(s.heap.update T (Obj.mapFields (·.setIfInBounds 3 Value.none))).FunFrames base (env0::outer):=hl.of_keeps fun b o hb hnf=>⟨o,(oth b fun q=>by rw[q,e2] at hb;cases hb;exact hnf ts d2).trans hb,rfl⟩
   have hsz:(s.heap.update T (Obj.mapFields (·.setIfInBounds 3 Value.none))).objs.size=s.heap.objs.size:=dn ..
   refine kn (s:={ s with heap:=s.heap.update T (Obj.mapFields (·.setIfInBounds 3 Value.none)) }) hfr hl1 hf he ((oth x (Ne.symm nT)).trans hx) fun h' oT' ts' e1 ne e2' d2' z2' k1 k2=>?_
   refine land h' _ oT' ts' e1 ne (.inr (by rw[hsz];exact au _)) e2' d2' z2' (fun b o hb hbt hbf e=>k1 b o hb hbf ((oth b fun q=>hbt (by rw[q])).trans e)) fun b o hb hbt e=>k2 b o hb ((oth b fun q=>hbt (by rw[q])).trans e)
theorem J5{tb:Value}{Q:Unit->Shared->Prop}(hfr:A.frames=some (env0::outer))(hl:s.heap.FunFrames base (env0::outer))(hf:env0.frame=some L)(he:env.frame=some L)
  (hx:s.heap.get? x=some (xog C dx t tb cx kx)) (htb:Kw s.heap x tb)
  (h:∀ h' T oT ts,h'.get? x=some (xog C dx t (.ref T) cx kx)->T≠x->(tb=.ref T\/s.heap.objs.size<=T)->h'.get? T=some oT->oT.data=.fields ts->3<ts.size ->
   (∀ b o,b≠x->tb≠.ref b->b ∉ frs (env0::outer)->s.heap.get? b=some o->h'.get? b=some o)->(∀ b o,b≠x->tb≠.ref b->s.heap.get? b=some o->∃ sl,h'.get? b=some { o with slots:=sl })->Q () { s with heap:=h' }) :
  wpAny M A (leaving env (.ref x)) Q E s:=oH (kG hfr hl hf he hx htb h)
end
def CXx(P:Program)(w:World):CXT:=fun outer H s E e s'=>∃(x C t:Addr) (dx:Option Addr) (tb:Value) (H':Hp),e=.ref x/\s'.os=s.os/\AllBare s'.gens/\Un (frs outer) [] H H' s.heap s'.heap/\HOk P w H' s'.heap /\
 s'.heap.get? x=some (xob C dx t tb)/\Kw s'.heap x tb/\H' x=none/\s.heap.objs.size<=x/\(∀ T,tb=.ref T->H' T=none/\s.heap.objs.size<=T)/\E (.ref C) dx H'
def za3(X:Cx)(E:XK)(e:Value)(s:Shared):Prop:=∃(pins:List (Addr × Obj)) (σ:St) (H:Hp) (x C t:Addr) (dx:Option Addr) (tb:Value),e=.ref x/\Inv X pins σ H s /\
 s.heap.get? x=some (xob C dx t tb)/\Kw s.heap x tb/\wa X pins H x/\(∀ T,tb=.ref T->wa X pins H T)/\E (.ref C) dx H
def XE(X:Cx)(E:XK):Prop:=∀ e s,za3 X E e s->X.xe e s
theorem YO{X:Cx}{E:XK}(hx:XE X E):uz (CXx X.prog X.w) X E:=by
 intro pins σ H s e s' I h
 obtain⟨x,C,t,dx,tb,H',rfl,os,bare,un,hok,ob,tr,hn,hsz,hT,q⟩:=h
 have I':Inv X pins σ H' s':=I.call' os un hok bare fun b z=>absurd z (by simp)
 exact hx _ _ ⟨pins,σ,H',x,C,t,dx,tb,rfl,I',ob,tr,I.fpOk hsz hn,fun T e=>I.fpOk (hT T e).2 (hT T e).1,q⟩
theorem zbd{P:Program}{w:World}{K:oO}{mg:Str->Option Value}{base:Heap}{N:List Str}{qual:Str}{scope:Scope}{f:Addr}{cd:Value}{A:Around}{outer:List Env}{s:Shared}{H:Hp}{E:XK} :
  XE (qg (CXx P w) P w K mg base N qual scope f cd A outer s H E) E:=by
 intro e s1 h
 obtain⟨pins,σ,H1,x,C,t,dx,tb,rfl,I,ob,tr,fx,fT,q⟩:=h
 show wpAny _ _ (leaving _ (.ref x)) _ _ s1
 have ff:=I.stack
 refine J5 (A:=(qg (CXx P w) P w K mg base N qual scope f cd A outer s H E).A) (env0:=envOfC qual scope s.heap.objs.size f cd) (outer:=outer) I.ok.frames ff rfl rfl ob tr fun h' T oT ts e1 nT oldT e2 d2 z2 k1 k2=>?_
 have szs:s.heap.objs.size<=s1.heap.objs.size:=I.sz
 have hxs:s.heap.objs.size<=x:=by
  rcases fx.2.2.2.1 with z | z
  ·exact absurd z (by simp [qg])
  ·exact z
 have hTs:s.heap.objs.size<=T/\H1 T=none:=by
  rcases oldT with z | z
  ·obtain⟨a0,_,_,a3,_⟩:=fT T z
   rcases a3 with y | y
   ·exact absurd y (by simp [qg])
   ·exact⟨y,a0⟩
  ·exact⟨aO szs z,I.hok.fresh z⟩
 have tbs:∀ b,tb=.ref b->s.heap.objs.size<=b/\H1 b=none:=fun b hb=>by
  obtain⟨a0,_,_,a3,_⟩:=fT b hb
  rcases a3 with y | y
  ·exact absurd y (by simp [qg])
  ·exact⟨y,a0⟩
 have old:∀ b o,s.heap.get? b=some o->b≠x/\tb≠.ref b:=fun b o e=>by
  have hb:=ay e
  refine⟨aE (aD hb hxs),fun z=>?_⟩
  exact absurd (aD hb (tbs b z).1) (cI _)
 have un:Un (frs outer) [] H H1 s.heap h':=by
  have B:=I.base
  refine⟨fun b o e n hb _=>?_,fun b o e n hb _=>?_,fun b o e n _=>B.free b o e n (by simp [qg]),fun b o e _=>?_,B.tups,B.frzs,B.tbls⟩
  ·have e1:=B.keep b o e n hb (by simp [qg])
   refine k1 b o (old b o e).1 (old b o e).2 (fun z=>?_) e1
   have z':=I.stkSub b z
   rcases List.mem_cons.mp z' with q | q
   ·exact absurd q (aE (aD (ay e) I.ok.above))
   ·exact hb q
  ·obtain⟨sl,e1⟩:=B.slot b o e n hb (by simp [qg])
   obtain⟨sl',e2⟩:=k2 b _ (old b o e).1 (old b o e).2 e1
   exact⟨sl',e2⟩
  ·obtain⟨o',e1⟩:=B.there b o e (by simp [qg])
   obtain⟨sl',e2⟩:=k2 b _ (old b o e).1 (old b o e).2 e1
   exact⟨_,e2⟩
 have hok:HOk P w H1 h':=fun b u e=>by
  refine (I.hok b u e).stay (fun c v hc q=>k1 c v ?_ ?_ ?_ q) (fun _ q=>q) fun _ _ q=>q
  ·rintro rfl
   rcases hc with rfl | hc
   ·rw[fx.1] at e;cases e
   ·rw[fx.1] at hc;cases hc
  ·intro z
   have:=(tbs c z).2
   rcases hc with rfl | hc
   ·rw[this] at e;cases e
   ·rw[this] at hc;cases hc
  ·intro z
   have:=I.stkFree c z
   rcases hc with rfl | hc
   ·rw[this] at e;cases e
   ·rw[this] at hc;cases hc
 exact⟨x,C,t,dx,.ref T,H1,rfl,I.os,I.bare,un,hok,e1,.inr ⟨T,oT,ts,rfl,nT,e2,d2,z2⟩,fx.1,hxs,fun T' z=>by cases z;exact⟨hTs.2,hTs.1⟩,q⟩
theorem Fun.okX{P:Program}{w:World}{K:oO}{mg:Str->Option Value}{base:Heap}{x qual:Str}{st:Stmt}{f:Addr}{fd:FuncData}{N ps:List Str}{k:Nat}{sp:Sp}(F:Fun K x qual st f fd)(S:zq N ps (zb st))(len:∀ vs H Q E,sp vs H Q E->vs.length=ps.length)
  (hbody:∀(cdv:Value) (A:Around) (outer:List Env) (s:Shared) (H:Hp) (vs:List V) (Q:VK) (E:XK),Room k (A.deeper (envOfC qual (zb st) s.heap.objs.size f cdv))->XE (qg (CXx P w) P w K mg base N qual (zb st) f cdv A outer s H E) E->sp vs H Q E ->
   ∃ t,PSs (qg (CXx P w) P w K mg base N qual (zb st) f cdv A outer s H E) (zk st) t/\t { nx:=fun _ H'=>Q .non H',rt:=Q } (start N vs) H):FnOk P w K mg base (CXx P w) (k+1) f fd ps sp:=by
 obtain⟨oc,od,kV,doc,pm,an,cdv,ct,osl,rfl,lk,hcd⟩:=F.ex
 exact QG lk hcd S len fun A outer s H vs Q E hr hsp=>hbody cdv A outer s H vs Q E hr zbd hsp
def za8(X:Cx)(E:XK)(e:Value)(s:Shared):Prop:=∃(cx:Value) (kx:Bool) (pins:List (Addr × Obj)) (σ:St) (H:Hp) (x C t:Addr) (dx:Option Addr) (tb:Value),e=.ref x/\Inv X pins σ H s /\
 s.heap.get? x=some (xog C dx t tb cx kx)/\Kw s.heap x tb/\wa X pins H x/\(∀ T,tb=.ref T->wa X pins H T)/\E (.ref C) dx H
def XEg(X:Cx)(E:XK):Prop:=∀ e s,za8 X E e s->X.xe e s
end L3
namespace L3
structure RoomH(k:Nat)(A:Around):Prop where
 dp:A.depth+3 * k+5<recursionLimit
 un:A.units+16 * k+200<cLine
theorem RoomH.mark{k:Nat}{A:Around}(r:RoomH k A)(e:Option Value):RoomH k (A.mark e):=⟨r.dp,r.un⟩
def cxH(P:Program)(w:World)(K:oO)(mg:Str->Option Value)(base:Heap)(N:List Str)(qual:Str)(scope:Scope)(f:Addr)(cd:Value)(A:Around)(outer:List Env)(s:Shared)(H:Hp):Cx :=
 { qg CX0 P w K mg base N qual scope f cd A outer s H E0 with calm:=false,xe:=fun _ _=>False }
section
variable{X:Cx}{k:Nat}{f:Addr}{fd:FuncData}{ps:List Str}{sp:Sp}{x:Str}{p pos:Pos}{e:Expr}{es:List Expr}{t:TA}
end
end L3
namespace L3
abbrev bmV:List Value:=[.type "ValueError",.type "Exception",.type "BaseException",.type "object"]
def Z8(K:oO)(C:Addr):Bool:=match K.lookup C with
 | some ⟨.type "type",_,.cls cd,sl⟩=>(match cd.mro,sl.toList with
  | .ref C'::bm,[_,_,_,_,some (.builtin n),_]=>C' == C && (n == "ValueError.__new__" && (!cd.hasDel && (cd.hasDict && PySem.W.tailIn K bmV bm)))
  | _,_=>false)
 | _=>false
theorem vL{K:oO}{C:Addr}(q:Z8 K C=true):∃ bm N nm qn bs sn sub ab col dd k0 k1 k2 k3 k5,K.lookup C=some (excClassObj nm qn C N bs bm true sn sub ab col dd k0 k1 k2 k3 k5 "ValueError.__new__")/\∀ h:Heap,K.In h->OwnTail h bmV bm:=by
 unfold Z8 at q
 split at q
 ·rename_i dd cd sl ho
  split at q
  ·rename_i C' bm k0 k1 k2 k3 n k5 hm hs
   simp only[cE,beq_iff_eq,Bool.not_eq_true'] at q
   obtain⟨rfl,rfl,hdel,hdct,ht⟩:=q
   obtain⟨nm,bs,mro,ns,qn,hd,sn,sub,ab,col,del⟩:=cd
   dsimp only at hm hdel hdct
   subst hm hdel hdct
   have hsl:sl=#[k0,k1,k2,k3,some (.builtin "ValueError.__new__"),k5]:=by
    obtain⟨l⟩:=sl
    simp only at hs
    rw[hs]
   subst hsl
   exact⟨bm,ns,nm,qn,bs,sn,sub,ab,col,dd,k0,k1,k2,k3,k5,ho,fun h X=>PySem.W.tail_of_in X ht⟩
  ·cases q
 ·cases q
structure XC(K:oO)(C:Addr):Prop where
 ok:Z8 K C=true
 sa:ah K (.ref C) "__setattr__" = some (some (.builtin "object.__setattr__"))
 ga:ah K (.ref C) "__getattribute__" = some (some (.builtin "BaseException.__getattribute__"))
 gt:ah K (.ref C) "__getattr__" = some none
 kp:aj K (.ref C)=true
section
variable{prog:Program}{w:World}{A:Around}{R:Result->Shared->Prop}{h:Heap}{g:Array GenState}{d:Drawn}{t:Nat}{os:OsState}{K:oO}{C:Addr}
theorem Xd{init:Value}{rest:List Value}(X:K.In h)(q:Z8 K C=true)(hi:ah K (.ref C) "__init__" = some (some init))
  (hb:∀ self,PySem.W.Looks (model prog w) h (bindSpecial init self) (init,[self])) (hrest:rest.length<=oN)
  (hq:codeAny (model prog w) (A.under (.builtin "type.__call__" ⟨.ref C::rest,[]⟩)) (.call init ⟨.ref (h.objs.size+1)::rest,[]⟩) (PySem.W.InitBack (h.objs.size+1) R) ⟨(h.push { cls:=.type "tuple",data:=.seq rest.toArray }).push (xob C none h.objs.size .none),g,d,t,os⟩) :
  codeAny (model prog w) A (.call (.ref C) ⟨rest,[]⟩) R ⟨h,g,d,t,os⟩:=by
 obtain⟨bm,N,nm,qn,bs,sn,sub,ab,col,dd,k0,k1,k2,k3,k5,lk,tl⟩:=vL q
 have hC:=X _ _ lk
 have T:=tl h X
 have F:=dN
 have f1:=tc_lookup
 have f2:=tc_bind (.ref C)
 have hT:(⟨h,g,d,t,os⟩:Shared).TypeIs (.ref C) "type":=⟨_,hC,rfl⟩
 refine codeAny_of_tree ?_
 show wpAny _ _ (callAny (.ref C) _) _ _ _
 repeat (any_goals (first | assumption | with_reducible refine wpAny_loadPart_at hC ?_ | wp_step))
 refine⟨rfl,?_⟩
 refine codeAny_call_builtin_at (Code.quiet_builtin _ (by decide +kernel)) entry_typeCall (wpAny_check_type_call_sub hC ?_)
 repeat (first | with_reducible refine wpAny_loadPart_at hC ?_ | with_reducible refine wpAny_madeBy_exc hC ?_ | wp_step)
 refine codeAny_call_builtin_code (Code.quiet_builtin _ F.quiet) (wpAny_check_new_subT F T hC ?_)
 refine codeAny_exc_new_subT F T hC ?_ hrest
 show wpAny _ _ _ _ _ _
 have k:∀ b o,h.get? b=some o->((h.push { cls:=.type "tuple",data:=.seq rest.toArray }).push (xob C none h.objs.size .none)).get? b=some o:=fun b o e=>aa _ (aa _ e)
 have hC1:=k _ _ hC
 have hget:((h.push { cls:=.type "tuple",data:=.seq rest.toArray }).push (xob C none h.objs.size .none)).get? (h.objs.size+1)=some (xob C none h.objs.size .none):=by heap_get
 have hcC:(Value.ref C::bm).contains (.ref C)=true:=by simp
 unfold isInstance
 repeat (first | with_reducible refine wpAny_loadPart_at hget ?_ | wp_step)
 refine wpAny_isSubtype_exc (C:=C) hC1 ?_
 rw[hcC]
 repeat wp_step
 show wpAny _ _ (typeLookup (.ref C) _) _ _ _
 refine ((cB X hi).keeps k).at ?_
 refine wpAny_holding (oH (((hb _).keeps k).at ?_))
 refine oH (wpAny_call (codeAny_mono hq fun r s' z=>?_))
 rcases r with e | (v | _ | _ | _) <;> first | exact z | exact z.elim | skip
 obtain⟨rfl,z⟩:=z
 exact oJ (oJ z)
end
end L3
namespace L3
def XN(x C:Addr)(dx:Option Addr):HO:=.ext fun h=>∃ t,h.get? x=some (xob C dx t .none)
def XT(x C:Addr)(dx:Option Addr):HO:=.ext fun h=>∃ t tb c k,h.get? x=some (xog C dx t tb c k)
def XP(x C:Addr)(dx:Option Addr):HO:=.ext fun h=>∃ t tb,h.get? x=some (xob C dx t tb)
theorem zbb{P:Program}{w:World}{H:Hp}{h:Heap}{x C t:Addr}{dx:Option Addr}(e:h.get? x=some (xob C dx t .none)):ObjOk P w H h x (XN x C dx) :=
 ⟨⟨t,e⟩,⟨_,e⟩,fun h1 h2 ⟨t,q⟩ k=>⟨t,k _ q⟩⟩
theorem zaT{P:Program}{w:World}{H:Hp}{h:Heap}{x C t:Addr}{dx:Option Addr}{tb c:Value}{k:Bool}(e:h.get? x=some (xog C dx t tb c k)):ObjOk P w H h x (XT x C dx) :=
 ⟨⟨t,tb,c,k,e⟩,⟨_,e⟩,fun h1 h2 ⟨t,tb,c,k',q⟩ k=>⟨t,tb,c,k',k _ q⟩⟩
theorem zbq{P:Program}{w:World}{H:Hp}{h:Heap}{x C:Addr}{dx:Option Addr}(o:ObjOk P w H h x (XN x C dx)):∃ t,h.get? x=some (xob C dx t .none):=o.1
theorem zcA{P:Program}{w:World}{H:Hp}{h:Heap}{x C:Addr}{dx:Option Addr}(o:ObjOk P w H h x (XT x C dx)):∃ t tb c k,h.get? x=some (xog C dx t tb c k):=o.1
section
variable{nm q:Str}{C N:Addr}{bs bm:List Value}{hdct:Bool}{sn:List Str}{sub:List Value}{ab:Bool}{col:Option Bool}{dd:Option Addr}{k0 k1 k2 k3 k5:Option Value}{newId:String}{h:Heap}{M:Model}
theorem ZY(hC:h.get? C=some (excClassObj nm q C N bs bm hdct sn sub ab col dd k0 k1 k2 k3 k5 newId))(base:Value):PySem.W.Looks M h (isSubtype (.ref C) base) ((Value.ref C::bm).contains base):=fun A Q E s k z=>by
 obtain⟨hp,g,d,t,os⟩:=s
 exact wpAny_isSubtype_exc (k _ _ hC) z
theorem WT(hC:h.get? C=some (excClassObj nm q C N bs bm hdct sn sub ab col dd k0 k1 k2 k3 k5 newId)):PySem.W.Looks M h (mroOf (.ref C)) (.ref C::bm):=fun A Q E s k z=>by
 obtain⟨hp,g,d,t,os⟩:=s
 exact wpAny_mroOf_exc (k _ _ hC) z
theorem Vq(hC:h.get? C=some (excClassObj nm q C N bs bm hdct sn sub ab col dd k0 k1 k2 k3 k5 newId)):PySem.W.Looks M h (classData C) { name:=nm,bases:=bs,mro:=.ref C::bm,ns:=N,qualname:=q,hasDict:=hdct,slotNames:=sn,subclasses:=sub,abstract:=ab,collection:=col,hasDel:=false }:=fun A Q E s k z=>by
 unfold classData
 exact oH (wpAny_load (k _ _ hC) (oJ z))
theorem YK{bmB bm:List Value}(T:OwnTail h bmB bm)(self:Value)(hp:refuseLoop self "__setattr__" bmB=pure ()):refuseLoop self "__setattr__" bm=pure ():=by
 induction T with
 | base=>exact hp
 | own _ _ _ _ ih=>rw[refuseLoop_ref];exact ih
end
section
variable{X:Cx}{pins:List (Addr × Obj)}{σ:St}{H:Hp}{s:Shared}{A:Around}{E:Value->Shared->Prop}{x C:Addr}{f:Str}{y:V}{u:Value}
theorem Kf{Q:Unit->Shared->Prop}(I:Inv X pins σ H s)(e:H x=some (XN x C none))(xc:XC X.K C)(n:NoAttr X.K C f)(ry:RelV y u)
  (h:∀ s' dx,H dx=none->Inv X pins σ (upd (upd H dx (.xd [(f,y)])) x (XN x C (some dx))) s'->Q () s'):wpAny (model X.prog X.w) A (setAttr (.ref x) f u) Q E s:=by
 obtain⟨t,ob⟩:=zbq (I.hok x _ e)
 obtain⟨bm,N,nm,qn,bs,sn,sub,ab,col,dd,k0,k1,k2,k3,k5,lk,tl⟩:=vL xc.ok
 have hC:=I.kIn _ _ lk
 have T:=tl _ I.kIn
 have SF:=PySem.F.store_ValueError
 have J:PySem.W.InstAt s.heap x (xob C none t .none) C none:=⟨ob,rfl,rfl,trivial⟩
 have hob:(Value.ref C::bm).contains (.type "object")=true:=by rw[df,T.hasType (show bmV.contains (.type "object")=true by decide +kernel),dv]
 have isO:PySem.W.Looks (model X.prog X.w) s.heap (isInstance (.ref x) (.type "object")) true:=J.type.andThen (by have:=ZY (M:=model X.prog X.w) hC (.type "object");rw[hob] at this;exact this)
 refine fh I.kIn J xc.sa ?_
 refine codeAny_call_builtin SF.slot.plain SF.entry (@PySem.W.check_slot (model X.prog X.w) _ _ { s with toks:=s.toks+1 } "object.__setattr__" "object" "__setattr__" (.ref x) [.str f s.toks,u] [] _ SF.kind SF.split isO (SF.args _ _ _) ?_)
 rw[PySem.W.osa_eq,refuse_eq]
 refine oH (oH (J.type.here (s:={ s with toks:=s.toks+1 }) (oH ((WT hC).here (s:={ s with toks:=s.toks+1 }) ?_))))
 rw[refuseLoop_ref,YK T _ (SF.passes _)]
 refine oJ (oH (J.type.here (s:={ s with toks:=s.toks+1 }) (oH ((cB I.kIn n).here (s:={ s with toks:=s.toks+1 }) (oH (oJ ?_))))))
 show wpAny _ _ (Builtin.ObjectAttr.storeInOwnDict (.ref x) (.ref C) (.str f s.toks) f u false) _ _ _
 have hx1:(s.heap.push { cls:=.type "dict",data:=.dict #[] }).get? x=some (xob C none t .none):=aa _ ob
 have hxs:x≠s.heap.objs.size:=aE (ay ob)
 refine oH (oJ (oH (oH (wpAny_loadPart ob (oH ((Vq hC).here (s:={ s with toks:=s.toks+1 }) ?_))))))
 rw[if_neg (by simp)]
 show wpAny _ _ (if (!true || !typeHasDict (.ref C))=true then _ else _) _ _ _
 rw[if_neg (by simp [typeHasDict])]
 have hgd:((s.heap.push { cls:=.type "dict",data:=.dict #[] }).update x fun o=>{ cls:=o.cls,dict:=some s.heap.objs.size,data:=o.data,slots:=o.slots }).get? s.heap.objs.size=some { cls:=.type "dict",data:=.dict #[] } :=
  (aL _ _ hxs).trans (Heap.get?_push_at rfl rfl)
 have hgx:((s.heap.push { cls:=.type "dict",data:=.dict #[] }).update x fun o=>{ cls:=o.cls,dict:=some s.heap.objs.size,data:=o.data,slots:=o.slots }).get? x=some (xob C (some s.heap.objs.size) t .none) :=
  bW _ hx1 rfl
 have hnd:((s.heap.push { cls:=.type "dict",data:=.dict #[] }).update x fun o=>{ cls:=o.cls,dict:=some s.heap.objs.size,data:=o.data,slots:=o.slots }).Ns s.heap.objs.size (fun _=>none) :=
  ⟨_,#[],_,hgd,rfl,fun e he=>absurd he (by simp),fun _=>rfl⟩
 refine oH (wpAny_alloc' (oH (wpAny_update' hx1 (oJ ?_))))
 show wpAny _ _ (Builtin.ObjectAttr.storeInDict s.heap.objs.size (.str f s.toks) f u) _ _ _
 unfold Builtin.ObjectAttr.storeInDict Builtin.ObjectAttr.newKeyGuard
 refine oH (oJ (oH (wpAny_nsSet1 (Heap.Ns1.of_empty hnd) fun h' hn' hs=>?_)))
 obtain⟨oD,esD,epD,hoD,hdD,hcD⟩:=hn'.count (Within.cons f u Within.nil)
 refine oH (wpAny_lookBehind hoD (by rw[hdD];exact pastItsLine_dict (aO hcD (by rw[aM,cw,sizeLine_eq];omega))) ?_)
 refine oJ ?_
 have hx2:h'.get? x=some (xob C (some s.heap.objs.size) t .none):=(hs.2 x hxs).trans hgx
 have hfr:H s.heap.objs.size=none:=I.hok.fresh (au _)
 have hxe:x≠s.heap.objs.size:=hxs
 refine h _ s.heap.objs.size hfr ?_
 have k0:∀ b o,b≠x->s.heap.get? b=some o->h'.get? b=some o:=fun b o hb q =>
  (hs.2 b (aE (ay q))).trans ((aL _ _ (Ne.symm hb)).trans (aa _ q))
 have I1:Inv X pins σ (upd H x (XN x C (some s.heap.objs.size))) { s with heap:=h',toks:=s.toks+1+1 } :=
  I.write (x:=x) (e:=x) (by rw[e];exact True.intro) (.inl rfl) k0 ⟨_,hx2⟩ (zbb hx2)
 have hd2:ObjOk X.prog X.w (upd (upd H x (XN x C (some s.heap.objs.size))) s.heap.objs.size (.xd [(f,y)])) h' s.heap.objs.size (.xd [(f,y)]):=by
  refine⟨_,hn',fun g=>?_⟩
  show RelO (bq g [(f,y)]) (if g=f then some u else none)
  by_cases q:g=f
  ·subst q
   rw[if_pos rfl]
   simp [bq,RelO,ry]
  ·rw[if_neg q]
   have q':(g == f)=false:=by simpa using q
   simp [bq,q',RelO]
 have fd:wa X pins (upd H x (XN x C (some s.heap.objs.size))) s.heap.objs.size:=I.fpOk (au _) (by rw[zo (Ne.symm hxe)];exact hfr)
 have I2:=Inv.track I1 fd hd2
 have eH:upd (upd H x (XN x C (some s.heap.objs.size))) s.heap.objs.size (.xd [(f,y)])=upd (upd H s.heap.objs.size (.xd [(f,y)])) x (XN x C (some s.heap.objs.size)):=by
  funext b
  unfold upd
  by_cases b1:b=s.heap.objs.size
  ·subst b1
   rw[if_pos rfl,if_neg (Ne.symm hxe),if_pos rfl]
  ·by_cases b2:b=x
   ·subst b2
    rw[if_neg b1,if_pos rfl,if_pos rfl]
   ·rw[if_neg b1,if_neg b2,if_neg b2,if_neg b1]
 rw[eH] at I2
 exact I2
end
end L3
namespace L3
def K2(K:oO)(ta tv:TE)(f:Str):TS:=fun D σ H=>tv σ H fun y H1=>ta σ H1 fun o H2=>∃ x C,o=.ref x/\H2 x=some (XN x C none)/\XC K C/\NoAttr K C f/\∀ dx,H2 dx=none->D.nx σ (upd (upd H2 dx (.xd [(f,y)])) x (XN x C (some dx)))
section
variable{X:Cx}{o value:Expr}{f:Str}{pos pos':Pos}{ta tv:TE}
theorem Uq(ha:PE X o ta)(hv:PE X value tv)(hs:swapsWith value (some (.Attribute o f pos')) pos.line X.env=pure false):PS X (.Assign [.Attribute o f pos'] value pos) (K2 X.K ta tv f):=by
 intro pins s σ H D I h
 refine plainObj_wpAny_Assign_Attribute (thn (hv pins s σ H _ I h) fun u s1 ⟨y,H1,I1,ry,q⟩=>thn (ha pins s1 σ H1 _ I1 q) fun ov s2 ⟨x',H2,I2,rx,x,C,ex,e,xc,n,q2⟩=>?_) hs
 subst ex
 obtain rfl:ov=Value.ref x:=rx
 exact Kf I2 e xc n ry fun s3 dx hdx I3=>⟨σ,_,I3,q2 dx hdx⟩
end
section
variable{M:Model}{A:Around}{E:Value->Shared->Prop}{s:Shared}{env:Env}
theorem V4{K:oO}{x:Sem Value}{Q:Flow->Shared->Prop}(hh:A.handled=none)
  (h:wpAny M A x (fun v s1=>∃ e C t dx,v=.ref e/\K.In s1.heap/\Z8 K C=true/\s1.heap.get? e=some (xob C dx t .none)/\E (.ref e) s1) E s):wpAny M A (raiseStmt env (some x) none) Q E s:=by
 unfold raiseStmt
 refine oH (thn h fun v s1 h1=>?_)
 obtain⟨e,C,t,dx,rfl,X,hC,he,hE⟩:=h1
 obtain⟨bm,N,nm,qn,bs,sn,sub,ab,col,dd,k0,k1,k2,k3,k5,lk,tl⟩:=vL hC
 have hCo:=X _ _ lk
 have T:=tl _ X
 have hcB:(Value.ref C::bm).contains (.type "BaseException")=true:=by rw[df,T.hasType (show bmV.contains (.type "BaseException")=true by decide +kernel),dv]
 obtain⟨hp,g,d,tk,os⟩:=s1
 repeat (first | with_reducible refine wpAny_loadPart_at he ?_ | with_reducible refine wpAny_loadPart_at hCo ?_ | (with_reducible refine wpAny_isSubtype_exc hCo ?_;rw[hcB]) | wp_step)
 exact wpAny_raiseNew_none hh hE
theorem WQ{K:oO}{e:Expr}{pos:Pos}{Q:Flow->Shared->Prop}(hh:A.handled=none)
  (h:wpAny M A (eval e env) (fun v s1=>∃ a C t dx,v=.ref a/\K.In s1.heap/\Z8 K C=true/\s1.heap.get? a=some (xob C dx t .none)/\E (.ref a) s1) E s):wpAny M A (exec (.Raise (some e) none pos) env) Q E s:=by
 rw[arm_exec_Raise]
 first
  | exact oH (wpAny_standAt (V4 hh (oH (thn h fun v s1 h1=>oH (wpAny_standAt (oJ h1))))))
  | (simp only[evalOpt,Option.map];exact oH (wpAny_standAt (V4 hh (oH (thn h fun v s1 h1=>oH (wpAny_standAt (oJ h1)))))))
end
def del(H:Hp)(x:Addr):Hp:=fun b=>if b=x then none else H b
theorem VW{H:Hp}{x b:Addr}(h:b≠x):del H x b=H b:=if_neg h
theorem Xr{H:Hp}{x:Addr}:del H x x=none:=if_pos rfl
section
variable{X:Cx}{pins:List (Addr × Obj)}{σ:St}{H:Hp}{s:Shared}
theorem Inv.untrack{x:Addr}{φ:Heap->Prop}(I:Inv X pins σ H s)(e:H x=some (.ext φ))(hs:X.s₀.heap.objs.size<=x):Inv X pins σ (del H x) s:=by
 have nx:∀ b u,H b=some u->(∀ ψ,u≠.ext ψ)->b≠x:=fun b u q nu z=>by subst z;rw[e] at q;cases q;exact nu _ rfl
 have hn:∀ b,b≠x->del H x b=H b:=fun b hb=>VW hb
 have es:s={ s with heap:=s.heap,gens:=s.gens,drawn:=s.drawn,toks:=s.toks }:=rfl
 rw[es]
 refine I.step (g':=s.gens) (d':=s.drawn) (ch:=[x]) (fun b hb=>?_) (fun b o _ _ _ q _=>q) (fun b o _ _ _ q _=>⟨o.slots,q⟩) (fun b o hc _ n=>?_)
  (fun b o _ q=>⟨o,q⟩) (fun b xs q=>?_) (fun b u xs q=>?_) (fun b ps q=>?_) (fun m hm=>hm) (fun b u q=>?_) I.bare
 ·have eb:b=x:=by simpa using hb
  subst eb
  refine⟨.inr hs,fun z=>?_,fun y c q z=>?_,fun p hp z=>?_⟩
  ·rw[z,I.free] at e;cases e
  ·have:=I.freeC y c q;rw[z,e] at this;cases this
  ·have:=(I.pin p hp).2.1;rw[z,e] at this;cases this
 ·rw[hn b (by simpa using hc)];exact n
 ·rw[hn b (nx b _ q fun _ z=>by cases z)];exact q
 ·rw[hn b (nx b _ q fun _ z=>by cases z)];exact q
 ·exact⟨#[],by rw[hn b (nx b _ q fun _ z=>by cases z),q];simp⟩
 ·by_cases hb:b=x
  ·subst hb
   rw[Xr] at q
   cases q
  ·rw[hn b hb] at q
   exact (I.hok b u q).stay (fun c v _ z=>z) (fun c z=>by rw[hn c (nx c _ z fun _ y=>by cases y)];exact z) fun c xs z=>by rw[hn c (nx c _ z fun _ y=>by cases y)];exact z
theorem X9{C:Addr}{us:List Value}{E:Value->Shared->Prop}{Q:Value->Shared->Prop}(I:Inv X pins σ H s)(xc:Z8 X.K C=true)(hi:ah X.K (.ref C) "__init__" = some (some (.builtin "ValueError.__init__")))(hl:us.length<=oN)
  (h:∀ s' x t,s.heap.objs.size<=x->Inv X pins σ H s'->s'.heap.get? x=some (xob C none t .none)->Q (.ref x) s'):wpAny (model X.prog X.w) X.A (call (.ref C) us) Q E s:=by
 have F:=dN
 obtain⟨bm,N,nm,qn,bs,sn,sub,ab,col,dd,k0,k1,k2,k3,k5,lk,tl⟩:=vL xc
 have hC:=I.kIn _ _ lk
 have T:=tl _ I.kIn
 obtain⟨hp,g,d,t,os⟩:=s
 have k:∀ b o,hp.get? b=some o->((hp.push { cls:=.type "tuple",data:=.seq us.toArray }).push (xob C none hp.objs.size .none)).get? b=some o:=fun b o e=>aa _ (aa _ e)
 refine wpAny_call (Xd I.kIn xc hi (fun self=>PySem.W.Looks.of_pure (F.init.bind self)) hl ?_)
 have hget:((hp.push { cls:=.type "tuple",data:=.seq us.toArray }).push (xob C none hp.objs.size .none)).get? (hp.objs.size+1)=some (xob C none hp.objs.size .none):=by heap_get
 refine codeAny_call_builtin F.init.plain F.initEntry (wpAny_check_init_subT F (T.keeps k) (k _ _ hC) hget rfl ?_)
 wp_walk
 refine⟨rfl,h _ (hp.objs.size+1) ((hp.push { cls:=.type "tuple",data:=.seq us.toArray }).push (xob C none hp.objs.size .none)).objs.size (cC _) (I.kept (t':=t) fun b o e=>?_) ?_⟩
 ·exact (aL _ _ (cb (ci (ay e)))).trans (aa _ (k b o e))
 ·exact bW (Obj.mapFields fun x=>x.setIfInBounds 0 (Value.ref ((hp.push { cls:=.type "tuple",data:=.seq us.toArray }).push (xob C none hp.objs.size .none)).objs.size)) (aa _ hget) rfl
def Ue(E:XK)(C:Addr)(t:TA):TS:=fun _ σ H=>t σ H fun vs H1=>vs.length<=oN/\E (.ref C) none H1
theorem yU{E:XK}{C:Addr}{cn:Str}{np cpos pos:Pos}{e:Expr}{es:List Expr}{t:TA}(hx:XE X E)(hc:X.calm=true)(xc:XC X.K C)(hi:ah X.K (.ref C) "__init__" = some (some (.builtin "ValueError.__init__")))(hg:Gl X cn)(hm:X.mg cn=some (.ref C))(ha:PA X (e::es) t)
  (hdb:(cn == ("__debug__" : Str))=false:=by decide) (he:oM (e::es) X.env=(false,eval e X.env)::oM es X.env:=by rfl) (hpl:(backTo cpos (oM es X.env)).any (·.1)=false:=by rfl) :
  PS X (.Raise (some (.Call (.Name cn np) (e::es) [] cpos)) none pos) (Ue E C t):=by
 intro pins s σ H D I h
 refine WQ (K:=X.K) (I.ok.hd hc) (wpAny_Call_Name_kw (vA I hg hm ?_ hdb))
 refine bN (h₀:=X.base) I.ok.mod.kin xc.kp (thn (ha cpos pins s σ H _ I h) fun us s1 ⟨vs,H1,I1,r,z,q⟩=>⟨I1.kIn,?_⟩) he hpl
 refine X9 (us:=[] ++ us) I1 xc.ok hi (by show us.length<=oN;rw[<- r.length];exact z) fun s2 x t hz I2 ob=>⟨x,C,t,none,rfl,I2.kIn,xc.ok,ob,?_⟩
 exact hx _ _ ⟨pins,σ,H1,x,C,t,none,.none,rfl,I2,ob,.inl rfl,I1.fpOk hz (I1.hok.fresh hz),fun T z=>(by cases z),q⟩
theorem WP{A:Around}{C:Addr}{us:List Value}{k:Nat}(r:Room (k+1) A):Room k (A.under (.builtin "type.__call__" ⟨.ref C::us,[]⟩)):=r.make C us []
def Vc(E:XK)(C:Addr)(sp:Sp)(t:TA):TS:=fun _ σ H=>t σ H fun vs H1=>vs.length<=oN/\∀ x,H1 x=none->sp (.ref x::vs) (upd H1 x (XN x C none)) (fun v H2=>v=.non/\∃ dx,H2 x=some (XN x C dx)/\E (.ref C) dx (del H2 x)) E0
theorem ZT{E:XK}{C f:Addr}{fd:FuncData}{k:Nat}{ps:List Str}{sp:Sp}{cn:Str}{np cpos pos:Pos}{e:Expr}{es:List Expr}{t:TA}(hx:XE X E)(hc:X.calm=true)(xc:XC X.K C)(hi:ah X.K (.ref C) "__init__" = some (some (.ref f)))(hfn:bg X.K (.ref f)=true)
  (F:FnOk X.prog X.w X.K X.mg X.base CX0 k f fd ps sp) (hr:Room (k+1) X.A) (hb:Binds X.K fd ps []) (hg:Gl X cn) (hm:X.mg cn=some (.ref C)) (ha:PA X (e::es) t)
  (hdb:(cn == ("__debug__" : Str))=false:=by decide) (he:oM (e::es) X.env=(false,eval e X.env)::oM es X.env:=by rfl) (hpl:(backTo cpos (oM es X.env)).any (·.1)=false:=by rfl) :
  PS X (.Raise (some (.Call (.Name cn np) (e::es) [] cpos)) none pos) (Vc E C sp t):=by
 intro pins s σ H D I h
 refine WQ (K:=X.K) (I.ok.hd hc) (wpAny_Call_Name_kw (vA I hg hm ?_ hdb))
 refine bN (h₀:=X.base) I.ok.mod.kin xc.kp (thn (ha cpos pins s σ H _ I h) fun us s1 ⟨vs,H1,I1,r,z,q⟩=>⟨I1.kIn,?_⟩) he hpl
 have hl:us.length<=oN:=by rw[<- r.length];exact z
 have ob:((s1.heap.push { cls:=.type "tuple",data:=.seq us.toArray }).push (xob C none s1.heap.objs.size .none)).get? (s1.heap.objs.size+1)=some (xob C none s1.heap.objs.size .none):=by heap_get
 have hfr:H1 (s1.heap.objs.size+1)=none:=I1.hok.fresh (cC _)
 have I2:Inv X pins σ (upd H1 (s1.heap.objs.size+1) (XN (s1.heap.objs.size+1) C none)) { s1 with heap:=(s1.heap.push { cls:=.type "tuple",data:=.seq us.toArray }).push (xob C none s1.heap.objs.size .none) } :=
  I1.laid (t':=s1.toks) (fun b o e=>aa _ (aa _ e)) (cC _) (zbb ob)
 have q1:=q _ hfr
 have r2:Vals (V.ref (s1.heap.objs.size+1)::vs) (Value.ref (s1.heap.objs.size+1)::us):=.cons rfl r
 have hlen:(Value.ref (s1.heap.objs.size+1)::us ++ ([]:List Value)).length=ps.length:=by
  rw[aS,<- r2.length]
  exact F.len _ _ _ _ q1
 have hb2:=hb { s1 with heap:=(s1.heap.push { cls:=.type "tuple",data:=.seq us.toArray }).push (xob C none s1.heap.objs.size .none) } (Value.ref (s1.heap.objs.size+1)::us) I2.kIn hlen
 rw[aS] at hb2
 have run:=F.run _ X.stack _ _ ⟨Value.ref (s1.heap.objs.size+1)::us,[]⟩ (Value.ref (s1.heap.objs.size+1)::us) _ _ E0 (WP (C:=C) (us:=us) hr) (I2.env0.make C us []) hb2 r2 q1
 have sz0:X.s₀.heap.objs.size<=s1.heap.objs.size+1:=aO I1.sz (cC _)
 show wpAny (model X.prog X.w) X.A (call (.ref C) us) _ X.xe s1
 refine wpAny_call ?_
 refine Xd (h:=s1.heap) (g:=s1.gens) (d:=s1.drawn) (t:=s1.toks) (os:=s1.os) (rest:=us) I1.kIn xc.ok hi (fun self=>fq I1.kIn self (beq_iff_eq.mp hfn)) hl (codeAny_mono run fun r s' hq=>?_)
 cases r with
 | error e=>exact False.elim hq
 | ok fl =>
  cases fl with
  | ret u =>
   obtain⟨v,H',I3,rv,ev,dx,hx3,q3⟩:=I2.after hq
   subst ev
   refine⟨rv,?_⟩
   obtain⟨t,ob3⟩:=zbq (I3.hok _ _ hx3)
   have I4:=Inv.untrack I3 hx3 sz0
   refine⟨_,C,t,dx,rfl,I3.kIn,xc.ok,ob3,hx _ _ ⟨pins,σ,_,_,C,t,dx,.none,rfl,I4,ob3,.inl rfl,?_,fun T z=>(by cases z),q3⟩⟩
   exact I1.fpOk (cC _) Xr
  | next=>exact False.elim hq
  | brk=>exact False.elim hq
  | cont=>exact False.elim hq
end
end L3
namespace L3
def Km(X:Cx)(pins:List (Addr × Obj))(σ:St)(E:XK)(e:Value)(s:Shared):Prop:=∃(cx:Value) (kx:Bool) (H:Hp) (x C t:Addr) (dx:Option Addr) (tb:Value),e=.ref x/\Inv X pins σ H s /\
 s.heap.get? x=some (xog C dx t tb cx kx)/\Kw s.heap x tb/\wa X pins H x/\(∀ T,tb=.ref T->wa X pins H T)/\E (.ref C) dx H
abbrev TX:=St->Hp->VK->XK->Prop
def PEX(X:Cx)(e:Expr)(t:TX):Prop :=
 ∀(pins:List (Addr × Obj)) (s:Shared) (σ:St) (H:Hp) (Q:VK) (E:XK),Inv X pins σ H s->t σ H Q E->wpAny (model X.prog X.w) X.A (eval e X.env) (EP X pins σ Q) (Km X pins σ E) s
section
variable{X:Cx}
variable{k:Nat}{f:Addr}{fd:FuncData}{ps:List Str}{sp:Sp}{dvs:List V}{ds:List Value}{x:Str}{p pos:Pos}{e:Expr}{es:List Expr}{t:TA}
theorem Qg(F:FnOk X.prog X.w X.K X.mg X.base (CXx X.prog X.w) k f fd ps sp)(hr:Room k X.A)(hg:Gl X x)(hm:X.mg x=some (.ref f))(hk:aj X.K (.ref f)=true)(hb:Binds X.K fd ps ds)(hd:Vals dvs ds)
  (ha:PA X.nox (e::es) t) (hdb:(x == ("__debug__" : Str))=false:=by decide) (he:oM (e::es) X.env=(false,eval e X.env)::oM es X.env:=by rfl) (hpl:(backTo pos (oM es X.env)).any (·.1)=false:=by rfl) :
  PEX X (.Call (.Name x p) (e::es) [] pos) (fun σ H Q E=>t σ H fun vs H1=>sp (vs ++ dvs) H1 Q E):=by
 intro pins s σ H Q E I h
 refine wpAny_Call_Name_kw (vA I hg hm ?_ hdb)
 refine bN (h₀:=X.base) I.ok.mod.kin hk (wpAny_noRaise (thn (ha pos pins s σ H _ (I.wish _) h) fun us s1 ⟨vs,H1,I1,r,q⟩=>⟨I1.kIn,?_⟩)) he hpl
 have I1':Inv X pins σ H1 s1:=I1.unwish
 have r2:Vals (vs ++ dvs) (us ++ ds):=r.append hd
 have hl:(us ++ ds).length=ps.length:=by rw[<- r2.length];exact F.len _ _ _ _ q
 refine wpAny_call (codeAny_mono (F.run X.A X.stack s1 H1 ⟨us,[]⟩ (us ++ ds) (vs ++ dvs) Q E hr I1'.env0 (hb s1 us I1'.kIn hl) r2 q) fun r s' hq=>?_)
 cases r with
 | error e =>
  obtain⟨x,C,t,dx,tb,H',rfl,os,bare,un,hok,ob,tr,hn,hsz,hT,q⟩:=hq
  exact⟨.none,false,H',x,C,t,dx,tb,rfl,I1'.call' os un hok bare (fun b z=>absurd z (by simp)),ob,tr,I1'.fpOk hsz hn,fun T e=>I1'.fpOk (hT T e).2 (hT T e).1,q⟩
 | ok fl =>
  cases fl with
  | ret u=>exact I1'.after hq
  | next=>exact False.elim hq
  | brk=>exact False.elim hq
  | cont=>exact False.elim hq
end
abbrev Cx.suite(X:Cx)(e:Value):Cx:={ X with A:=X.A.mark (some e),calm:=false,xe:=fun _ _=>False }
theorem Inv.suite{X:Cx}{pins:List (Addr × Obj)}{σ:St}{H:Hp}{s:Shared}(I:Inv X pins σ H s)(e:Value):Inv (Cx.suite X e) pins σ H s :=
 ⟨⟨I.ok.mod,I.ok.kind,I.ok.glob,I.ok.blt,I.ok.above,I.ok.inj,I.ok.has,I.ok.cab,fun z=>absurd z (by simp [Cx.suite]),I.ok.frames,I.ok.stk,I.ok.exf,I.ok.bs,I.ok.bsz,I.ok.noex,I.ok.exfs,I.ok.funs,I.ok.frf⟩,
  I.os,I.bare,I.base,I.loc,I.cell,I.free,I.freeC,I.pin,I.hok,I.len⟩
theorem Inv.unsuite{X:Cx}{pins:List (Addr × Obj)}{σ σ':St}{H H':Hp}{s s':Shared}{e:Value}(J:Inv X pins σ' H' s')(I:Inv (Cx.suite X e) pins σ H s):Inv X pins σ H s :=
 ⟨J.ok,I.os,I.bare,I.base,I.loc,I.cell,I.free,I.freeC,I.pin,I.hok,I.len⟩
structure Hd where
 D:Addr
 i:Nat
 ts:TS
def tHs(K:oO)(C:Addr)(dx:Option Addr)(x:Addr)(Dd:vp)(σ:St)(H:Hp):List Hd->Prop
 | []=>False
 | h::r=>∃ b,cJ K (.ref C) (.ref h.D)=some b/\if b=true then h.ts { Dd with nx:=fun σ' H'=>Dd.nx (σ'.set h.i none) H',bk:=fun σ' H'=>Dd.bk (σ'.set h.i none) H',ct:=fun σ' H'=>Dd.ct (σ'.set h.i none) H' } (σ.set h.i (some (.ref x))) H else tHs K C dx x Dd σ H r
section
variable{X:Cx}{pins:List (Addr × Obj)}{σ:St}{H:Hp}{s:Shared}
end
theorem zaj{M:Model}{A:Around}{E:Value->Shared->Prop}{K:oO}{s:Shared}{x C D t:Addr}{dx:Option Addr}{tb cx:Value}{kx:Bool}{b:Bool}{Q:Bool->Shared->Prop}(X:K.In s.heap)(hD:Z8 K D=true)(he:s.heap.get? x=some (xog C dx t tb cx kx))
  (hs:cJ K (.ref C) (.ref D)=some b) (h:Q b s):wpAny M A (excMatches (.ref x) (.ref D)) Q E s:=by
 obtain⟨bm,N,nm,qn,bs,sn,sub,ab,col,dd,k0,k1,k2,k3,k5,lk,tl⟩:=vL hD
 have hDo:=X _ _ lk
 have T:=tl _ X
 have hcB:(Value.ref D::bm).contains (.type "BaseException")=true:=by rw[df,T.hasType (show bmV.contains (.type "BaseException")=true by decide +kernel),dv]
 have L:=PySem.W.looks_subIn (M:=M) X hs
 have f:=tc_notTuple
 obtain⟨hp,g,d,tk,os⟩:=s
 unfold excMatches
 repeat (first | with_reducible refine wpAny_loadPart_at he ?_ | with_reducible refine wpAny_loadPart_at hDo ?_ | (with_reducible refine wpAny_isSubtype_exc hDo ?_;rw[hcB]) | (with_reducible refine PySem.W.Looks.at L ?_) | wp_step)
 cases b with
 | false=>exact oJ (oJ (oJ h))
 | true=>exact oJ (oJ (oJ h))
section
variable{X:Cx}
def tbL:Value->List Addr
 | .ref b=>[b]
 | _=>[]
def zdw(K:oO)(i:Nat)(te:TX)(hds:List Hd):TS:=fun D σ H=>te σ H (fun v H1=>D.nx (σ.set i (some v)) H1) fun cls dx H1=>∃ C,cls=.ref C/\∀ x,H1 x=none->tHs K C dx x D σ (upd H1 x (XT x C dx)) hds
end
end L3
namespace L3
section
variable{prog:Program}{w:World}{A:Around}{E:Value->Shared->Prop}{s:Shared}{K:oO}{x C:Addr}{ox:Obj}{od:Option Obj}{name:Str}{tk:Tok}
theorem zbt{fill expr:Bool}{Q:Value->Shared->Prop}(X:K.In s.heap)(xc:XC K C)(J:PySem.W.InstAt s.heap x ox C od)
  (h:wpAny (model prog w) A.in1 (Builtin.«object.__getattribute__» ⟨[.ref x,.str name tk],[]⟩) (fun fin s'=>match fin with | .done (.ret v)=>wpAny (model prog w) A (handedOut v) Q E s' | _=>False) (fun _ _=>False) s) :
  wpAny (model prog w) A (getAttrBy (.ref x) (.str name tk) fill expr) Q E s:=by
 obtain⟨bm,N,nm,qn,bs,sn,sub,ab,col,dd,k0,k1,k2,k3,k5,lk,tl⟩:=vL xc.ok
 have hC:=X _ _ lk
 have T:=tl _ X
 have FB:=PySem.F.attrBase_ValueError
 have L0:=J.type (M:=model prog w)
 have L1:=cB (M:=model prog w) X xc.ga
 have L2:=cB (M:=model prog w) X xc.gt
 have hcB:(Value.ref C::bm).contains (.type "BaseException")=true:=by rw[df,T.hasType (show bmV.contains (.type "BaseException")=true by decide +kernel),dv]
 have isB:PySem.W.Looks (model prog w) s.heap (isInstance (.ref x) (.type "BaseException")) true:=L0.andThen (by have:=ZY (M:=model prog w) hC (.type "BaseException");rw[hcB] at this;exact this)
 have f3:=FB.ga.bind (.ref x)
 have hx0:(expr && onTheHeap (Value.builtin "BaseException.__getattribute__"))=false:=by cases expr <;> rfl
 have hx2:(Value.builtin "BaseException.__getattribute__" == Value.builtin "object.__getattribute__")=false:=by decide +kernel
 have hx1:(onTheHeap (Value.ref C) && Value.builtin "BaseException.__getattribute__" == Value.builtin "object.__getattribute__")=false:=by rw[hx2];rfl
 unfold getAttrBy
 refine wpAny_holding (oH (L0.here (oH (L1.here ?_))))
 show wpAny _ _ (if (onTheHeap (Value.ref C) && Value.builtin "BaseException.__getattribute__" == Value.builtin "object.__getattribute__")=true then _ else _) _ _ _
 rw[hx1,if_neg aF]
 unfold getAttrByItsOwn hookBefore
 rw[if_pos (by rfl)]
 refine oH (L2.here (oH (wpAny_attempt (wpAny_holding ?_))))
 unfold callGetattribute
 rw[hx0,if_neg aF]
 unfold boundAndCalled
 rw[f3]
 refine oH (oJ ?_)
 show wpAny (model prog w) A (call (.builtin "BaseException.__getattribute__") [.ref x,.str name tk]) _ _ s
 refine wpAny_call (codeAny_call_builtin FB.ga.plain PySem.F.entry_bexc_ga (@PySem.W.check_slot (model prog w) _ _ s "BaseException.__getattribute__" "BaseException" "__getattribute__" (.ref x) [.str name tk] [] _ (by decide +kernel) (by decide +kernel) isB (PySem.F.args_bexc_ga _ _) ?_))
 refine wpAny_mono h (fun fin s' z=>?_) fun _ _ z=>z.elim
 rcases fin with (_ | _ | _ | v) | _ <;> first | exact z | exact z.elim
theorem JA{Q:Option Value->Shared->Prop}(X:K.In s.heap)(xc:XC K C)(J:PySem.W.InstAt s.heap x ox C od)(ha:ah K (.ref C) "__class__" = some (some (.builtin "object.__class__")))
  (hn:cA K (.builtin "object.__class__") "__get__" = some (some (.builtin "getset_descriptor.__get__"))) (htk:du K (.builtin "object.__class__")=some true) (hm:bP K C (.type "object")=some true)
  (h:Q (some (.ref C)) { s with toks:=s.toks+1 }):wpAny (model prog w) A (getAttr? (.ref x) "__class__") Q E s:=by
 have hf:ft K C od "__class__" = some (.bind (.builtin "getset_descriptor.__get__") (.builtin "object.__class__")):=by
  obtain⟨bm,N,nm,qn,bs,sn,sub,ab,col,dd,k0,k1,k2,k3,k5,lk,tl⟩:=vL xc.ok
  have hcl:(PySem.W.clsIn K C).isSome=true:=by unfold PySem.W.clsIn;rw[lk];rfl
  obtain⟨cd,hc⟩:=Option.isSome_iff_exists.mp hcl
  unfold ft
  rw[hc,bU,ha,bU]
  simp [hn,htk]
 unfold getAttr? getAttrBy?
 refine oH (wpAny_mkText (oH (wpAny_attempt (zbt (s:={ s with toks:=s.toks+1 }) X xc J ?_))))
 have L0:=J.type (M:=model prog w)
 have L1:=PySem.W.looks_find (M:=model prog w) X J hf
 unfold Builtin.«object.__getattribute__»
 refine oH (oJ (oH (oJ (oH (L0.here (s:={ s with toks:=s.toks+1 }) (oH (L1.here (s:={ s with toks:=s.toks+1 }) ?_)))))))
 show wpAny _ _ (holding [.builtin "object.__class__"] (call (.builtin "getset_descriptor.__get__") [.builtin "object.__class__",.ref x,.ref C]) >>= ret) _ _ _
 refine oH (wpAny_holding (wpAny_call (PySem.W.class_get (s:={ s with toks:=s.toks+1 }) X J hm ?_)))
 refine oJ ?_
 show wpAny _ _ (handedOut (.ref C)) _ _ _
 rw[PySem.W.handedOut_of rfl]
 exact oJ (oJ h)
end
structure XI(K:oO)(C:Addr):Prop extends XC K C where
 ca:ah K (.ref C) "__class__" = some (some (.builtin "object.__class__"))
 cg:cA K (.builtin "object.__class__") "__get__" = some (some (.builtin "getset_descriptor.__get__"))
 ct:du K (.builtin "object.__class__")=some true
 mo:bP K C (.type "object")=some true
theorem zaM{h:Heap}{x C t:Addr}{tb c:Value}{k:Bool}(ob:h.get? x=some (xog C none t tb c k)):PySem.W.InstAt h x (xog C none t tb c k) C none:=⟨ob,rfl,rfl,trivial⟩
theorem zbO{K:oO}{x C:Addr}{dx:Option Addr}(xi:XI K C):PySem.W.KitX K (.ref x) (.ref C) (fun h=>(∃ t tb c k,h.get? x=some (xog C dx t tb c k))/\∀ d,dx=some d->∃ o,h.get? d=some o) where
 ty:=fun M h X ⟨⟨t,tb,c,k',ob⟩,_⟩=>(PySem.W.Looks.ld ob).andThen .now
 it:=fun M h X _=>by
  obtain⟨bm,N,nm,qn,bs,sn,sub,ab,col,dd,k0,k1,k2,k3,k5,lk,tl⟩:=vL xi.ok
  intro A' Q' E' s' k q
  unfold isType loadHead
  exact oH (wpAny_loadPart (k _ _ (X _ _ lk)) (oJ q))
 ne:=fun h tp dd its n sl X htp=>by
  obtain⟨bm,N,nm,qn,bs,sn,sub,ab,col,dd,k0,k1,k2,k3,k5,lk,tl⟩:=vL xi.ok
  refine Bool.eq_false_iff.mpr fun q=>?_
  have e:C=tp:=Value.ref.inj (beq_iff_eq.mp q)
  subst e
  have z:=congrArg (fun o:Option Obj=>o.map fun o=>match o.data with | .cls _=>true | _=>false) ((X _ _ lk).symm.trans htp)
  exact absurd (show true=false from Option.some.inj z) (by decide)
 ca:=fun {prog w A E Q s} X ⟨⟨t,tb,c,k',ob⟩,hd⟩ k=>by
  cases dx with
  | none=>exact JA X xi.toXC (zaM ob) xi.ca xi.cg xi.ct xi.mo k
  | some d =>
   obtain⟨o,e⟩:=hd d rfl
   exact JA (od:=some o) X xi.toXC ⟨ob,rfl,rfl,e⟩ xi.ca xi.cg xi.ct xi.mo k
section
variable{X:Cx}
def XAt(H:Hp)(x C:Addr)(dx:Option Addr)(fs:List (Str × V)):Prop:=H x=some (XT x C dx)/\((dx=none/\fs=[])\/∃ d,dx=some d/\H d=some (.xd fs))
theorem VC:vJ X (.builtin "isinstance") (fun xs H Q=>∃ x C dx fs c u b,xs=[.ref x,c]/\cV c=some u/\XAt H x C dx fs/\XI X.K C/\aT X.K (.ref C) u=some b/\Q (.bl b) H):=by
 intro pins s σ H xs us Q I r h
 obtain⟨x,C,dx,fs,c,u,b,rfl,hc,⟨hx,hd⟩,xi,e,q⟩:=h
 obtain⟨v,w',rfl,rx,rc⟩:=Va r
 cases rx
 have:w'=u:=by
  cases c with
  | ty n=>cases hc;exact rc
  | ref a=>cases hc;exact rc
  | _=>cases hc
 subst this
 refine bn (zbO (dx:=dx) xi) I.kIn ⟨zcA (I.hok _ _ hx),fun d z=>?_⟩ e (fun z=>nomatch z) fun tk=>⟨.bl b,H,I.tok tk,rfl,q⟩
 rcases hd with ⟨z',_⟩ | ⟨d',z',hd'⟩
 ·rw[z'] at z;cases z
 ·rw[z'] at z;cases z
  obtain⟨mA,⟨o,es,ep,ho,_⟩,_⟩:=I.hok _ _ hd'
  exact⟨o,ho⟩
def zcB(K:oO)(ta:TE)(f:Str):TE:=fun σ H Q=>ta σ H fun y H1=>∃ x C dx fs v,y=.ref x/\XAt H1 x C dx fs/\XC K C/\bQ K C=true/\NoAttr K C f/\fs.lookup f=some v/\Q v H1
end
end L3
namespace L3
structure Df(P:Program)(w:World)(K:oO)(mg:Str->Option Value)(base:Heap)(CX:CXT)(k:Nat)(nm:Str)(ps:List Str)(ds:List Value)(sp:Sp):Prop where
 ex:∃ f fd,FnOk P w K mg base CX k f fd ps sp/\mg nm=some (.ref f)/\aj K (.ref f)=true/\Binds K fd ps ds
structure Bt(mg:Str->Option Value):Prop where
 len:mg "len" = none
 range:mg "range" = none
 isi:mg "isinstance" = none
 str:mg "str" = none
 int:mg "int" = none
 tuple:mg "tuple" = none
 list:mg "list" = none
 bool:mg "bool" = none
 enum:mg "enumerate" = none
 all:mg "all" = none
 verr:mg "ValueError" = none
 max:mg "max" = none
 rev:mg "reversed" = none
 zip:mg "zip" = none
 sum:mg "sum" = none
 sorted:mg "sorted" = none
section
variable{X:Cx}{CX:CXT}{k:Nat}{ps:List Str}{sp:Sp}{ds:List Value}{dvs:List V}{E:XK}{x:Str}{p pos:Pos}{e:Expr}{es:List Expr}{t:TA}
theorem cl0{j:Nat}(D:Df X.prog X.w X.K X.mg X.base CX0 k x ps ds sp)(hr:Room j X.A)(hd:Vals dvs ds)(hg:Gl X x)(ha:PA X (e::es) t)(hdb:(x == ("__debug__" : Str))=false:=by decide)(he:oM (e::es) X.env=(false,eval e X.env)::oM es X.env:=by rfl)
  (hpl:(backTo pos (oM es X.env)).any (·.1)=false:=by rfl) (hj:k<=j:=by decide):PE X (.Call (.Name x p) (e::es) [] pos) (jt sp dvs E0 t):=by
 obtain⟨f,fd,F,hm,hk,hb⟩:=D.ex
 exact WS F (hr.mono hj) hg hm hk hb hd Yb ha hdb he hpl
theorem clX{j:Nat}(D:Df X.prog X.w X.K X.mg X.base (CXx X.prog X.w) k x ps ds sp)(hr:Room j X.A)(hd:Vals dvs ds)(hg:Gl X x)(ha:PA X.nox (e::es) t)(hdb:(x == ("__debug__" : Str))=false:=by decide)(he:oM (e::es) X.env=(false,eval e X.env)::oM es X.env:=by rfl)
  (hpl:(backTo pos (oM es X.env)).any (·.1)=false:=by rfl) (hj:k<=j:=by decide):PEX X (.Call (.Name x p) (e::es) [] pos) (fun σ H Q E=>t σ H fun vs H1=>sp (vs ++ dvs) H1 Q E):=by
 obtain⟨f,fd,F,hm,hk,hb⟩:=D.ex
 exact Qg F (hr.mono hj) hg hm hk hb hd ha hdb he hpl
theorem clP{j:Nat}(hx:XE X E)(D:Df X.prog X.w X.K X.mg X.base (CXx X.prog X.w) k x ps ds sp)(hr:Room j X.A)(hd:Vals dvs ds)(hg:Gl X x)(ha:PA X (e::es) t)(hdb:(x == ("__debug__" : Str))=false:=by decide)(he:oM (e::es) X.env=(false,eval e X.env)::oM es X.env:=by rfl)
  (hpl:(backTo pos (oM es X.env)).any (·.1)=false:=by rfl) (hj:k<=j:=by decide):PE X (.Call (.Name x p) (e::es) [] pos) (jt sp dvs E t):=by
 obtain⟨f,fd,F,hm,hk,hb⟩:=D.ex
 exact WS F (hr.mono hj) hg hm hk hb hd (YO hx) ha hdb he hpl
end
def TyX(K:oO)(H:Hp)(x:V)(t:Value):Prop:=YM K H x t\/(∃ a C dx fs,x=.ref a/\t=.ref C/\XAt H a C dx fs/\XI K C)\/(∃ a xs,x=.ref a/\t=.type "list"/\SqL K H a xs)\/∃ a xs,x=.ref a/\t=.type "tuple"/\SqT K H a xs
def zb9(K:oO):List V->Hp->VK->Prop:=fun xs H Q=>∃ x c u t b,xs=[x,c]/\cV c=some u/\TyX K H x t/\aT K t u=some b/\Q (.bl b) H
theorem zci{X:Cx}:vJ X (.builtin "isinstance") (zb9 X.K):=by
 intro pins s σ H xs us Q I r h
 obtain⟨x,c,u,t,b,rfl,hc,ty,e,q⟩:=h
 rcases ty with ty | ⟨a,C,dx,fs,rfl,rfl,ha,xi⟩ | ⟨a,ys,rfl,rfl,hq⟩ | ⟨a,ys,rfl,rfl,hq⟩
 ·exact Qe pins s σ H _ us Q I r ⟨x,c,u,t,b,rfl,hc,ty,e,q⟩
 ·exact VC pins s σ H _ us Q I r ⟨a,C,dx,fs,c,u,b,rfl,hc,ha,xi,e,q⟩
 all_goals
  obtain⟨v,w',rfl,rx,rc⟩:=Va r
  have:w'=u:=by
   cases c with
   | ty n=>cases hc;exact rc
   | ref a=>cases hc;exact rc
   | _=>cases hc
  subst this
  cases rx
 ·obtain⟨its,_,p,_⟩:=I.list hq
  obtain⟨o,h1,h2,_⟩:=p.isList
  exact bn dP I.kIn ⟨o,h1,h2⟩ e (fun z=>nomatch z) fun tk=>⟨.bl b,H,I.tok tk,rfl,q⟩
 ·obtain⟨its,_,p,_⟩:=I.tuple hq
  obtain⟨o,h1,h2,_⟩:=p
  exact bn eZ I.kIn ⟨o,h1,h2⟩ e (fun z=>nomatch z) fun tk=>⟨.bl b,H,I.tok tk,rfl,q⟩
theorem xI{X:Cx}{e:Expr}{te:TE}{c:Str}{n:String}{p q pos:Pos}(h1:Gl X "isinstance")(h2:X.mg "isinstance" = none)(he:PE X e te)(hg:Gl X c)(hm:X.mg c=none)(hv:bootBuiltins c=some (.type n))(hn:c≠"__name__":=by decide)(hd:(c == ("__debug__" : Str))=false:=by decide)
  (hs1:oM [e,.Name c q] X.env=(false,eval e X.env)::oM [.Name c q] X.env:=by rfl) (hs3:oM [.Name c q] X.env=(false,eval (.Name c q) X.env)::oM [] X.env:=by rfl) (hs2:(backTo pos (oM [.Name c q] X.env)).any (·.1)=false:=by rfl):PE X (.Call (.Name "isinstance" p) [e,.Name c q] [] pos) (tCB (zb9 X.K) (zP te (zP (tC (.ty n)) vf))) :=
 zp zci h1 h2 boot_isinstance (za he (za (J7 hg hm hv rfl hn hd) ze hs3) hs1) (he:=hs1) (hpl:=hs2)
theorem zbf{a:Addr}:cV (.ref a)=some (.ref a):=rfl
theorem zcb{n:String}:cV (.ty n)=some (.type n):=rfl
theorem zdv{P w K mg base N q sc f cd A o s H}:(cxH P w K mg base N q sc f cd A o s H).K=K:=rfl
def Vj:V->List V->Hp->VK->Prop:=fun x xs H Q=>∃ z y,x=.str z/\xs=[.str y]/\Q (.int (Txt.count z y)) H
theorem WE{X:Cx}:MtR X "str.count" Vj:=QP
def zcs:V->List V->Hp->VK->Prop:=fun x xs H Q=>∃ z y,x=.str z/\xs=[.str y]/\Q (.int (Txt.find z y)) H
theorem VY(l:List Nat)(c:Nat):Txt.count (tx l) (tx [c])=(l.count c:Int):=by
 have h:∀ l:List Nat,cnt c l=(l.count c:Int):=fun l=>by
  induction l with
  | nil=>rfl
  | cons n r ih =>
   rw[cnt_cons,ih,List.count_cons]
   by_cases e:n=c
   ·subst e;simp;omega
   ·have:(n == c)=false:=by simpa using e
    simp [e,this]
 exact (PyProof.Rows.count_is (tx l) c).trans (h l)
theorem lt1{a b:Nat}:([a]:List Nat) < [b] ↔ a<b:=by rw[List.cons_lt_cons_iff];exact⟨fun h=>h.elim id fun⟨_,q⟩=>absurd q (List.not_lt_nil _),.inl⟩
theorem Vn{l:List Nat}{k v:Nat}(h:l[k]? = some v):(v::(l.take k ++ l.drop (k+1))).Perm l:=by
 obtain⟨hk,e⟩:=List.getElem?_eq_some_iff.mp h
 have e2:l.take k ++ (v::l.drop (k+1))=l:=by
  rw[<- e,<- aV hk,bK]
 exact (List.perm_middle.symm.trans (by rw[e2]))
def zae(K:oO):List V->Hp->VK->Prop:=fun xs H Q=>∃ x n,xs=[x]/\zcf K x H n/\Q (.int n) H
theorem zX{X:Cx}:vJ X (.builtin "len") (zae X.K):=UV
def ForR(lo:Int)(n:Nat)(g:TG)(tb:TS)(D:vp)(σ:St)(H:Hp):Prop:=∃ W:Nat->Nat->St->Hp->Prop,(∃ m,W 0 m σ H)/\∀ i m σ H,W i m σ H ->
 ((Itr lo n).stop i H/\D.nx σ H)\/((Itr lo n).go i H/\∃ N:St->Hp->Prop,(∀ σ' H',N σ' H'->∃ m',m'<m/\W (i+1) m' σ' H')/\∀ x H',(Itr lo n).yld i H x H'->g x σ H' fun σ2 H2=>tb { D with nx:=N,ct:=N,bk:=D.nx } σ2 H2)
theorem zbM{ta:TA}{g:TG}{tb:TS}{D:vp}{σ:St}{H:Hp}:Qw (Ki ta) g tb D σ H=ta σ H fun vs H1=>∃ j:Int,vs=[.int j]/\-(2 ^ 62)<=j/\j<2 ^ 62/\ForR 0 j.toNat g tb D σ H1:=rfl
theorem zb7{ta:TA}{g:TG}{tb:TS}{D:vp}{σ:St}{H:Hp}:Qw (zav ta) g tb D σ H=ta σ H fun vs H1=>∃ i j:Int,vs=[.int i,.int j]/\(-(2 ^ 62)<=i/\i<2 ^ 62/\-(2 ^ 62)<=j/\j<2 ^ 62)/\ForR i (j - i).toNat g tb D σ H1:=rfl
theorem ForR.by{lo:Int}{n:Nat}{g:TG}{tb:TS}{D:vp}{σ:St}{H:Hp}(Pv:Nat->St->Hp->Prop)(h0:Pv 0 σ H)
  (hs:∀ i σ H,i<n->Pv i σ H->g (.int (lo+i)) σ H fun σ2 H2=>tb { D with nx:=Pv (i+1),ct:=Pv (i+1),bk:=D.nx } σ2 H2) (hd:∀ σ H,Pv n σ H->D.nx σ H):ForR lo n g tb D σ H:=WW Pv h0 hs hd
def ForL(K:oO)(a:Addr)(g:TG)(tb:TS)(D:vp)(σ:St)(H:Hp):Prop:=∃ W:Nat->Nat->St->Hp->Prop,(∃ m,W 0 m σ H)/\∀ i m σ H,W i m σ H ->
 ((Itl K a).stop i H/\D.nx σ H)\/((Itl K a).go i H/\∃ N:St->Hp->Prop,(∀ σ' H',N σ' H'->∃ m',m'<m/\W (i+1) m' σ' H')/\∀ x H',(Itl K a).yld i H x H'->g x σ H' fun σ2 H2=>tb { D with nx:=N,ct:=N,bk:=D.nx } σ2 H2)
theorem zdg{K:oO}{tl:TE}{g:TG}{tb:TS}{D:vp}{σ:St}{H:Hp}:Qw (Kh K tl) g tb D σ H=tl σ H fun x H1=>∃ a,x=.ref a/\(∃ xs,SqL K H1 a xs)/\ForL K a g tb D σ H1:=rfl
def ForS(x:Str)(g:TG)(tb:TS)(D:vp)(σ:St)(H:Hp):Prop:=∃ W:Nat->Nat->St->Hp->Prop,(∃ m,W 0 m σ H)/\∀ i m σ H,W i m σ H ->
 ((Its x).stop i H/\D.nx σ H)\/((Its x).go i H/\∃ N:St->Hp->Prop,(∀ σ' H',N σ' H'->∃ m',m'<m/\W (i+1) m' σ' H')/\∀ v H',(Its x).yld i H v H'->g v σ H' fun σ2 H2=>tb { D with nx:=N,ct:=N,bk:=D.nx } σ2 H2)
theorem zc6{tl:TE}{g:TG}{tb:TS}{D:vp}{σ:St}{H:Hp}:Qw (zcv tl) g tb D σ H=tl σ H fun v H1=>∃ x,v=.str x/\ForS x g tb D σ H1:=rfl
theorem ForS.by{l:List Nat}{g:TG}{tb:TS}{D:vp}{σ:St}{H:Hp}(Pv:Nat->St->Hp->Prop)(h0:Pv 0 σ H)
  (hs:∀ i c σ H,l[i]? = some c->Pv i σ H->g (.str (tx [c])) σ H fun σ2 H2=>tb { D with nx:=Pv (i+1),ct:=Pv (i+1),bk:=D.nx } σ2 H2) (hd:∀ σ H,Pv l.length σ H->D.nx σ H):ForS (tx l) g tb D σ H:=KS Pv h0 hs hd
def zdm(x:Str)(g:TG)(tb:TS)(D:vp)(σ:St)(H:Hp):Prop:=∃ W:Nat->Nat->St->Hp->Prop,(∃ m,W 0 m σ H)/\∀ i m σ H,W i m σ H ->
 ((Ite x).stop i H/\D.nx σ H)\/((Ite x).go i H/\∃ N:St->Hp->Prop,(∀ σ' H',N σ' H'->∃ m',m'<m/\W (i+1) m' σ' H')/\∀ v H',(Ite x).yld i H v H'->g v σ H' fun σ2 H2=>tb { D with nx:=N,ct:=N,bk:=D.nx } σ2 H2)
theorem zdh{ta:TA}{g:TG}{tb:TS}{D:vp}{σ:St}{H:Hp}:Qw (zcc ta) g tb D σ H=ta σ H fun vs H1=>∃ x,vs=[.str x]/\zdm x g tb D σ H1:=rfl
theorem ZJ{α:Type}(l:List α){k:Int}(h:0<=k):cut l none (some k)=l.take k.toNat:=by
 obtain⟨n,rfl⟩:=bE h
 unfold cut
 rw[HT.sIx_none,HT.sIx_nat,dI,Nat.sub_zero]
 by_cases q:n<=l.length
 ·rw[cy q];rfl
 ·rw[dq (by omega),aQ,bf (by simp;omega)]
theorem qj{α:Type}(l:List α){k:Int}(h:0<=k):cut l (some k) none=l.drop k.toNat:=by
 obtain⟨n,rfl⟩:=bE h
 unfold cut
 rw[HT.sIx_none,HT.sIx_nat]
 by_cases q:n<=l.length
 ·rw[cy q]
  rw[bf (by rw[br] <;> omega)]
  rfl
 ·rw[dq (by omega),d6,aZ (by simp;omega)]
  simp
theorem vQ{α:Type}{xs:List α}{i:Int}(h0:0<=i)(h1:i<xs.length):∃ v,atI xs i=some v/\xs[i.toNat]? = some v:=by
 obtain⟨n,rfl⟩:=bE h0
 have hn:n<xs.length:=by omega
 exact⟨xs[n],JT (al hn),al hn⟩
def alpha:List Nat:=[97,98,99,100,101,102,103,104,105,106,107,108,109,110,111,112,113,114,115,116,117,118,119,120,121,122]
theorem V3:(("abcdefghijklmnopqrstuvwxyz" : Str))=tx alpha:=by decide +kernel
theorem ym:(oN:Nat)=16777216:=sizeLine_eq
theorem cxK{CX P w K mg base N q sc f cd A o s H E}:(qg CX P w K mg base N q sc f cd A o s H E).K=K:=rfl
theorem cxP{CX P w K mg base N q sc f cd A o s H E}:(qg CX P w K mg base N q sc f cd A o s H E).prog=P:=rfl
theorem cxW{CX P w K mg base N q sc f cd A o s H E}:(qg CX P w K mg base N q sc f cd A o s H E).w=w:=rfl
theorem zbG{a b:Int}:JC (.int a) (.int b)=true:=rfl
theorem zca{a b:Str}:JC (.str a) (.str b)=true:=rfl
theorem zb0{a b:Bool}:JC (.bl a) (.bl b)=true:=rfl
theorem zb2{b:Str}:JC .non (.str b)=true:=rfl
theorem zbW{b:Str}:JC (.str b) .non=true:=rfl
theorem zd{H:Hp}{p:Addr}{o:HO}(h:H p=none):Same H (upd H p o):=fun b u e=>by
 rw[zo (zH e h)]
 exact e
theorem zW{α:Type}{l:List α}{i:Nat}{c:α}(h:l[i]? = some c):l.take (i+1)=l.take i ++ [c]:=by
 rw[List.take_add_one,h];rfl
end L3
namespace L3
structure FunD(K:oO)(x qual:Str)(st:Stmt)(dV:Value)(f:Addr)(fd:FuncData):Prop where
 ex:∃(oc:Value) (od:Option Addr) (kV doc pm:Value) (an:Option Addr) (cdv ct:Value) (osl:Array (Option Value)),
  fd=av x qual (zm st) (zk st) (zb st) dV kV doc pm an cdv ct/\K.lookup f=some ⟨oc,od,.func fd,osl⟩/\ar K cdv qual=true
theorem FunD.okX{P:Program}{w:World}{K:oO}{mg:Str->Option Value}{base:Heap}{x qual:Str}{st:Stmt}{dV:Value}{f:Addr}{fd:FuncData}{N ps:List Str}{k:Nat}{sp:Sp}(F:FunD K x qual st dV f fd)(S:zq N ps (zb st))(len:∀ vs H Q E,sp vs H Q E->vs.length=ps.length)
  (hbody:∀(cdv:Value) (A:Around) (outer:List Env) (s:Shared) (H:Hp) (vs:List V) (Q:VK) (E:XK),Room k (A.deeper (envOfC qual (zb st) s.heap.objs.size f cdv))->XE (qg (CXx P w) P w K mg base N qual (zb st) f cdv A outer s H E) E->sp vs H Q E ->
   ∃ t,PSs (qg (CXx P w) P w K mg base N qual (zb st) f cdv A outer s H E) (zk st) t/\t { nx:=fun _ H'=>Q .non H',rt:=Q } (start N vs) H):FnOk P w K mg base (CXx P w) (k+1) f fd ps sp:=by
 obtain⟨oc,od,kV,doc,pm,an,cdv,ct,osl,rfl,lk,hcd⟩:=F.ex
 exact QG lk hcd S len fun A outer s H vs Q E hr hsp=>hbody cdv A outer s H vs Q E hr zbd hsp
def vE(C:Addr)(f:Str):Sp:=fun vs H Q _=>∃ x v,vs=[.ref x,v]/\H x=some (XN x C none)/\∀ dx,H dx=none->Q .non (upd (upd H dx (.xd [(f,v)])) x (XN x C (some dx)))
def zbI(H:Hp)(d:Addr)(f:Str)(v:V)(H':Hp):Prop:=H d=none/\Same H H'/\H' d=some (.xd [(f,v)])
theorem W7{E:XK}{C:Addr}{f:Str}{v:V}{H:Hp}(h:∀ d H',zbI H d f v H'->E (.ref C) (some d) H'):∀ x,H x=none->vE C f [.ref x,v] (upd H x (XN x C none)) (fun u H2=>u=.non/\∃ dx,H2 x=some (XN x C dx)/\E (.ref C) dx (del H2 x)) E0:=by
 intro x hx
 refine⟨x,v,rfl,zf,fun dx hd=>⟨rfl,some dx,zf,h dx _ ⟨?_,?_,?_⟩⟩⟩
 ·by_cases e:dx=x
  ·rw[e];exact hx
  ·rw[zo e] at hd;exact hd
 ·have hne:dx≠x:=fun e=>by rw[e,zf] at hd;cases hd
  rw[zo hne] at hd
  intro b o q
  have b1:b≠x:=zH q hx
  have b2:b≠dx:=zH q hd
  rw[VW b1,zo b1,zo b2,zo b1]
  exact q
 ·have hne:dx≠x:=fun e=>by rw[e,zf] at hd;cases hd
  rw[VW hne,zo hne,zf]
section
variable{X:Cx}
def zc7:R2:=fun x y H Q=>∃ c l,x=.str (tx [c])/\y=.str (tx l)/\Q (.bl (!decide (c ∈ l))) H
def zdp:R2:=fun x y H Q=>∃ c l,x=.str (tx [c])/\y=.str (tx l)/\Q (.bl (decide (c ∈ l))) H
def zcJ:R2:=fun x y H Q=>y=.non/\Q (.bl (decide (x=.non))) H
theorem op_isN':OpR X (compareOp .Is) zcJ:=zbu
def zaU:R2:=fun x y H Q=>y=.non/\Q (.bl (!decide (x=.non))) H
theorem op_notN':OpR X (compareOp .IsNot) zaU:=JI
def KI:List V->Hp->VK->Prop:=fun xs H Q=>∃ i j,xs=[.int i,.int j]/\Q (.int (if j > i then j else i)) H
theorem Uk(hc:X.calm=true):vJ X (.builtin "max") KI:=Uc hc
def rGe:R2:=fun x y H Q=>∃ i j,x=.int i/\y=.int j/\Q (.bl (decide (j<=i))) H
theorem op_ge':OpR X (compareOp .GtE) rGe:=zb5
def zdf(K:oO)(ta:TE):TT:=fun σ H Q=>ta σ H fun x H'=>∃ k,zac K x H' k/\Q k H'
end
theorem u8:bootBuiltins "max" = some (.builtin "max"):=by decide +kernel
def KF(ls l:List Nat)(m:Int)(k:Nat):Prop:=∃ c,l[k]? = some c/\(m<=k\/c ∉ ls)
def FB(ls l:List Nat)(m:Int)(k:Nat):Prop:=KF ls l m k/\∀ j<k,¬ KF ls l m j
def NB(ls l:List Nat)(m:Int):Prop:=∀ j,¬ KF ls l m j
theorem FB.nb{ls l:List Nat}{m:Int}{k:Nat}(h:FB ls l m k)(n:NB ls l m):False:=n k h.1
end L3
namespace L3
inductive D where
 | non | bl (b:Bool) | int (i:Int) | str (x:Str) | lst (l:List D) | tup (l:List D)
mutual
def Is(K:oO)(H:Hp):D->V->Prop
 | .non,v=>v=.non
 | .bl b,v=>v=.bl b
 | .int i,v=>v=.int i
 | .str x,v=>v=.str x
 | .lst l,v=>∃ a xs,v=.ref a/\SqL K H a xs/\Iss K H l xs
 | .tup l,v=>∃ a xs,v=.ref a/\SqT K H a xs/\Iss K H l xs
def Iss(K:oO)(H:Hp):List D->List V->Prop
 | [],vs=>vs=[]
 | d::l,vs=>∃ v r,vs=v::r/\Is K H d v/\Iss K H l r
end
mutual
def eqD:D->D->Bool
 | .non,.non=>true
 | .bl a,.bl b=>a == b
 | .bl a,.int b=>(if a then 1 else 0) == b
 | .int a,.bl b=>a == (if b then 1 else 0)
 | .int a,.int b=>a == b
 | .str a,.str b=>a == b
 | .lst l,.lst m=>jm l m
 | .tup l,.tup m=>jm l m
 | _,_=>false
def jm:List D->List D->Bool
 | [],[]=>true
 | d::l,e::m=>eqD d e && jm l m
 | _,_=>false
end
mutual
def dpD:D->Nat
 | .lst l=>qb l+1
 | .tup l=>qb l+1
 | _=>0
def qb:List D->Nat
 | []=>0
 | d::l=>max (dpD d) (qb l)
end
theorem J9:∀{l:List D} {j:Nat} {d:D},l[j]? = some d->dpD d<=qb l
 | d::l,0,_,h=>by
  cases h
  simp only[qb]
  omega
 | d::l,j+1,e,h=>by
  have:=J9 (l:=l) (j:=j) (d:=e) h
  simp only[qb]
  omega
mutual
theorem j7:∀ d:D,eqD d d=true
 | .non=>rfl
 | .bl b=>by simp [eqD]
 | .int i=>by simp [eqD]
 | .str x=>by simp [eqD]
 | .lst l=>by simp only[eqD];exact vD l
 | .tup l=>by simp only[eqD];exact vD l
theorem vD:∀ l:List D,jm l l=true
 | []=>rfl
 | d::l=>by simp only[jm,j7 d,vD l,Bool.and_self]
end
theorem Iss.len{K:oO}{H:Hp}:∀{l:List D} {vs:List V},Iss K H l vs->vs.length=l.length
 | [],vs,h=>by simp only[Iss] at h;rw[h];rfl
 | d::l,vs,h=>by
  simp only[Iss] at h
  obtain⟨v,r,rfl,_,h2⟩:=h
  simp only[aM,Iss.len h2]
theorem Iss.at{K:oO}{H:Hp}:∀{l:List D} {vs:List V} {j:Nat} {d:D},Iss K H l vs->l[j]? = some d->∃ v,vs[j]? = some v/\Is K H d v
 | d::l,vs,0,_,h,q=>by
  cases q
  simp only[Iss] at h
  obtain⟨v,r,rfl,h1,_⟩:=h
  exact⟨v,rfl,h1⟩
 | d::l,vs,j+1,e,h,q=>by
  simp only[Iss] at h
  obtain⟨v,r,rfl,_,h2⟩:=h
  exact Iss.at (j:=j) h2 q
theorem Iss.append{K:oO}{H:Hp}:∀{l m:List D} {vs us:List V},Iss K H l vs->Iss K H m us->Iss K H (l ++ m) (vs ++ us)
 | [],m,vs,us,h,g=>by simp only[Iss] at h;rw[h];exact g
 | d::l,m,vs,us,h,g=>by
  simp only[Iss] at h
  obtain⟨v,r,rfl,h1,h2⟩:=h
  simp only[bF,Iss]
  exact⟨v,r ++ us,rfl,h1,Iss.append h2 g⟩
theorem Iss.ints{K:oO}{H:Hp}:∀(l:List Int),Iss K H (l.map D.int) (l.map V.int)
 | []=>by simp only[aN,Iss]
 | i::l=>by
  simp only[aC,Iss,Is]
  exact⟨_,_,rfl,rfl,Iss.ints l⟩
theorem zl{K:oO}{H H':Hp}{a:Addr}{xs:List V}(e:Same H H')(h:SqT K H a xs):SqT K H' a xs:=by
 rcases h with (h | ⟨o,h⟩) | h
 ·exact .inl (.inl (e _ _ h))
 ·exact .inl (.inr ⟨o,e _ _ h⟩)
 ·exact .inr h
mutual
theorem Is.same{K:oO}{H H':Hp}(e:Same H H'):∀(d:D) (v:V),Is K H d v->Is K H' d v
 | .non,v,h=>by simp only[Is] at h ⊢;exact h
 | .bl b,v,h=>by simp only[Is] at h ⊢;exact h
 | .int b,v,h=>by simp only[Is] at h ⊢;exact h
 | .str b,v,h=>by simp only[Is] at h ⊢;exact h
 | .lst l,v,h=>by
  simp only[Is] at h ⊢
  obtain⟨a,xs,e1,e2,e3⟩:=h
  exact⟨a,xs,e1,e.seq e2,Iss.same e l xs e3⟩
 | .tup l,v,h=>by
  simp only[Is] at h ⊢
  obtain⟨a,xs,e1,e2,e3⟩:=h
  exact⟨a,xs,e1,zl e e2,Iss.same e l xs e3⟩
theorem Iss.same{K:oO}{H H':Hp}(e:Same H H'):∀(l:List D) (vs:List V),Iss K H l vs->Iss K H' l vs
 | [],vs,h=>by simp only[Iss] at h ⊢;exact h
 | d::l,vs,h=>by
  simp only[Iss] at h ⊢
  obtain⟨v,r,e1,e2,e3⟩:=h
  exact⟨v,r,e1,Is.same e d v e2,Iss.same e l r e3⟩
end
theorem vz:∀(l m:List D),jm l m=((aY (min l.length m.length)).all (fun j=>eqD (l.getD j .non) (m.getD j .non)) && l.length == m.length)
 | [],[]=>rfl
 | [],e::m=>by simp [jm]
 | d::l,[]=>by simp [jm]
 | d::l,e::m=>by
  simp only[jm,vz l m,aM]
  have h1:min (l.length+1) (m.length+1)=min l.length m.length+1:=by omega
  rw[h1,eK,List.all_cons,List.all_map]
  have h2:(l.length+1 == m.length+1)=(l.length == m.length):=by
   rw[cZ,beq_iff_eq,beq_iff_eq];omega
  rw[h2]
  simp only[List.getD_cons_zero,Bool.and_assoc]
  rfl
section
variable{X:Cx}{pins:List (Addr × Obj)}{σ:St}{H:Hp}{s:Shared}
theorem Zy{a:Addr}{xs ys:List V}(I:Inv X pins σ H s)(h:SqL X.K H a xs)(g:SqT X.K H a ys):False:=by
 obtain⟨its,r,⟨o,n,e,c,_,d⟩,_⟩:=I.list h
 obtain⟨its',r',⟨o',e',c',n',d'⟩,_⟩:=I.tuple g
 rw[e] at e'
 cases e'
 rw[c] at c'
 exact absurd (Value.type.inj c') (by decide)
mutual
theorem V9(I:Inv X pins σ H s):∀(d e:D) (v:V),Is X.K H d v->Is X.K H e v->d=e
 | .lst l,.lst m,v,h,g=>by
  simp only[Is] at h g
  obtain⟨a,xs,rfl,h1,h2⟩:=h
  obtain⟨b,ys,e,g1,g2⟩:=g
  cases e
  have:=I.list_inj h1 g1
  subst this
  rw[YG I l m xs h2 g2]
 | .tup l,.tup m,v,h,g=>by
  simp only[Is] at h g
  obtain⟨a,xs,rfl,h1,h2⟩:=h
  obtain⟨b,ys,e,g1,g2⟩:=g
  cases e
  have:=I.tuple_inj h1 g1
  subst this
  rw[YG I l m xs h2 g2]
 | .lst l,.tup m,v,h,g=>by
  simp only[Is] at h g
  obtain⟨a,xs,rfl,h1,h2⟩:=h
  obtain⟨b,ys,e,g1,g2⟩:=g
  cases e
  exact (Zy I h1 g1).elim
 | .tup l,.lst m,v,h,g=>by
  simp only[Is] at h g
  obtain⟨a,xs,rfl,h1,h2⟩:=h
  obtain⟨b,ys,e,g1,g2⟩:=g
  cases e
  exact (Zy I g1 h1).elim
 | .lst l,.non,v,h,g=>by simp only[Is] at h g;obtain⟨a,xs,rfl,_⟩:=h;cases g
 | .lst l,.bl _,v,h,g=>by simp only[Is] at h g;obtain⟨a,xs,rfl,_⟩:=h;cases g
 | .lst l,.int _,v,h,g=>by simp only[Is] at h g;obtain⟨a,xs,rfl,_⟩:=h;cases g
 | .lst l,.str _,v,h,g=>by simp only[Is] at h g;obtain⟨a,xs,rfl,_⟩:=h;cases g
 | .tup l,.non,v,h,g=>by simp only[Is] at h g;obtain⟨a,xs,rfl,_⟩:=h;cases g
 | .tup l,.bl _,v,h,g=>by simp only[Is] at h g;obtain⟨a,xs,rfl,_⟩:=h;cases g
 | .tup l,.int _,v,h,g=>by simp only[Is] at h g;obtain⟨a,xs,rfl,_⟩:=h;cases g
 | .tup l,.str _,v,h,g=>by simp only[Is] at h g;obtain⟨a,xs,rfl,_⟩:=h;cases g
 | .non,e,v,h,g=>by
  simp only[Is] at h
  subst h
  cases e <;> simp only[Is] at g
  all_goals first | rfl | (obtain⟨a,xs,q,_⟩:=g;cases q) | cases g
 | .bl _,e,v,h,g=>by
  simp only[Is] at h
  subst h
  cases e <;> simp only[Is] at g
  all_goals first | (cases g;rfl) | (obtain⟨a,xs,q,_⟩:=g;cases q) | cases g
 | .int _,e,v,h,g=>by
  simp only[Is] at h
  subst h
  cases e <;> simp only[Is] at g
  all_goals first | (cases g;rfl) | (obtain⟨a,xs,q,_⟩:=g;cases q) | cases g
 | .str _,e,v,h,g=>by
  simp only[Is] at h
  subst h
  cases e <;> simp only[Is] at g
  all_goals first | (cases g;rfl) | (obtain⟨a,xs,q,_⟩:=g;cases q) | cases g
theorem YG(I:Inv X pins σ H s):∀(l m:List D) (vs:List V),Iss X.K H l vs->Iss X.K H m vs->l=m
 | [],[],_,_,_=>rfl
 | [],e::m,vs,h,g=>by
  simp only[Iss] at h g
  subst h
  obtain⟨_,_,q,_⟩:=g
  cases q
 | d::l,[],vs,h,g=>by
  simp only[Iss] at h g
  subst g
  obtain⟨_,_,q,_⟩:=h
  cases q
 | d::l,e::m,vs,h,g=>by
  simp only[Iss] at h g
  obtain⟨v,r,rfl,h1,h2⟩:=h
  obtain⟨v',r',q,g1,g2⟩:=g
  cases q
  rw[V9 I d e v h1 g1,YG I l m r h2 g2]
end
theorem xX:∀{xs:List V} {us:List Value} {j:Nat} {x:V},Vals xs us->xs[j]? = some x->∃ u,us[j]? = some u/\RelV x u
 | _,_,0,_,.cons r t,h=>by cases h;exact⟨_,rfl,r⟩
 | _,_,j+1,_,.cons r t,h=>xX (j:=j) t h
theorem wZ{l m:List D}{xs ys:List V}{its its':List Value}{A:Around}{n:Nat}(hl:Iss X.K H l xs)(hm:Iss X.K H m ys)(r:Vals xs its)(r':Vals ys its')(hn:qb l<n)
  (ih:∀(d e:D) (x y:V) (u v:Value),dpD d<n->Is X.K H d x->Is X.K H e y->RelV x u->RelV y v->SeqAt.EqAt A s u v (eqD d e)) :
  ∀ j (h1:j<its.toArray.size) (h2:j<its'.toArray.size),SeqAt.EqAt A s its.toArray[j] its'.toArray[j] (eqD (l.getD j .non) (m.getD j .non)):=by
 intro j h1 h2
 rw[ao] at h1 h2
 have e1:=hl.len
 have e2:=hm.len
 have e3:=r.length
 have e4:=r'.length
 have g1:l[j]? = some l[j]:=al (by omega)
 have g2:m[j]? = some m[j]:=al (by omega)
 generalize l[j]=d at g1
 generalize m[j]=e at g2
 obtain⟨x,hx,ix⟩:=hl.at g1
 obtain⟨y,hy,iy⟩:=hm.at g2
 obtain⟨u,hu,ru⟩:=xX r hx
 obtain⟨v,hv,rv⟩:=xX r' hy
 have q1:its.toArray[j]=u:=by
  have:=(List.getElem?_eq_some_iff.mp hu).2
  simpa using this
 have q2:its'.toArray[j]=v:=by
  have:=(List.getElem?_eq_some_iff.mp hv).2
  simpa using this
 rw[q1,q2,ac,ac,g1,g2]
 exact ih d e x y u v (cp (J9 g1) hn) ix iy ru rv
theorem Zv(I:Inv X pins σ H s):∀(n:Nat) (A:Around) (d e:D) (x y:V) (u v:Value),A.units+n<cLine->dpD d<n->Is X.K H d x->Is X.K H e y->RelV x u->RelV y v->SeqAt.EqAt A s u v (eqD d e):=by
 intro n
 induction n with
 | zero=>intro A d e x y u v _ h;exact absurd h (cL _)
 | succ n ih =>
  intro A d e x y u v hu hd hx hy rx ry
  have hu1:A.units<cLine:=by omega
  have huA:A.in1.units+n<cLine:=by show A.units+1+n<cLine;omega
  cases d with
  | lst l =>
   simp only[Is] at hx
   obtain⟨a,xs,rfl,h1,h2⟩:=hx
   cases rx
   obtain⟨its,r,p,_⟩:=I.list h1
   cases e with
   | non=>simp only[Is] at hy;subst hy;cases ry;exact SeqAt.EqAt.list_none p.isList hu1
   | bl b=>simp only[Is] at hy;subst hy;cases ry;exact SeqAt.EqAt.list_bool b p.isList hu1
   | int b=>simp only[Is] at hy;subst hy;obtain⟨t,rfl⟩:=ry;exact SeqAt.EqAt.list_int b t p.isList hu1
   | str b=>simp only[Is] at hy;subst hy;obtain⟨t,rfl⟩:=ry;exact SeqAt.EqAt.list_str b t p.isList hu1
   | tup m =>
    simp only[Is] at hy
    obtain⟨b,ys,rfl,g1,g2⟩:=hy
    cases ry
    obtain⟨its',r',p',_⟩:=I.tuple g1
    exact SeqAt.EqAt.list_tuple p.isList p' hu1
   | lst m =>
    have hy':=hy
    simp only[Is] at hy
    obtain⟨b,ys,rfl,g1,g2⟩:=hy
    cases ry
    obtain⟨its',r',p',_⟩:=I.list g1
    simp only[dpD] at hd
    by_cases hab:a=b
    ·subst hab
     have:=V9 I (.lst l) (.lst m) (.ref a) (by simp only[Is];exact⟨a,xs,rfl,h1,h2⟩) hy'
     rw[this,j7]
     exact SeqAt.EqAt.same _
    ·refine .of_refs hab ?_
     simp only[eqD]
     have L1:=h2.len
     have L2:=g2.len
     have L3:=r.length
     have L4:=r'.length
     by_cases hl:l.length=m.length
     ·have:=SeqAt.RcAt.lists (A:=A) p.isList p'.isList (by simp only[ao];omega) hu1 (wZ h2 g2 r r' (n:=n) (by omega) fun d e x y u v q1 q2 q3 q4 q5=>ih A.in1 d e x y u v huA q1 q2 q3 q4 q5)
      rw[vz,hl,e7,beq_self_eq_true,eV]
      have e1:its.toArray.size=m.length:=by simp only[ao];omega
      rw[e1] at this
      exact this
     ·rw[vz,beq_eq_false_iff_ne.mpr hl,eN]
      exact SeqAt.RcAt.lists_lengths p.isList p'.isList (by rw[bne_iff_ne];simp only[ao];omega) hu1
  | tup l =>
   simp only[Is] at hx
   obtain⟨a,xs,rfl,h1,h2⟩:=hx
   cases rx
   obtain⟨its,r,p,_⟩:=I.tuple h1
   cases e with
   | non=>simp only[Is] at hy;subst hy;cases ry;exact SeqAt.EqAt.tuple_none p hu1
   | bl b=>simp only[Is] at hy;subst hy;cases ry;exact SeqAt.EqAt.tuple_bool b p hu1
   | int b=>simp only[Is] at hy;subst hy;obtain⟨t,rfl⟩:=ry;exact SeqAt.EqAt.tuple_int b t p hu1
   | str b=>simp only[Is] at hy;subst hy;obtain⟨t,rfl⟩:=ry;exact SeqAt.EqAt.tuple_str b t p hu1
   | lst m =>
    simp only[Is] at hy
    obtain⟨b,ys,rfl,g1,g2⟩:=hy
    cases ry
    obtain⟨its',r',p',_⟩:=I.list g1
    exact SeqAt.EqAt.tuple_list p p'.isList hu1
   | tup m =>
    have hy':=hy
    simp only[Is] at hy
    obtain⟨b,ys,rfl,g1,g2⟩:=hy
    cases ry
    obtain⟨its',r',p',_⟩:=I.tuple g1
    simp only[dpD] at hd
    by_cases hab:a=b
    ·subst hab
     have:=V9 I (.tup l) (.tup m) (.ref a) (by simp only[Is];exact⟨a,xs,rfl,h1,h2⟩) hy'
     rw[this,j7]
     exact SeqAt.EqAt.same _
    ·refine .of_refs hab ?_
     simp only[eqD]
     have L1:=h2.len
     have L2:=g2.len
     have L3:=r.length
     have L4:=r'.length
     have:=SeqAt.RcAt.tuples (A:=A) p p' hu1 (wZ h2 g2 r r' (n:=n) (by omega) fun d e x y u v q1 q2 q3 q4 q5=>ih A.in1 d e x y u v huA q1 q2 q3 q4 q5)
     rw[vz]
     simp only[ao] at this
     rw[<- L1,<- L2,L3,L4]
     exact this
  | non =>
   simp only[Is] at hx
   subst hx
   cases e with
   | lst m =>
    simp only[Is] at hy
    obtain⟨b,ys,rfl,g1,g2⟩:=hy
    cases rx;cases ry
    obtain⟨its',r',p',_⟩:=I.list g1
    exact SeqAt.EqAt.none_list p'.isList hu1
   | tup m =>
    simp only[Is] at hy
    obtain⟨b,ys,rfl,g1,g2⟩:=hy
    cases rx;cases ry
    obtain⟨its',r',p',_⟩:=I.tuple g1
    exact SeqAt.EqAt.none_tuple p' hu1
   | _=>simp only[Is] at hy;subst hy;exact Xe rx ry rfl rfl
  | bl c =>
   simp only[Is] at hx
   subst hx
   cases e with
   | lst m =>
    simp only[Is] at hy
    obtain⟨b,ys,rfl,g1,g2⟩:=hy
    cases rx;cases ry
    obtain⟨its',r',p',_⟩:=I.list g1
    exact SeqAt.EqAt.bool_list _ p'.isList hu1
   | tup m =>
    simp only[Is] at hy
    obtain⟨b,ys,rfl,g1,g2⟩:=hy
    cases rx;cases ry
    obtain⟨its',r',p',_⟩:=I.tuple g1
    exact SeqAt.EqAt.bool_tuple _ p' hu1
   | _=>simp only[Is] at hy;subst hy;exact Xe rx ry rfl rfl
  | int c =>
   simp only[Is] at hx
   subst hx
   cases e with
   | lst m =>
    simp only[Is] at hy
    obtain⟨b,ys,rfl,g1,g2⟩:=hy
    obtain⟨t,rfl⟩:=rx;cases ry
    obtain⟨its',r',p',_⟩:=I.list g1
    exact SeqAt.EqAt.int_list _ _ p'.isList hu1
   | tup m =>
    simp only[Is] at hy
    obtain⟨b,ys,rfl,g1,g2⟩:=hy
    obtain⟨t,rfl⟩:=rx;cases ry
    obtain⟨its',r',p',_⟩:=I.tuple g1
    exact SeqAt.EqAt.int_tuple _ _ p' hu1
   | _=>simp only[Is] at hy;subst hy;exact Xe rx ry rfl rfl
  | str c =>
   simp only[Is] at hx
   subst hx
   cases e with
   | lst m =>
    simp only[Is] at hy
    obtain⟨b,ys,rfl,g1,g2⟩:=hy
    obtain⟨t,rfl⟩:=rx;cases ry
    obtain⟨its',r',p',_⟩:=I.list g1
    exact SeqAt.EqAt.str_list _ _ p'.isList hu1
   | tup m =>
    simp only[Is] at hy
    obtain⟨b,ys,rfl,g1,g2⟩:=hy
    obtain⟨t,rfl⟩:=rx;cases ry
    obtain⟨its',r',p',_⟩:=I.tuple g1
    exact SeqAt.EqAt.str_tuple _ _ p' hu1
   | _=>simp only[Is] at hy;subst hy;exact Xe rx ry rfl rfl
def zcK(K:oO):R2:=fun x y H Q=>∃ l m,((Is K H (.lst l) x/\Is K H (.lst m) y)\/(Is K H (.tup l) x/\Is K H (.tup m) y))/\qb l<50/\Q (.bl (jm l m)) H
theorem Jc(hu:X.A.units+100<cLine):OpR X (compareOp .Eq) (zcK X.K):=by
 intro pins s σ H x y v u Q I rx ry h
 obtain⟨l,m,hh,hd,q⟩:=h
 have hu1:X.A.units<cLine:=by omega
 have huA:X.A.in1.units+50<cLine:=by show X.A.units+1+50<cLine;omega
 rcases hh with ⟨hx,hy⟩ | ⟨hx,hy⟩
 ·simp only[Is] at hx hy
  obtain⟨a,xs,rfl,h1,h2⟩:=hx
  obtain⟨b,ys,rfl,g1,g2⟩:=hy
  cases rx;cases ry
  obtain⟨its,r,p,_⟩:=I.list h1
  obtain⟨its',r',p',_⟩:=I.list g1
  have L1:=h2.len
  have L2:=g2.len
  have L3:=r.length
  have L4:=r'.length
  by_cases hl:l.length=m.length
  ·have:=SeqAt.RcAt.lists (A:=X.A) p.isList p'.isList (by simp only[ao];omega) hu1 (wZ h2 g2 r r' (n:=50) hd fun d e x y u v q1 q2 q3 q4 q5=>Zv I 50 X.A.in1 d e x y u v huA q1 q2 q3 q4 q5)
   have e1:its.toArray.size=m.length:=by simp only[ao];omega
   rw[e1] at this
   rw[vz,hl,e7,beq_self_eq_true,eV] at q
   exact this X.prog X.w X.xe _ ⟨.bl _,H,I,rfl,q⟩
  ·rw[vz,beq_eq_false_iff_ne.mpr hl,eN] at q
   exact SeqAt.RcAt.lists_lengths p.isList p'.isList (by rw[bne_iff_ne];simp only[ao];omega) hu1 X.prog X.w X.xe _ ⟨.bl _,H,I,rfl,q⟩
 ·simp only[Is] at hx hy
  obtain⟨a,xs,rfl,h1,h2⟩:=hx
  obtain⟨b,ys,rfl,g1,g2⟩:=hy
  cases rx;cases ry
  obtain⟨its,r,p,_⟩:=I.tuple h1
  obtain⟨its',r',p',_⟩:=I.tuple g1
  have L1:=h2.len
  have L2:=g2.len
  have L3:=r.length
  have L4:=r'.length
  have:=SeqAt.RcAt.tuples (A:=X.A) p p' hu1 (wZ h2 g2 r r' (n:=50) hd fun d e x y u v q1 q2 q3 q4 q5=>Zv I 50 X.A.in1 d e x y u v huA q1 q2 q3 q4 q5)
  simp only[ao] at this
  rw[vz,<- L1,<- L2,L3,L4] at q
  exact this X.prog X.w X.xe _ ⟨.bl _,H,I,rfl,q⟩
end
theorem Z3(l m:List Int):jm (l.map D.int) (m.map D.int)=decide (l=m):=by
 induction l generalizing m with
 | nil=>cases m <;> simp [jm]
 | cons a l ih =>
  cases m with
  | nil=>simp [jm]
  | cons b m =>
   simp only[aC,jm,eqD,ih m]
   by_cases h1:a=b
   ·subst h1
    by_cases h2:l=m
    ·simp [h2]
    ·simp [h2]
   ·simp [h1]
theorem Yn(l:List Int):qb (l.map D.int)=0:=by
 induction l with
 | nil=>rfl
 | cons a l ih=>simp only[aC,qb,dpD,ih];rfl
abbrev CNx(n i:Nat)(Pv:Nat->List V->Hp->Prop)(acc:List V)(H:Hp):Prop:=∃ m',m'<n - i/\(m'=n - (i+1)/\i+1<=n/\Pv (i+1) acc H)
theorem CNx.mk{n i:Nat}{Pv:Nat->List V->Hp->Prop}{acc:List V}{H:Hp}(hi:i<n)(h:Pv (i+1) acc H):CNx n i Pv acc H:=⟨n - (i+1),by omega,rfl,hi,h⟩
def XX(J:It)(g:TG)(tt:TT)(te:TE)(own:Nat)(ix:List Nat)(σ:St)(H1:Hp)(Q:VK)(D:Addr):Prop:=∃ W:Nat->Nat->List V->Hp->Prop,(∃ m,W 0 m [] (upd H1 D (.lst []))) /\
 ∀ i m acc H',W i m acc H'->(J.stop i H'/\Q (.ref D) H')\/(J.go i H'/\∀ x H2,J.yld i H' x H2->g x (vj σ own ix) H2 fun σ3 H3=>xu (vj σ own ix) σ3/\tt σ3 H3 fun b H4=>if b=true then
  te σ3 H4 fun v H5=>H5 D=some (.lst acc)/\acc.length<oN/\∃ m',m'<m/\W (i+1) m' (acc ++ [v]) (upd H5 D (.lst (acc ++ [v])))
  else ∃ m',m'<m/\W (i+1) m' acc H4)
def CompR(lo:Int)(n:Nat)(g:TG)(tt:TT)(te:TE)(own:Nat)(ix:List Nat)(σ:St)(H1:Hp)(Q:VK)(D:Addr):Prop:=XX (Itr lo n) g tt te own ix σ H1 Q D
def CompL(K:oO)(a:Addr)(g:TG)(tt:TT)(te:TE)(own:Nat)(ix:List Nat)(σ:St)(H1:Hp)(Q:VK)(D:Addr):Prop:=XX (Itl K a) g tt te own ix σ H1 Q D
def CompS(x:Str)(g:TG)(tt:TT)(te:TE)(own:Nat)(ix:List Nat)(σ:St)(H1:Hp)(Q:VK)(D:Addr):Prop:=XX (Its x) g tt te own ix σ H1 Q D
theorem zaZ{ta:TA}{g:TG}{tt:TT}{te:TE}{own:Nat}{ix:List Nat}{σ:St}{H:Hp}{Q:VK}:j9 (Ki ta) g tt te own ix σ H Q=ta σ H fun vs H1=>∃ j:Int,vs=[.int j]/\-(2 ^ 62)<=j/\j<2 ^ 62/\∀ D,H1 D=none->CompR 0 j.toNat g tt te own ix σ H1 Q D:=rfl
theorem zbT{K:oO}{tl:TE}{g:TG}{tt:TT}{te:TE}{own:Nat}{ix:List Nat}{σ:St}{H:Hp}{Q:VK}:j9 (Kh K tl) g tt te own ix σ H Q=tl σ H fun x H1=>∃ a,x=.ref a/\(∃ xs,SqL K H1 a xs)/\∀ D,H1 D=none->CompL K a g tt te own ix σ H1 Q D:=rfl
theorem zbN{tl:TE}{g:TG}{tt:TT}{te:TE}{own:Nat}{ix:List Nat}{σ:St}{H:Hp}{Q:VK}:j9 (zcv tl) g tt te own ix σ H Q=tl σ H fun v H1=>∃ x,v=.str x/\∀ D,H1 D=none->CompS x g tt te own ix σ H1 Q D:=rfl
section
variable{g:TG}{tt:TT}{te:TE}{own:Nat}{ix:List Nat}{σ:St}{H1:Hp}{Q:VK}{D:Addr}
theorem CompR.by{lo:Int}{n:Nat}(Pv:Nat->List V->Hp->Prop)(h0:Pv 0 [] (upd H1 D (.lst [])))
  (hs:∀ i acc H',i<n->Pv i acc H'->g (.int (lo+i)) (vj σ own ix) H' fun σ3 H3=>xu (vj σ own ix) σ3/\tt σ3 H3 fun b H4=>if b=true then
   te σ3 H4 fun v H5=>H5 D=some (.lst acc)/\acc.length<oN/\CNx n i Pv (acc ++ [v]) (upd H5 D (.lst (acc ++ [v]))) else CNx n i Pv acc H4)
  (hd:∀ acc H',Pv n acc H'->Q (.ref D) H'):CompR lo n g tt te own ix σ H1 Q D:=by
 refine⟨fun i m acc H=>m=n - i/\i<=n/\Pv i acc H,⟨n,by simp,aJ _,h0⟩,?_⟩
 rintro i m acc H' ⟨rfl,hi,p⟩
 by_cases hlt:i<n
 ·refine .inr ⟨hlt,fun x H2 y=>?_⟩
  obtain⟨e,y⟩:=y
  subst e y
  exact hs i acc _ hlt p
 ·have e:i=n:=by omega
  subst e
  exact .inl ⟨au _,hd acc H' p⟩
theorem CompL.by{K:oO}{a:Addr}{xs:List V}(Pv:Nat->List V->Hp->Prop)(h0:Pv 0 [] (upd H1 D (.lst [])))(hl:∀ i acc H',i<=xs.length->Pv i acc H'->SqL K H' a xs)
  (hs:∀ i x acc H',xs[i]? = some x->Pv i acc H'->g x (vj σ own ix) H' fun σ3 H3=>xu (vj σ own ix) σ3/\tt σ3 H3 fun b H4=>if b=true then
   te σ3 H4 fun v H5=>H5 D=some (.lst acc)/\acc.length<oN/\CNx xs.length i Pv (acc ++ [v]) (upd H5 D (.lst (acc ++ [v]))) else CNx xs.length i Pv acc H4)
  (hd:∀ acc H',Pv xs.length acc H'->Q (.ref D) H'):CompL K a g tt te own ix σ H1 Q D:=by
 refine⟨fun i m acc H=>m=xs.length - i/\i<=xs.length/\Pv i acc H,⟨xs.length,by simp,aJ _,h0⟩,?_⟩
 rintro i m acc H' ⟨rfl,hi,p⟩
 have q:=hl i acc H' hi p
 by_cases hlt:i<xs.length
 ·refine .inr ⟨⟨xs,xs[i],q,by simp [hlt]⟩,fun x H2 y=>?_⟩
  obtain⟨e,y⟩:=y
  subst e
  exact hs i x acc _ (y xs q) p
 ·have e:i=xs.length:=by omega
  subst e
  exact .inl ⟨⟨xs,q,au _⟩,hd acc H' p⟩
theorem CompS.by{l:List Nat}(Pv:Nat->List V->Hp->Prop)(h0:Pv 0 [] (upd H1 D (.lst [])))
  (hs:∀ i c acc H',l[i]? = some c->Pv i acc H'->g (.str (tx [c])) (vj σ own ix) H' fun σ3 H3=>xu (vj σ own ix) σ3/\tt σ3 H3 fun b H4=>if b=true then
   te σ3 H4 fun v H5=>H5 D=some (.lst acc)/\acc.length<oN/\CNx l.length i Pv (acc ++ [v]) (upd H5 D (.lst (acc ++ [v]))) else CNx l.length i Pv acc H4)
  (hd:∀ acc H',Pv l.length acc H'->Q (.ref D) H'):CompS (tx l) g tt te own ix σ H1 Q D:=by
 refine⟨fun i m acc H=>m=l.length - i/\i<=l.length/\Pv i acc H,⟨l.length,by simp,aJ _,h0⟩,?_⟩
 rintro i m acc H' ⟨rfl,hi,p⟩
 by_cases hlt:i<l.length
 ·refine .inr ⟨hlt,fun v H2 y=>?_⟩
  obtain⟨e,c,hc,ev⟩:=y
  subst e ev
  exact hs i c acc _ hc p
 ·have e:i=l.length:=by omega
  subst e
  exact .inl ⟨rfl,hd acc H' p⟩
end
theorem wD{x:V}{r:St}:xu (none::r) (some x::r):=⟨rfl,fun i v h=>by
 cases i with
 | zero=>cases h
 | succ i=>exact h⟩
theorem yb{X:Cx}{scope sc:Scope}{own caps:List Str}{ix:List Nat}(h1:scope.kind=.function)(h2:scope.names.all (fun y=>y.2 != .cell)=true)(h3:scope.names.all (fun y=>y.2 != .local || scope.names.lookup y.1 == some .local)=true)
  (h4:scope.names.all (fun y=>y.2 != .free || sc.names.lookup y.1 == some .cell)=true) (hsc:X.env.scope=sc) (h5:own.all (fun y=>scope.names.lookup y == some .local)=true) (h6:caps.all (fun y=>scope.names.lookup y == some .free)=true) (h7:ix.map (fun i=>X.N[i]?)=caps.map some):qO X scope own caps ix:=by
 refine⟨h1,fun y hy=>?_,fun y hy e=>?_,fun y hy=>?_,fun y hy=>?_,fun y hy=>?_,h7⟩
 ·have:=List.all_eq_true.mp h2 y hy
  simpa using this
 ·have:=List.all_eq_true.mp h3 y hy
  rw[e] at this
  simpa using this
 ·have:=List.all_eq_true.mp h4 _ hy
  have:=by simpa using this
  show X.env.scope.names.lookup y=some .cell
  rw[hsc]
  exact this
 ·have:=List.all_eq_true.mp h5 y hy
  simpa using this
 ·have:=List.all_eq_true.mp h6 y hy
  simpa using this
theorem kL{α:Type}(l:List α){a b:Int}(h0:0<=a)(h1:a<=b)(h2:b<=l.length):cut l (some a) (some b)=(l.drop a.toNat).take (b - a).toNat:=by
 obtain⟨m,rfl⟩:=bE h0
 obtain⟨n,rfl⟩:=bE (by omega:0<=b)
 unfold cut
 rw[HT.sIx_nat,HT.sIx_nat,cy (by omega),cy (by omega)]
 have:((n:Int) - (m:Int)).toNat=n - m:=by omega
 rw[this]
 rfl
theorem Yi{k:Nat}{A:Around}(r:Room k A):A.units+100<cLine:=by have:=r.un;omega
end L3
namespace L3
theorem WC{K:oO}{x y:V}{H:Hp}{Q:VK}{l m:List D}(h:(Is K H (.lst l) x/\Is K H (.lst m) y)\/(Is K H (.tup l) x/\Is K H (.tup m) y))(hd:qb l<50)(q:Q (.bl (jm l m)) H):zcK K x y H Q:=⟨l,m,h,hd,q⟩
def zcP(t u:TS):TS:=fun D σ H=>∃ R:St->Hp->Prop,t { D with nx:=R } σ H/\∀ σ' H',R σ' H'->u D σ' H'
theorem zi{X:Cx}{st:Stmt}{rest:List Stmt}{t u:TS}(h1:PS X st t)(h2:PSs X rest u):PSs X (st::rest) (zcP t u):=by
 intro pins s σ H D I h
 obtain⟨R,h,hr⟩:=h
 refine wpAny_execs_cons (thn (h1 pins s σ H { D with nx:=R } I h) fun f s1 q=>?_)
 cases f with
 | next =>
  obtain⟨σ',H',I',q⟩:=q
  exact h2 pins s1 σ' H' D I' (hr _ _ q)
 | ret v=>exact q
 | brk=>exact q
 | cont=>exact q
theorem zj{t u:TS}{D:vp}{σ:St}{H:Hp}(R:St->Hp->Prop)(h:t { D with nx:=R } σ H)(hr:∀ σ' H',R σ' H'->u D σ' H'):zcP t u D σ H:=⟨R,h,hr⟩
theorem zG{H H':Hp}{a:Addr}{o:HO}(h:Same H H')(e:H a=none):Same H (upd H' a o):=fun b u q=>by
 rw[zo (zH q e)]
 exact h b u q
theorem ForL.by{K:oO}{a:Addr}{xs:List V}{g:TG}{tb:TS}{D:vp}{σ:St}{H:Hp}(Pv:Nat->St->Hp->Prop)(h0:Pv 0 σ H)(hl:∀ i σ H,i<=xs.length->Pv i σ H->SqL K H a xs)
  (hs:∀ i x σ H,xs[i]? = some x->Pv i σ H->g x σ H fun σ2 H2=>tb { D with nx:=Pv (i+1),ct:=Pv (i+1),bk:=D.nx } σ2 H2) (hd:∀ σ H,Pv xs.length σ H->D.nx σ H):ForL K a g tb D σ H:=U0 Pv h0 hl hs hd
theorem UA{A B:Prop}(h:B):if true=false then A else B:=by rw[if_neg (by decide)];exact h
def CompV(K:oO)(a:Addr)(n:Nat)(g:TG)(tt:TT)(te:TE)(own:Nat)(ix:List Nat)(σ:L2.St)(H1:Hp)(Q:VK)(D:Addr):Prop:=XX (Irv K a n) g tt te own ix σ H1 Q D
theorem zcr{K:oO}{ta:TA}{g:TG}{tt:TT}{te:TE}{own:Nat}{ix:List Nat}{σ:L2.St}{H:Hp}{Q:VK}:j9 (zcS K ta) g tt te own ix σ H Q=ta σ H fun vs H1=>∃ a xs,vs=[.ref a]/\SqL K H1 a xs/\∀ D,H1 D=none->CompV K a xs.length g tt te own ix σ H1 Q D:=rfl
theorem CompV.by{K:oO}{a:Addr}{xs:List V}{g:TG}{tt:TT}{te:TE}{own:Nat}{ix:List Nat}{σ:L2.St}{H1:Hp}{Q:VK}{D:Addr}(Pv:Nat->List V->Hp->Prop)(h0:Pv 0 [] (upd H1 D (.lst [])))(hl:∀ i acc H',i<=xs.length->Pv i acc H'->SqL K H' a xs)
  (hs:∀ i x acc H',xs.reverse[i]? = some x->Pv i acc H'->g x (vj σ own ix) H' fun σ3 H3=>xu (vj σ own ix) σ3/\tt σ3 H3 fun b H4=>if b=true then
   te σ3 H4 fun v H5=>H5 D=some (.lst acc)/\acc.length<oN/\CNx xs.length i Pv (acc ++ [v]) (upd H5 D (.lst (acc ++ [v]))) else CNx xs.length i Pv acc H4)
  (hd:∀ acc H',Pv xs.length acc H'->Q (.ref D) H'):CompV K a xs.length g tt te own ix σ H1 Q D:=by
 refine⟨fun i m acc H=>m=xs.length - i/\i<=xs.length/\Pv i acc H,⟨xs.length,by simp,aJ _,h0⟩,?_⟩
 rintro i m acc H' ⟨rfl,hi,p⟩
 have q:=hl i acc H' hi p
 by_cases hlt:i<xs.length
 ·refine .inr ⟨⟨xs,q,rfl,hlt⟩,fun x H2 y=>?_⟩
  obtain⟨e,y⟩:=y
  subst e
  refine hs i x acc _ ?_ p
  rw[bL hlt]
  exact y xs q rfl
 ·have e:i=xs.length:=by omega
  subst e
  exact .inl ⟨rfl,hd acc H' p⟩
end L3
namespace L3
section
variable{X:Cx}
theorem Xj:∀{bs:List Bool} {its:List Value} {i:Nat} {v:Value},Vals (bs.map V.bl) its->its[i]? = some v->v=.bool (bs.getD i false)
 | [],_,_,_,.nil,h=>by cases h
 | b::bs,_,0,v,.cons r t,h=>by
  cases r
  cases h
  rfl
 | b::bs,_,i+1,v,.cons r t,h=>Xj (bs:=bs) (i:=i) t h
end
end L3
namespace L3
section
variable{M:Model}{A:Around}{E:Value->Shared->Prop}{s:Shared}{base:Heap}{env env0:Env}{outer:List Env}{L x t C:Addr}{dx:Option Addr}
theorem zaR{tb:Value}{Q:Unit->Shared->Prop}(hfr:A.frames=some (env0::outer))(hl:s.heap.FunFrames base (env0::outer))(hf:env0.frame=some L)(he:env.frame=some L)
  (hx:s.heap.get? x=some (xob C dx t tb)) (htb:Kw s.heap x tb)
  (h:∀ h' T oT ts,h'.get? x=some (xob C dx t (.ref T))->T≠x->(tb=.ref T\/s.heap.objs.size<=T)->h'.get? T=some oT->oT.data=.fields ts->3<ts.size ->
   (∀ b o,b≠x->tb≠.ref b->b ∉ frs (env0::outer)->s.heap.get? b=some o->h'.get? b=some o)->(∀ b o,b≠x->tb≠.ref b->s.heap.get? b=some o->∃ sl,h'.get? b=some { o with slots:=sl })->Q () { s with heap:=h' }) :
  wpAny M A (noteFrame (.ref x) env) Q E s:=by
 have land:∀(h1:Heap) (T:Addr) (oT:Obj) (ts:Array Value),h1.get? x=some (xob C dx t (.ref T))->T≠x->(tb=.ref T\/s.heap.objs.size<=T)->h1.get? T=some oT->oT.data=.fields ts->3<ts.size ->
   (∀ b o,b≠x->tb≠.ref b->b ∉ frs (env0::outer)->s.heap.get? b=some o->h1.get? b=some o)->(∀ b o,b≠x->tb≠.ref b->s.heap.get? b=some o->∃ sl,h1.get? b=some { o with slots:=sl }) ->
   Q () { s with heap:=h1 }:=fun h1 T oT ts e1 nT oldT e2 d2 z2 k1 k2=>h h1 T oT ts e1 nT oldT e2 d2 z2 k1 k2
 unfold noteFrame
 simp only[he]
 refine oH (wpAny_field hx rfl (x:=tb) rfl ?_)
 rcases htb with rfl | ⟨T,oT,ts,rfl,nT,e2,d2,z2⟩
 ·rw[if_neg (by decide)]
  refine kn hfr hl hf he hx fun h' oT ts e1 ne e2 d2 z2 k1 k2=>land h' _ oT ts e1 ne (.inr (au _)) e2 d2 z2 (fun b o hb _ hbf e=>k1 b o hb hbf e) fun b o hb _ e=>k2 b o hb e
 ·rw[if_pos (show (Value.ref T != Value.none)=true from by simp)]
  obtain⟨y,hy⟩:∃ y,ts[3]? = some y:=⟨ts[3],by simp [z2]⟩
  refine oH (wpAny_field e2 d2 (x:=y) hy ?_)
  by_cases c:(y == rawInt L)=true
  ·rw[if_pos c]
   exact oJ (land s.heap T oT ts hx nT (.inl rfl) e2 d2 z2 (fun b o _ _ _ e=>e) fun b o _ _ e=>⟨o.slots,e⟩)
  ·rw[if_neg c]
   refine oH (wpAny_setField e2 d2 z2 ?_)
   have oth:∀ b,b≠T->(s.heap.update T (Obj.mapFields (·.setIfInBounds 3 Value.none))).get? b=s.heap.get? b:=fun b hb=>aL _ _ (Ne.symm hb)
   have hl1:(s.heap.update T (Obj.mapFields (·.setIfInBounds 3 Value.none))).FunFrames base (env0::outer):=hl.of_keeps fun b o hb hnf=>⟨o,(oth b fun q=>by rw[q,e2] at hb;cases hb;exact hnf ts d2).trans hb,rfl⟩
   have hsz:(s.heap.update T (Obj.mapFields (·.setIfInBounds 3 Value.none))).objs.size=s.heap.objs.size:=dn ..
   refine kn (s:={ s with heap:=s.heap.update T (Obj.mapFields (·.setIfInBounds 3 Value.none)) }) hfr hl1 hf he ((oth x (Ne.symm nT)).trans hx) fun h' oT' ts' e1 ne e2' d2' z2' k1 k2=>?_
   refine land h' _ oT' ts' e1 ne (.inr (by rw[hsz];exact au _)) e2' d2' z2' (fun b o hb hbt hbf e=>k1 b o hb hbf ((oth b fun q=>hbt (by rw[q])).trans e)) fun b o hb hbt e=>k2 b o hb ((oth b fun q=>hbt (by rw[q])).trans e)
end
section
variable{X:Cx}{pins:List (Addr × Obj)}{σ:St}{H1:Hp}{s1:Shared}
theorem Inv.noted{h':Heap}{x T:Addr}{tb:Value}(I1:Inv X pins σ H1 s1)(hst:X.stack=X.env::X.outer)(fx:wa X pins H1 x)(fT:∀ T,tb=.ref T->wa X pins H1 T)(fT':wa X pins H1 T)
  (k1:∀ b o,b≠x->tb≠.ref b->b ∉ frs (X.env::X.outer)->s1.heap.get? b=some o->h'.get? b=some o) (k2:∀ b o,b≠x->tb≠.ref b->s1.heap.get? b=some o->∃ sl,h'.get? b=some { o with slots:=sl }):Inv X pins σ H1 { s1 with heap:=h' }:=by
 have tbs:∀ b,tb=.ref b->H1 b=none:=fun b hb=>(fT b hb).1
 have nch:∀ b o,s1.heap.get? b=some o->b ∉ (x::T::tbL tb)->b≠x/\tb≠.ref b:=fun b o _ hb=>by
  refine⟨fun z=>hb (by simp [z]),fun z=>hb ?_⟩
  rw[z]
  simp [tbL]
 have un:Un (frs X.stack) (x::T::tbL tb) H1 H1 s1.heap h':=by
  rw[hst]
  refine⟨fun b o e n hb hc=>?_,fun b o e n hb hc=>?_,fun b o e n _=>n,fun b o e hc=>?_,fun b xs e=>e,fun b o u e=>e,fun b ps e=>⟨#[],by rw[e];simp⟩⟩
  ·obtain⟨a1,a2⟩:=nch b o e hc
   exact k1 b o a1 a2 hb e
  ·obtain⟨a1,a2⟩:=nch b o e hc
   exact k2 b o a1 a2 e
  ·obtain⟨a1,a2⟩:=nch b o e hc
   obtain⟨sl,q⟩:=k2 b o a1 a2 e
   exact⟨_,q⟩
 have hok:HOk X.prog X.w H1 h':=fun b u e=>by
  refine (I1.hok b u e).stay (fun c v hc q=>k1 c v ?_ ?_ ?_ q) (fun _ q=>q) fun _ _ q=>q
  ·rintro rfl
   rcases hc with rfl | hc
   ·rw[fx.1] at e;cases e
   ·rw[fx.1] at hc;cases hc
  ·intro z
   have:=tbs c z
   rcases hc with rfl | hc
   ·rw[this] at e;cases e
   ·rw[this] at hc;cases hc
  ·intro z
   rw[<- hst] at z
   have:=I1.stkFree c z
   rcases hc with rfl | hc
   ·rw[this] at e;cases e
   ·rw[this] at hc;cases hc
 exact I1.call' (s':={ s1 with heap:=h' }) rfl un hok I1.bare fun b hb=>by
  have fb:wa X pins H1 b:=by
   rcases List.mem_cons.mp hb with z | z
   ·rw[z];exact fx
   ·rcases List.mem_cons.mp z with z | z
    ·rw[z];exact fT'
    ·cases tb with
     | ref b' =>
      have:b=b':=by simpa [tbL] using z
      rw[this];exact fT b' rfl
     | _=>simp [tbL] at z
  obtain⟨_,a1,_,a3,a4,a5⟩:=fb
  exact⟨a3,a1,a4,a5⟩
end
section
variable{X:Cx}{scope:Scope}{own caps:List Str}{ix:List Nat}{cl:List (Str × Addr)}
theorem Vv{N:List Str}{EX:XK}{pins:List (Addr × Obj)}{σ:St}{H3:Hp}{s3:Shared}{fp:List Addr}{xe:Value->Shared->Prop}{e:Value}{s1:Shared}{RE:Value->Shared->Prop}(hst:X.stack=X.env::X.outer/\X.env.frame=some X.env.locals)(hxe:XE X EX)
  (hc1:∀ y c,cl.lookup y=some c->X.env.cells.lookup y=some c) (I3:Inv X pins σ H3 s3) (f3:∀ b ∈ fp,wa X pins H3 b) (fl:za3 (yf X scope cl s3.heap.objs.size N pins s3 H3 fp xe) EX e s1)
  (hRE:∀ m s' x,s'.heap.Ns s3.heap.objs.size m->(∀ h',Heap.SameBut s3.heap.objs.size s'.heap h'->∀ cenv:Env,cenv.locals=s3.heap.objs.size->wpAny (model X.prog X.w) X.A (e8 "comprehension.variables-let-go" x cenv:Sem Value) (fun _ _=>False) X.xe { s' with heap:=h' })->RE x s') :
  notedBy (model X.prog X.w) X.A (compEnvC scope cl s3.heap.objs.size X.env) RE e s1:=by
 obtain⟨pins',σ',H1,x,C,t,dx,tb,rfl,I1,ob,tr,fx,fT,q⟩:=fl
 have IX:Inv X pins σ H1 s1:=I3.call' (s':=s1) I1.os I1.base I1.hok I1.bare fun b hb=>by
  obtain⟨_,a1,a2,a3,a4,a5⟩:=f3 b hb
  exact⟨a3,a1,a4,a5⟩
 have up:∀ b,wa (yf X scope cl s3.heap.objs.size N pins s3 H3 fp xe) pins' H1 b->wa X pins H1 b:=fun b hb=>by
  obtain⟨a0,a1,a2,a3,a4,a5⟩:=hb
  rcases a3 with a3 | a3
  ·exact⟨a0,(f3 b a3).2⟩
  ·exact I3.fpOk a3 a0
 have fx':=up x fx
 have fT':∀ T,tb=.ref T->wa X pins H1 T:=fun T h=>up T (fT T h)
 have fr:X.A.frames=some (X.env::X.outer):=by rw[<- hst.1];exact IX.ok.frames
 have ff:s1.heap.FunFrames X.base (X.env::X.outer):=by rw[<- hst.1];exact IX.stack
 obtain⟨m,hm,_⟩:=I1.loc
 have fC:wa X pins H1 s3.heap.objs.size:=I3.fpOk (au _) I1.free
 refine zaR fr ff hst.2 hst.2 ob tr fun h' T oT ts e1 nT oldT e2 d2 z2 k1 k2=>?_
 have fT2:wa X pins H1 T:=by
  rcases oldT with z | z
  ·exact fT' T z
  ·exact IX.fpOk z (IX.hok.fresh z)
 have I2:Inv X pins σ H1 { s1 with heap:=h' }:=Inv.noted IX hst.1 fx' fT' fT2 k1 k2
 have hCx:s3.heap.objs.size≠x:=fun z=>fx.2.1 z.symm
 have hCtb:tb≠.ref s3.heap.objs.size:=fun z=>(fT _ z).2.1 rfl
 obtain⟨oC,es,ep,hoC,rC⟩:=hm
 have hCT:T≠s3.heap.objs.size:=by
  rcases oldT with z | z
  ·exact (fT T z).2.1
  ·exact cb (aD (ay hoC) z)
 have hCf:s3.heap.objs.size ∉ frs (X.env::X.outer):=fun z=>by
  rw[<- hst.1] at z
  rcases List.mem_cons.mp (IX.stkSub _ z) with y | y
  ·exact fC.2.1 y
  ·exact fC.2.2.1 y
 refine hRE m _ _ ⟨oC,es,ep,k1 _ _ hCx hCtb hCf hoC,rC⟩ fun h2 sb cenv hcenv=>?_
 have I3':Inv X pins σ H1 { s1 with heap:=h2 }:=I2.turned (t':=s1.toks) (fun b o hb e=>(sb.2 b hb).trans e) fC.1 fC.2.1 fC.2.2.2.1 fC.2.2.2.2.1 fC.2.2.2.2.2
 have ob2:h2.get? x=some (xob C dx t (.ref T)):=(sb.2 x (Ne.symm hCx)).trans e1
 have oT2:h2.get? T=some oT:=(sb.2 T hCT).trans e2
 unfold e8
 refine oH (wpAny_field (s:={ s1 with heap:=h2 }) ob2 rfl (x:=.ref T) rfl ?_)
 rw[if_neg (show ¬ (Value.ref T == Value.none)=true from by simp)]
 unfold setFlight
 refine oH (oH (wpAny_field (s:={ s1 with heap:=h2 }) ob2 rfl (x:=.ref T) rfl ?_))
 rw[if_pos (show (Value.ref T != Value.none)=true from by simp)]
 refine wpAny_setField (s:={ s1 with heap:=h2 }) oT2 d2 z2 (wpAny_throw (hxe _ _ ?_))
 have d3:=Obj.data_mapFields d2 (·.setIfInBounds 3 (cenv.frame.elim Value.none fun f=>rawInt f))
 have I4:Inv X pins σ H1 { s1 with heap:=h2.update T (Obj.mapFields (·.setIfInBounds 3 (cenv.frame.elim Value.none fun f=>rawInt f))) } :=
  I3'.turned (t':=s1.toks) (fun b o hb e=>(aL _ _ (Ne.symm hb)).trans e) fT2.1 fT2.2.1 fT2.2.2.2.1 fT2.2.2.2.2.1 fT2.2.2.2.2.2
 exact⟨pins,σ,H1,x,C,t,dx,.ref T,rfl,I4,(aL _ _ nT).trans ob2,.inr ⟨T,_,_,rfl,nT,bW _ oT2 (Obj.isFreed_of_fields d3),d3,by simpa using z2⟩,fx',fun T' z=>by cases z;exact fT2,q⟩
end
section
variable{X:Cx}{scope:Scope}{own caps:List Str}{ix:List Nat}{elt tg iter:Expr}{ifs:List Expr}{pos:Pos}{wi:TI}{g:TG}{tt:TT}{te:TE}
end
end L3
namespace L3
open PySem.AutoSeq1 (wpAny_loadPart')
open MeetsSeq MeetsSeq2 MeetsSeq3 SeqRoads2 SeqAt
def LtAt(A:Around)(s:Shared)(y x:Value)(b:Bool):Prop :=
 ∀(prog:Program) (w:World) (E:Value->Shared->Prop) (Q:Value->Shared->Prop),Q (.bool b) s->wpAny (model prog w) A (richCompare .Lt y x) Q E s
def Wm(e t r:Nat->Bool)(m n:Nat):Prop:=∀ i,i<=m->i<=n->r i=if i<m/\i<n then (if e i=true then r (i+1) else t i) else decide (m<n)
theorem Vb(l b:Addr)(items items2:Array Value)(n n2:Nat)(dd dd2:Option Addr)(sl sl2:Array (Option Value))(e t r:Nat->Bool)(hr:Wm e t r items.size items2.size)(k:Nat) :
  ∀ i:Nat,i<=items.size->i<=items2.size->items.size - i=k->Meets (Builtin.«list.__eq__.loop» ⟨[.ref l,.ref b,rawInt i,rawInt 0],[]⟩)
   (fun A R s=>s.heap.get? l=some { cls:=.type "list",dict:=dd,data:=.seq items n,slots:=sl }/\s.heap.get? b=some { cls:=.type "list",dict:=dd2,data:=.seq items2 n2,slots:=sl2 } /\
    (∀ j (h1:j<items.size) (h2:j<items2.size),EqAt A.in1 s items[j] items2[j] (e j))/\(∀ j (h1:j<items.size) (h2:j<items2.size),e j=false->LtAt A.in1 s items[j] items2[j] (t j)) /\
    R (.ok (.ret (.bool (r i)))) s):=by
 induction k with
 | zero =>
  intro i b1 b2 hk prog w A R s h
  obtain⟨hp,g,d,tk,os⟩:=s;obtain⟨hl,hb,he,ht,h⟩:=h
  have hri:=hr i b1 b2
  rw[if_neg (by omega)] at hri
  rw[hri] at h
  wp_walk using wpAny_loadPart' hl,wpAny_loadPart' hb
  have hi1:items[((i:Nat):Int).toNat]? = none:=by simp;omega
  rw[hi1]
  wp_walk using wpAny_loadPart' hl,wpAny_loadPart' hb
  exact h
 | succ k ih =>
  intro i b1 b2 hk prog w A R s h
  obtain⟨hp,g,d,tk,os⟩:=s;obtain⟨hl,hb,he,ht,h⟩:=h
  have hlt:i<items.size:=by omega
  have hi1:items[((i:Nat):Int).toNat]? = some items[i]:=by simp [hlt]
  have hc:((i:Int)+1)=((i+1:Nat):Int):=by push_cast;rfl
  have hri:=hr i b1 b2
  by_cases hlt2:i<items2.size
  ·rw[if_pos ⟨hlt,hlt2⟩] at hri
   rw[hri] at h
   have hi2:items2[((i:Nat):Int).toNat]? = some items2[i]:=by simp [hlt2]
   wp_walk using wpAny_loadPart' hl,wpAny_loadPart' hb
   rw[hi1,hi2]
   refine oH (he i hlt hlt2 prog w _ _ ?_)
   cases hb':e i with
   | true =>
    rw[hb',if_pos rfl] at h
    wp_walk
    rw[hc]
    exact⟨plainId_quiet plain_eq_loop _,codeAny_builtin entry_eq_loop (by
     rw[Around.under_plainId plain_eq_loop _]
     exact ih (i+1) (by omega) (by omega) (by omega) prog w A R _ ⟨hl,hb,he,ht,h⟩)⟩
   | false =>
    rw[hb',if_neg aF] at h
    wp_walk using wpAny_loadPart' hl,wpAny_loadPart' hb
    rw[hi1,hi2]
    refine oH (ht i hlt hlt2 hb' prog w _ _ ?_)
    wp_walk
    exact h
  ·rw[if_neg (by omega)] at hri
   rw[hri] at h
   have hi2:items2[((i:Nat):Int).toNat]? = none:=by simp;omega
   wp_walk using wpAny_loadPart' hl,wpAny_loadPart' hb
   rw[hi1,hi2]
   wp_walk using wpAny_loadPart' hl,wpAny_loadPart' hb
   exact h
theorem VU(l b:Addr)(items items2:Array Value)(n n2:Nat)(dd dd2:Option Addr)(sl sl2:Array (Option Value))(e t r:Nat->Bool)(hr:Wm e t r items.size items2.size) :
  Meets (Builtin.«list.__lt__» ⟨[.ref l,.ref b],[]⟩)
   (fun A R s=>s.heap.get? l=some { cls:=.type "list",dict:=dd,data:=.seq items n,slots:=sl }/\s.heap.get? b=some { cls:=.type "list",dict:=dd2,data:=.seq items2 n2,slots:=sl2 } /\
    (∀ j (h1:j<items.size) (h2:j<items2.size),EqAt A.in1 s items[j] items2[j] (e j))/\(∀ j (h1:j<items.size) (h2:j<items2.size),e j=false->LtAt A.in1 s items[j] items2[j] (t j)) /\
    R (.ok (.ret (.bool (r 0)))) s):=by
 intro prog w A R s h
 obtain⟨hp,g,d,tk,os⟩:=s;obtain⟨hl,hb,he,ht,h⟩:=h
 have f3:=AutoSeq1.sub_list_list
 wp_walk using wpAny_loadPart' hl,wpAny_loadPart' hb
 exact⟨plainId_quiet plain_eq_loop _,codeAny_builtin entry_eq_loop (by
  rw[Around.under_plainId plain_eq_loop _]
  exact Vb l b items items2 n n2 dd dd2 sl sl2 e t r hr _ 0 (aJ _) (aJ _) rfl prog w A R _ ⟨hl,hb,he,ht,h⟩)⟩
theorem XO(l b:Addr)(items items2:Array Value)(n n2:Nat)(dd dd2:Option Addr)(sl sl2:Array (Option Value))(e t r:Nat->Bool)(hr:Wm e t r items.size items2.size) :
  Meets (Builtin.«tuple.__lt__» ⟨[.ref l,.ref b],[]⟩)
   (fun A R s=>s.heap.get? l=some { cls:=.type "tuple",dict:=dd,data:=.seq items n,slots:=sl }/\s.heap.get? b=some { cls:=.type "tuple",dict:=dd2,data:=.seq items2 n2,slots:=sl2 } /\
    (∀ j (h1:j<items.size) (h2:j<items2.size),EqAt A.in1 s items[j] items2[j] (e j))/\(∀ j (h1:j<items.size) (h2:j<items2.size),e j=false->LtAt A.in1 s items[j] items2[j] (t j)) /\
    R (.ok (.ret (.bool (r 0)))) s) :=
 .of_wp fun prog w A R s h=>by
  obtain⟨hp,g,d,tk,os⟩:=s;obtain⟨hl,hb,he,ht,h⟩:=h
  have f2:=AutoSeq1.sub_tuple_tuple
  have hZ:(items.toList.zip items2.toList).length=min items.size items2.size:=by simp
  wp_walk using wpAny_loadPart' hl,wpAny_loadPart' hb,wpAny_forIn_list _ (fun rest b s'=>b.1=none/\s'=⟨hp,g,d,tk,os⟩/\∃ i,i<=min items.size items2.size/\rest=(items.toList.zip items2.toList).drop i /\
   R (.ok (.ret (.bool (r i)))) ⟨hp,g,d,tk,os⟩) _
  case turn =>
   rintro⟨y,x⟩ rest b s' ⟨hb',rfl,i,hi,hz,hR⟩
   have hlt:i<(items.toList.zip items2.toList).length:=by
    rcases d7 i (items.toList.zip items2.toList).length with h' | h'
    ·exact h'
    ·rw[aZ h'] at hz;cases hz
   have hm:i<min items.size items2.size:=hZ ▸ hlt
   have h1:i<items.size:=aD hm (Nat.min_le_left _ _)
   have h2:i<items2.size:=aD hm (Nat.min_le_right _ _)
   rw[aV hlt] at hz
   injection hz with hyx hrest
   have hy:y=items[i]:=by have:=congrArg Prod.fst hyx;simpa using this
   have hx:x=items2[i]:=by have:=congrArg Prod.snd hyx;simpa using this
   subst hy hx
   have hri:=hr i (by omega) (by omega)
   rw[if_pos ⟨h1,h2⟩] at hri
   rw[hri] at hR
   refine oH (he i h1 h2 prog w _ _ ?_)
   cases hy:e i with
   | true =>
    rw[hy,if_pos rfl] at hR
    wp_walk
    exact⟨rfl,rfl,i+1,by omega,hrest,hR⟩
   | false =>
    rw[hy,if_neg aF] at hR
    simp only[Bool.not_false,if_true]
    refine oH (wpAny_rule ?_)
    refine oH (ht i h1 h2 hy prog w _ _ ?_)
    wp_walk
    exact⟨_,rfl,hR⟩
  case fin =>
   rintro⟨b1,b2⟩ s' ⟨hb',rfl,i,hi,hz,hR⟩
   simp only at hb'
   subst hb'
   have hge:min items.size items2.size<=i:=by
    rcases d7 i (items.toList.zip items2.toList).length with h' | h'
    ·rw[aV h'] at hz;cases hz
    ·exact hZ ▸ h'
   have hri:=hr i (by omega) (by omega)
   rw[if_neg (by omega)] at hri
   rw[hri] at hR
   wp_walk
   exact⟨_,rfl,hR⟩
  case h =>
   exact⟨rfl,rfl,0,aJ _,rfl,h⟩
theorem LtAt.lists{A:Around}{s:Shared}{l b:Addr}{items items2:Array Value}{e t r:Nat->Bool}(hl:s.heap.IsList l items)(hb:s.heap.IsList b items2)(hr:Wm e t r items.size items2.size)(hu:A.units<cLine)
  (he:∀ j (h1:j<items.size) (h2:j<items2.size),EqAt A.in1 s items[j] items2[j] (e j)) (ht:∀ j (h1:j<items.size) (h2:j<items2.size),e j=false->LtAt A.in1 s items[j] items2[j] (t j)):LtAt A s (.ref l) (.ref b) (r 0):=fun prog w E Q h=>by
 obtain⟨⟨cls,dd,data,sl⟩,ho,hc,n,hd⟩:=id hl
 obtain⟨⟨cls2,dd2,data2,sl2⟩,ho2,hc2,n2,hd2⟩:=id hb
 simp only at hc hd hc2 hd2
 subst hc hd hc2 hd2
 exact richCompare_meets_room (op:=.Lt) ⟨_,ho,rfl⟩ ⟨_,ho2,rfl⟩ F.slot_list_lt F.entry_list_lt (F.args_list_lt_2 _ _) (VU l b items items2 n n2 dd dd2 sl sl2 e t r hr)
  ⟨ho,ho2,he,ht,show Value.bool (r 0)≠Value.notImplemented/\Q (.bool (r 0)) s from ⟨(fun x=>nomatch x),h⟩⟩ hu
theorem LtAt.tuples{A:Around}{s:Shared}{l b:Addr}{items items2:Array Value}{e t r:Nat->Bool}(hl:s.heap.IsTuple l items)(hb:s.heap.IsTuple b items2)(hr:Wm e t r items.size items2.size)(hu:A.units<cLine)
  (he:∀ j (h1:j<items.size) (h2:j<items2.size),EqAt A.in1 s items[j] items2[j] (e j)) (ht:∀ j (h1:j<items.size) (h2:j<items2.size),e j=false->LtAt A.in1 s items[j] items2[j] (t j)):LtAt A s (.ref l) (.ref b) (r 0):=fun prog w E Q h=>by
 obtain⟨⟨cls,dd,data,sl⟩,ho,hc,n,hd⟩:=id hl
 obtain⟨⟨cls2,dd2,data2,sl2⟩,ho2,hc2,n2,hd2⟩:=id hb
 simp only at hc hd hc2 hd2
 subst hc hd hc2 hd2
 exact richCompare_meets_room (op:=.Lt) ⟨_,ho,rfl⟩ ⟨_,ho2,rfl⟩ F.slot_tuple_lt F.entry_tuple_lt (F.args_tuple_lt_2 _ _) (XO l b items items2 n n2 dd dd2 sl sl2 e t r hr)
  ⟨ho,ho2,he,ht,show Value.bool (r 0)≠Value.notImplemented/\Q (.bool (r 0)) s from ⟨(fun x=>nomatch x),h⟩⟩ hu
end L3
namespace L3
mutual
def okD:D->D->Prop
 | .int _,.int _=>True
 | .lst l,.lst m=>kj l m
 | .tup l,.tup m=>kj l m
 | _,_=>False
def kj:List D->List D->Prop
 | d::l,e::m=>okD d e/\kj l m
 | _,_=>True
end
mutual
def ltD:D->D->Bool
 | .int a,.int b=>decide (a<b)
 | .lst l,.lst m=>uf l m
 | .tup l,.tup m=>uf l m
 | _,_=>false
def uf:List D->List D->Bool
 | d::l,e::m=>if eqD d e=true then uf l m else ltD d e
 | [],_::_=>true
 | _,[]=>false
end
theorem Wz(l m:List D):Wm (fun j=>eqD (l.getD j .non) (m.getD j .non)) (fun j=>ltD (l.getD j .non) (m.getD j .non)) (fun i=>uf (l.drop i) (m.drop i)) l.length m.length:=by
 intro i b1 b2
 simp only
 by_cases h:i<l.length/\i<m.length
 ·rw[if_pos h,aV h.1,aV h.2,uf]
  rw[ac,ac,al h.1,al h.2]
  rfl
 ·rw[if_neg h]
  by_cases h1:i<l.length
  ·have h2:¬ i<m.length:=fun z=>h ⟨h1,z⟩
   rw[aV h1,aZ (cT h2),uf]
   ·simp;omega
   all_goals simp
  ·rw[aZ (cT h1)]
   by_cases h2:i<m.length
   ·rw[aV h2,uf]
    simp;omega
   ·rw[aZ (cT h2),uf]
    ·simp;omega
    all_goals simp
theorem za1:∀{l m:List D} {j:Nat} {d e:D},kj l m->l[j]? = some d->m[j]? = some e->okD d e
 | d::l,e::m,0,_,_,h,q1,q2=>by
  cases q1;cases q2
  simp only[kj] at h
  exact h.1
 | d::l,e::m,j+1,_,_,h,q1,q2=>by
  simp only[kj] at h
  exact za1 (j:=j) h.2 q1 q2
section
variable{X:Cx}{pins:List (Addr × Obj)}{σ:St}{H:Hp}{s:Shared}
theorem Xp{l m:List D}{xs ys:List V}{its its':List Value}{A:Around}{n:Nat}(hl:Iss X.K H l xs)(hm:Iss X.K H m ys)(r:Vals xs its)(r':Vals ys its')(hn:qb l<n)(ok:kj l m)
  (ih:∀(d e:D) (x y:V) (u v:Value),dpD d<n->okD d e->Is X.K H d x->Is X.K H e y->RelV x u->RelV y v->LtAt A s u v (ltD d e)) :
  ∀ j (h1:j<its.toArray.size) (h2:j<its'.toArray.size),LtAt A s its.toArray[j] its'.toArray[j] (ltD (l.getD j .non) (m.getD j .non)):=by
 intro j h1 h2
 rw[ao] at h1 h2
 have e1:=hl.len
 have e2:=hm.len
 have e3:=r.length
 have e4:=r'.length
 have g1:l[j]? = some l[j]:=al (by omega)
 have g2:m[j]? = some m[j]:=al (by omega)
 generalize l[j]=d at g1
 generalize m[j]=e at g2
 obtain⟨x,hx,ix⟩:=hl.at g1
 obtain⟨y,hy,iy⟩:=hm.at g2
 obtain⟨u,hu,ru⟩:=xX r hx
 obtain⟨v,hv,rv⟩:=xX r' hy
 have q1:its.toArray[j]=u:=by
  have:=(List.getElem?_eq_some_iff.mp hu).2
  simpa using this
 have q2:its'.toArray[j]=v:=by
  have:=(List.getElem?_eq_some_iff.mp hv).2
  simpa using this
 rw[q1,q2,ac,ac,g1,g2]
 exact ih d e x y u v (cp (J9 g1) hn) (za1 ok g1 g2) ix iy ru rv
theorem Ji(I:Inv X pins σ H s):∀(n:Nat) (A:Around) (d e:D) (x y:V) (u v:Value),A.units+n<cLine->dpD d<n->okD d e->Is X.K H d x->Is X.K H e y->RelV x u->RelV y v->LtAt A s u v (ltD d e):=by
 intro n
 induction n with
 | zero=>intro A d e x y u v _ h;exact absurd h (cL _)
 | succ n ih =>
  intro A d e x y u v hu hd ok hx hy rx ry
  have hu1:A.units<cLine:=by omega
  have huA:A.in1.units+n<cLine:=by show A.units+1+n<cLine;omega
  cases d with
  | int a =>
   cases e with
   | int b =>
    simp only[Is] at hx hy
    subst hx hy
    obtain⟨t,rfl⟩:=rx
    obtain⟨t',rfl⟩:=ry
    exact fun prog w E Q h=>lt_int h
   | _=>simp only[okD] at ok
  | lst l =>
   cases e with
   | lst m =>
    simp only[Is] at hx hy
    obtain⟨a,xs,rfl,h1,h2⟩:=hx
    obtain⟨b,ys,rfl,g1,g2⟩:=hy
    cases rx;cases ry
    obtain⟨its,r,p,_⟩:=I.list h1
    obtain⟨its',r',p',_⟩:=I.list g1
    simp only[dpD] at hd
    simp only[okD] at ok
    have L1:=h2.len
    have L2:=g2.len
    have L3:=r.length
    have L4:=r'.length
    have st:=Wz l m
    rw[show l.length=its.toArray.size by simp only[ao];omega,show m.length=its'.toArray.size by simp only[ao];omega] at st
    exact LtAt.lists (A:=A) p.isList p'.isList st hu1 (wZ h2 g2 r r' (n:=n) (by omega) fun d e x y u v q1 q2 q3 q4 q5=>Zv I n A.in1 d e x y u v huA q1 q2 q3 q4 q5)
     (fun j h1 h2 _=>Xp (n:=n) (A:=A.in1) ‹_› g2 r r' (by omega) ok (fun d e x y u v q1 q2 q3 q4 q5 q6=>ih A.in1 d e x y u v huA q1 q2 q3 q4 q5 q6) j h1 h2)
   | _=>simp only[okD] at ok
  | tup l =>
   cases e with
   | tup m =>
    simp only[Is] at hx hy
    obtain⟨a,xs,rfl,h1,h2⟩:=hx
    obtain⟨b,ys,rfl,g1,g2⟩:=hy
    cases rx;cases ry
    obtain⟨its,r,p,_⟩:=I.tuple h1
    obtain⟨its',r',p',_⟩:=I.tuple g1
    simp only[dpD] at hd
    simp only[okD] at ok
    have L1:=h2.len
    have L2:=g2.len
    have L3:=r.length
    have L4:=r'.length
    have st:=Wz l m
    rw[show l.length=its.toArray.size by simp only[ao];omega,show m.length=its'.toArray.size by simp only[ao];omega] at st
    exact LtAt.tuples (A:=A) p p' st hu1 (wZ h2 g2 r r' (n:=n) (by omega) fun d e x y u v q1 q2 q3 q4 q5=>Zv I n A.in1 d e x y u v huA q1 q2 q3 q4 q5)
     (fun j h1 h2 _=>Xp (n:=n) (A:=A.in1) ‹_› g2 r r' (by omega) ok (fun d e x y u v q1 q2 q3 q4 q5 q6=>ih A.in1 d e x y u v huA q1 q2 q3 q4 q5 q6) j h1 h2)
   | _=>simp only[okD] at ok
  | non=>cases e <;> simp only[okD] at ok
  | bl _=>cases e <;> simp only[okD] at ok
  | str _=>cases e <;> simp only[okD] at ok
def zcV(K:oO):R2:=fun x y H Q=>∃ d e,Is K H d x/\Is K H e y/\dpD d<50/\okD d e/\Q (.bl (ltD d e)) H
theorem zaz(hu:X.A.units+100<cLine):OpR X (compareOp .Lt) (zcV X.K):=by
 intro pins s σ H x y v u Q I rx ry h
 obtain⟨d,e,hx,hy,hd,ok,q⟩:=h
 exact Ji I 50 X.A d e x y v u (by omega) hd ok hx hy rx ry X.prog X.w X.xe _ ⟨.bl _,H,I,rfl,q⟩
end
theorem JN{K:oO}{x y:V}{H:Hp}{Q:VK}{d e:D}(h1:Is K H d x)(h2:Is K H e y)(h3:dpD d<50)(h4:okD d e)(q:Q (.bl (ltD d e)) H):zcV K x y H Q:=⟨d,e,h1,h2,h3,h4,q⟩
def ltI:List Int->List Int->Bool
 | a::l,b::m=>if a=b then ltI l m else decide (a<b)
 | [],_::_=>true
 | _,[]=>false
theorem jl:∀(l m:List Int),kj (l.map D.int) (m.map D.int)
 | [],_=>by simp only[aN,kj]
 | _::_,[]=>by simp only[aN,aC,kj]
 | a::l,b::m=>by simp only[aC,kj,okD,true_and];exact jl l m
theorem Zk:∀(l m:List Int),uf (l.map D.int) (m.map D.int)=ltI l m
 | [],[]=>by simp only[aN,uf,ltI]
 | [],_::_=>by simp only[aN,aC,uf,ltI]
 | _::_,[]=>by simp only[aN,aC,uf,ltI]
 | a::l,b::m=>by
  simp only[aC,uf,ltI,eqD,ltD,Zk l m,beq_iff_eq]
end L3
namespace L3
mutual
def xt:D->Prop
 | .lst _=>False
 | .tup l=>zR l
 | _=>True
def zR:List D->Prop
 | []=>True
 | d::l=>xt d/\zR l
end
theorem uV{K:oO}{H:Hp}{a p:Addr}{xs ys zs:List V}(hp:H p=some (.lst ys))(h:SqT K H a xs):SqT K (upd H p (.lst zs)) a xs:=by
 rcases h with (h | ⟨o,h⟩) | h
 ·refine .inl (.inl ?_)
  rw[zo (fun e=>by rw[e,hp] at h;cases h)]
  exact h
 ·refine .inl (.inr ⟨o,?_⟩)
  rw[zo (fun e=>by rw[e,hp] at h;cases h)]
  exact h
 ·exact .inr h
mutual
theorem Is.updL{K:oO}{H:Hp}{p:Addr}{ys zs:List V}(hp:H p=some (.lst ys)):∀(d:D) (v:V),xt d->Is K H d v->Is K (upd H p (.lst zs)) d v
 | .non,v,_,h=>by simp only[Is] at h ⊢;exact h
 | .bl b,v,_,h=>by simp only[Is] at h ⊢;exact h
 | .int b,v,_,h=>by simp only[Is] at h ⊢;exact h
 | .str b,v,_,h=>by simp only[Is] at h ⊢;exact h
 | .lst l,v,f,h=>by simp only[xt] at f
 | .tup l,v,f,h=>by
  simp only[Is] at h ⊢
  simp only[xt] at f
  obtain⟨a,xs,e1,e2,e3⟩:=h
  exact⟨a,xs,e1,uV hp e2,Iss.updL hp l xs f e3⟩
theorem Iss.updL{K:oO}{H:Hp}{p:Addr}{ys zs:List V}(hp:H p=some (.lst ys)):∀(l:List D) (vs:List V),zR l->Iss K H l vs->Iss K (upd H p (.lst zs)) l vs
 | [],vs,_,h=>by simp only[Iss] at h ⊢;exact h
 | d::l,vs,f,h=>by
  simp only[Iss] at h ⊢
  simp only[zR] at f
  obtain⟨v,r,e1,e2,e3⟩:=h
  exact⟨v,r,e1,Is.updL hp d v f.1 e2,Iss.updL hp l r f.2 e3⟩
end
theorem wM:∀{l:List D},(∀ d ∈ l,xt d)->zR l
 | [],_=>by simp only[zR]
 | d::l,h=>by simp only[zR];exact⟨h d (by simp),wM fun e he=>h e (by simp [he])⟩
theorem VI{n:Nat}:∀{l:List D},(∀ d ∈ l,dpD d<=n)->qb l<=n
 | [],_=>by simp only[qb];omega
 | d::l,h=>by
  have h1:=h d (by simp)
  have h2:=VI (n:=n) (l:=l) fun e he=>h e (by simp [he])
  simp only[qb]
  omega
def LsA(K:oO)(H:Hp)(a:Addr)(ds:List D):Prop:=∃ xs,H a=some (.lst xs)/\Iss K H ds xs
theorem LsA.same{K:oO}{H H':Hp}{a:Addr}{ds:List D}(h:LsA K H a ds)(e:Same H H'):LsA K H' a ds:=let ⟨xs,h1,h2⟩:=h; ⟨xs,e _ _ h1,Iss.same e _ _ h2⟩
theorem LsA.is{K:oO}{H:Hp}{a:Addr}{ds:List D}(h:LsA K H a ds):Is K H (.lst ds) (.ref a):=by
 obtain⟨xs,h1,h2⟩:=h
 simp only[Is]
 exact⟨a,xs,rfl,SqL.of h1,h2⟩
theorem LsA.nil{K:oO}{H:Hp}{a:Addr}:LsA K (upd H a (.lst [])) a []:=⟨[],zf,by simp only[Iss]⟩
theorem LsA.snoc{K:oO}{H:Hp}{a:Addr}{ds:List D}{d:D}{xs:List V}{v:V}(h1:H a=some (.lst xs))(h2:Iss K H ds xs)(f:zR ds)(fd:xt d)(hv:Is K H d v):LsA K (upd H a (.lst (xs ++ [v]))) a (ds ++ [d]) :=
 ⟨_,zf,Iss.append (Iss.updL h1 _ _ f h2) (by simp only[Iss];exact⟨v,[],rfl,Is.updL h1 _ _ fd hv,rfl⟩)⟩
theorem Is.tup{K:oO}{H:Hp}{p:Addr}{vs:List V}{ds:List D}(hp:H p=none)(h:Iss K H ds vs):Is K (upd H p (.tup vs)) (.tup ds) (.ref p):=by
 simp only[Is]
 exact⟨p,vs,rfl,SqT.of zf,Iss.same (zd hp) _ _ h⟩
abbrev dS(l:List Nat):D:=.str (tx l)
abbrev zr:=List Nat × List Nat
def dR(r:zr):D:=.tup [dS r.1,dS r.2]
theorem zaE{K:oO}{H:Hp}{r:zr}{v:V}(h:Is K H (dR r) v):∃ p,v=.ref p/\SqT K H p [.str (tx r.1),.str (tx r.2)]:=by
 simp only[dR,Is,Iss] at h
 obtain⟨a,xs,e,hs,v1,r1,rfl,rfl,v2,r2,rfl,rfl,rfl⟩:=h
 exact⟨a,e,hs⟩
theorem Wh{K:oO}{H:Hp}{p:Addr}{l m:List Nat}(h:SqT K H p [.str (tx l),.str (tx m)]):Is K H (dR (l,m)) (.ref p):=by
 simp only[dR,Is,Iss]
 exact⟨p,_,rfl,h,_,_,rfl,rfl,_,_,rfl,rfl,rfl⟩
theorem jj(r:zr):xt (dR r):=by simp only[dR,xt,zR,and_self]
theorem zcw(r:zr):dpD (dR r)<=1:=by simp only[dR,dpD,qb];omega
theorem yT(rs:List zr):zR (rs.map dR):=wM fun d h=>by obtain⟨r,_,rfl⟩:=List.mem_map.mp h;exact jj r
theorem Jm(rs:List zr):qb (rs.map dR)<=1:=VI fun d h=>by obtain⟨r,_,rfl⟩:=List.mem_map.mp h;exact zcw r
abbrev N3:=Nat × Nat × Nat
def d3(t:N3):D:=.tup [.int (t.1:Nat),.int (t.2.1:Nat),.int (t.2.2:Nat)]
theorem zb4{K:oO}{H:Hp}{t:N3}{v:V}(h:Is K H (d3 t) v):∃ p,v=.ref p/\SqT K H p [.int (t.1:Nat),.int (t.2.1:Nat),.int (t.2.2:Nat)]:=by
 simp only[d3,Is,Iss] at h
 obtain⟨a,xs,e,hs,v1,r1,rfl,rfl,v2,r2,rfl,rfl,v3,r3,rfl,rfl,rfl⟩:=h
 exact⟨a,e,hs⟩
theorem zaJ{K:oO}{H:Hp}{i j k:Nat}:Iss K H [.int (i:Nat),.int (j:Nat),.int (k:Nat)] [.int (i:Nat),.int (j:Nat),.int (k:Nat)]:=by
 simp only[Iss,Is]
 exact⟨_,_,rfl,rfl,_,_,rfl,rfl,_,_,rfl,rfl,rfl⟩
theorem KT(t:N3):xt (d3 t):=by simp only[d3,xt,zR,and_self]
theorem Xs(rs:List N3):zR (rs.map d3):=wM fun d h=>by obtain⟨r,_,rfl⟩:=List.mem_map.mp h;exact KT r
theorem Iss.get{K:oO}{H:Hp}{l:List D}{vs:List V}{j:Nat}{v:V}(h:Iss K H l vs)(q:vs[j]? = some v):∃ d,l[j]? = some d/\Is K H d v:=by
 have hj:=(List.getElem?_eq_some_iff.mp q).1
 have hl:=h.len
 have g1:l[j]? = some l[j]:=al (by omega)
 obtain⟨x,hx,ix⟩:=h.at g1
 rw[q] at hx
 cases hx
 exact⟨_,g1,ix⟩
theorem Iss.getR{K:oO}{H:Hp}{rs:List zr}{vs:List V}{j:Nat}{v:V}(h:Iss K H (rs.map dR) vs)(q:vs[j]? = some v):∃ r p,rs[j]? = some r/\v=.ref p/\SqT K H p [.str (tx r.1),.str (tx r.2)]:=by
 obtain⟨d,e,i⟩:=h.get q
 rw[aG] at e
 obtain⟨r,hr,rfl⟩:=Option.map_eq_some_iff.mp e
 obtain⟨p,e1,e2⟩:=zaE i
 exact⟨r,p,hr,e1,e2⟩
theorem Iss.get3{K:oO}{H:Hp}{rs:List N3}{vs:List V}{j:Nat}{v:V}(h:Iss K H (rs.map d3) vs)(q:vs[j]? = some v):∃ r p,rs[j]? = some r/\v=.ref p/\SqT K H p [.int (r.1:Nat),.int (r.2.1:Nat),.int (r.2.2:Nat)]:=by
 obtain⟨d,e,i⟩:=h.get q
 rw[aG] at e
 obtain⟨r,hr,rfl⟩:=Option.map_eq_some_iff.mp e
 obtain⟨p,e1,e2⟩:=zb4 i
 exact⟨r,p,hr,e1,e2⟩
theorem Jt{α:Type}(l:List α){a b:Int}(h0:0<=a)(h1:a<=b):cut l (some a) (some b)=(l.drop a.toNat).take (b - a).toNat:=by
 by_cases h2:b<=l.length
 ·exact kL l h0 h1 h2
 ·obtain⟨m,rfl⟩:=bE h0
  obtain⟨n,rfl⟩:=bE (by omega:0<=b)
  unfold cut
  rw[HT.sIx_nat,HT.sIx_nat,dq (by omega:l.length<=n)]
  have e:(((n:Nat):Int) - ((m:Nat):Int)).toNat=n - m:=by omega
  have e2:((m:Nat):Int).toNat=m:=rfl
  rw[e,e2,bf (l:=l.drop m) (by rw[br];omega)]
  by_cases hm:m<=l.length
  ·rw[cy hm,bf (by rw[br];omega)]
  ·rw[dq (by omega),aZ (au _),aZ (by omega),List.take_nil]
theorem Vt(ns:List Int){a b:Int}(h0:0<=a)(h1:a<=b):Jz (ns.map V.int) (some a) (some b)=((ns.drop a.toNat).take (b - a).toNat).map V.int:=by
 have e:Jz (ns.map V.int) (some a) (some b)=cut (ns.map V.int) (some a) (some b):=rfl
 rw[e,Jt _ h0 h1,List.map_take,List.map_drop]
end L3
namespace L3
open Classical in
section
variable{X:Cx}{pins:List (Addr × Obj)}{σ:L2.St}{H:Hp}{s:Shared}
open Classical in
end
end L3
namespace L3
structure DM(P:Program)(w:World)(K:oO)(mg:Str->Option Value)(base:Heap)(CX:CXT)(k:Nat)(C:Addr)(m:Str)(ps:List Str)(sp:Sp):Prop where
 ex:∃ f fd,zbp K C m f/\FnOk P w K mg base CX k f fd ps sp/\Binds K fd ps []
structure DMk(P:Program)(w:World)(K:oO)(mg:Str->Option Value)(base:Heap)(CX:CXT)(k:Nat)(C:Addr)(ps:List Str)(sp:Sp):Prop where
 ex:∃ f fd,Mk K C f/\FnOk P w K mg base CX k f fd ps sp/\Binds K fd ps []
section
variable{X:Cx}{k j:Nat}{C:Addr}{m:Str}{ps:List Str}{sp:Sp}{o e:Expr}{es:List Expr}{ta:TE}{t:TA}{apos pos p:Pos}{x:Str}{E:XK}
theorem me0(D:DM X.prog X.w X.K X.mg X.base CX0 k C m ps sp)(c:Cls X.K C)(hr:Room j X.A)(he:PE X o ta){pl:Sem Bool}(ht:eval (.Call (.Attribute o m apos) [] [] pos) X.env=(do
      let ov <- eval o X.env
      standAt apos.atName
      let (f,first) <- holding [ov] (getMethod ov m pl)
      callWith pos f first (backTo pos (oM [] X.env)) (backToKw pos (keywordEach [] X.env))):=by rfl) (hj:k<=j:=by decide):PE X (.Call (.Attribute o m apos) [] [] pos) (ZV C m sp [] E0 ta vf):=by
  obtain⟨f,fd,hm,F,hb⟩:=D.ex
  exact UG he c hm F (hr.mono hj) hb .nil Yb ht
theorem me1(D:DM X.prog X.w X.K X.mg X.base CX0 k C m ps sp)(c:Cls X.K C)(hr:Room j X.A)(he:PE X o ta)(ha:PA X (e::es) t){pl:Sem Bool}
    (hst:oM (e::es) X.env=(false,eval e X.env)::oM es X.env:=by rfl) (hpl:(backTo pos (oM es X.env)).any (·.1)=false:=by rfl)
    (ht:eval (.Call (.Attribute o m apos) (e::es) [] pos) X.env=(do
      let ov <- eval o X.env
      standAt apos.atName
      let (f,first) <- holding [ov] (getMethod ov m pl)
      callWith pos f first (backTo pos (oM (e::es) X.env)) (backToKw pos (keywordEach [] X.env))):=by rfl) (hj:k<=j:=by decide):PE X (.Call (.Attribute o m apos) (e::es) [] pos) (ZV C m sp [] E0 ta t):=by
  obtain⟨f,fd,hm,F,hb⟩:=D.ex
  exact Kk he c hm F (hr.mono hj) hb .nil Yb ha hst hpl ht
theorem mkC(D:DMk X.prog X.w X.K X.mg X.base CX0 k C ps sp)(hr:Room j X.A)(hg:Gl X x)(hm:X.mg x=some (.ref C))(ha:PA X (e::es) t)(hdb:(x == ("__debug__" : Str))=false:=by decide)(he:oM (e::es) X.env=(false,eval e X.env)::oM es X.env:=by rfl)
  (hpl:(backTo pos (oM es X.env)).any (·.1)=false:=by rfl) (hj:k+1<=j:=by decide):PE X (.Call (.Name x p) (e::es) [] pos) (Qx C sp [] E0 t):=by
 obtain⟨f,fd,M,F,hb⟩:=D.ex
 exact VA M F (hr.mono hj) hg hm hb .nil Yb ha hdb he hpl
end
end L3
namespace L3
section
variable{X:Cx}
end
section
variable{X:Cx}{k j:Nat}{C:Addr}{m:Str}{ps:List Str}{sp:Sp}{o e:Expr}{es:List Expr}{ta:TE}{t:TA}{apos pos p:Pos}
end
end L3
namespace L3
def zA(Fam:Addr->Prop)(m:Str)(sp:Addr->Sp)(dvs:List V)(E:XK)(ta:TE)(t:TA):TE:=fun σ H Q=>ta σ H fun x H1=>∃ C a dx fs,Fam C/\x=.ref a/\H1 a=some (.ins C dx fs)/\fs.lookup m=none /\
 t σ H1 fun vs H2=>sp C (x::(vs ++ dvs)) H2 Q E
structure DMF(P:Program)(w:World)(K:oO)(mg:Str->Option Value)(base:Heap)(CX:CXT)(k:Nat)(Fam:Addr->Prop)(m:Str)(ps:List Str)(sp:Addr->Sp):Prop where
 ex:∀ C,Fam C->Cls K C/\DM P w K mg base CX k C m ps (sp C)
section
variable{X:Cx}{k j:Nat}{Fam:Addr->Prop}{m:Str}{ps:List Str}{sp:Addr->Sp}{o e:Expr}{es:List Expr}{ta:TE}{t:TA}{apos pos p:Pos}{x:Str}{E:XK}
theorem zdy(D:DMF X.prog X.w X.K X.mg X.base CX0 k Fam m ps sp)(hr:Room j X.A)(he:PE X o ta){pl:Sem Bool}(ht:eval (.Call (.Attribute o m apos) [] [] pos) X.env=(do
      let ov <- eval o X.env
      standAt apos.atName
      let (f,first) <- holding [ov] (getMethod ov m pl)
      callWith pos f first (backTo pos (oM [] X.env)) (backToKw pos (keywordEach [] X.env))):=by rfl) (hj:k<=j:=by decide):PE X (.Call (.Attribute o m apos) [] [] pos) (zA Fam m sp [] E0 ta vf):=by
  intro pins s σ H Q I h
  refine bV (pl:=pl) (thn (he pins s σ H _ I h) fun u s1 ⟨x,H1,I1,rx,C,a,dx,fs,fam,ex,ea,l,q⟩=>?_) ht
  subst ex
  obtain rfl:u=Value.ref a:=rx
  obtain⟨c,⟨f,fd,hm,F,hb⟩⟩:=D.ex C fam
  refine wc I1 ea c hm l ?_
  exact eW (first:=[.ref a]) I1.kIn hm.kp (jX (us:=[.ref a]) (vs:=[.ref a]) F (hr.mono hj) hb .nil Yb I1 (.cons rfl .nil) q)
theorem zaf(D:DMF X.prog X.w X.K X.mg X.base CX0 k Fam m ps sp)(hr:Room j X.A)(he:PE X o ta)(ha:PA X (e::es) t){pl:Sem Bool}
    (hst:oM (e::es) X.env=(false,eval e X.env)::oM es X.env:=by rfl) (hpl:(backTo pos (oM es X.env)).any (·.1)=false:=by rfl)
    (ht:eval (.Call (.Attribute o m apos) (e::es) [] pos) X.env=(do
      let ov <- eval o X.env
      standAt apos.atName
      let (f,first) <- holding [ov] (getMethod ov m pl)
      callWith pos f first (backTo pos (oM (e::es) X.env)) (backToKw pos (keywordEach [] X.env))):=by rfl) (hj:k<=j:=by decide):PE X (.Call (.Attribute o m apos) (e::es) [] pos) (zA Fam m sp [] E0 ta t):=by
  intro pins s σ H Q I h
  refine bV (pl:=pl) (thn (he pins s σ H _ I h) fun u s1 ⟨x,H1,I1,rx,C,a,dx,fs,fam,ex,ea,l,q⟩=>?_) ht
  subst ex
  obtain rfl:u=Value.ref a:=rx
  obtain⟨c,⟨f,fd,hm,F,hb⟩⟩:=D.ex C fam
  refine wc I1 ea c hm l ?_
  refine bN (first:=[.ref a]) (h₀:=X.base) I.ok.mod.kin hm.kp (thn (ha pos pins s1 σ H1 _ I1 q) fun us s2 ⟨vs,H2,I2,r,q2⟩=>⟨I2.kIn,?_⟩) hst hpl
  exact jX (us:=.ref a::us) (vs:=.ref a::vs) F (hr.mono hj) hb .nil Yb I2 (.cons rfl r) q2
end
section
variable{X:Cx}
theorem YX:∀{ns:List Int} {its:List Value},Vals (ns.map V.int) its->IntsAre its ns
 | [],_,.nil=>.nil
 | n::ns,_,.cons r t=>by
  obtain⟨tk,rfl⟩:=r
  exact .cons n tk (YX t)
def yA(K:oO):List V->Hp->VK->Prop:=fun xs H Q=>∃(p:Addr) (ns:List Int),xs=[.ref p]/\SqL K H p (ns.map V.int)/\Q (.int ns.sum) H
theorem zcd(hc:X.calm=true):vJ X (.builtin "sum") (yA X.K):=by
 intro pins s σ H xs us Q I r h
 obtain⟨p,ns,rfl,hS,q⟩:=h
 obtain⟨u,rfl,ru⟩:=wI r
 cases ru
 obtain⟨its,rv,pl,hz⟩:=I.list hS
 have hh:X.A.handled=none:=I.ok.hd hc
 have ia:=YX rv
 obtain⟨ps,e⟩:=ia.allInts.items
 have en:ps.toList.map (·.1)=ns:=by
  rw[<- nums_intItems,<- e]
  exact ia.numsOf
 refine sum_intListG hh (by rw[<- e];exact pl.isList) fun h' tk t' hk=>?_
 rw[preSum_eq,bf (by simp),en]
 exact⟨.int ns.sum,H,I.kept hk,⟨_,rfl⟩,q⟩
end
end L3
namespace L3
theorem We(l:List Nat):((Builtin.Str.strSliceIndices none none (-1) (tx l).length).filterMap ((tx l).cps[·]?))=l.reverse:=by
 rw[ye,picked_rev]
 have e:(tx l).cps=l.toArray:=rfl
 rw[e]
 apply List.ext_getElem?
 intro i
 have h:((aY l.length).map fun k=>l.length - 1 - k).filterMap (l.toArray[·]?)=(aY l.length).map fun k=>l.getD (l.length - 1 - k) 0:=by
  rw[filterMap_get,dw]
  ·refine cF fun k _=>?_
   show l.toArray.getD (l.length - 1 - k) 0=_
   simp [eU,List.getD]
   split <;> simp_all
  ·intro i hi
   obtain⟨k,hk,rfl⟩:=List.mem_map.mp hi
   have:=List.mem_range.mp hk
   show _<l.toArray.size
   rw[ao]
   omega
 rw[h]
 by_cases hi:i<l.length
 ·rw[bL hi,aG,List.getElem?_range hi]
  show some (l.getD (l.length - 1 - i) 0)=_
  rw[ac,al (by omega)]
  rfl
 ·rw[bz (by simp;omega),bz (by simp;omega)]
def yz(te ts:TE):TE:=fun σ H Q=>te σ H fun x H1=>ts σ H1 fun y H2=>y=.int (-1)/\∃ l:List Nat,x=.str (tx l)/\l.length<=oN/\Q (.str (tx l.reverse)) H2
section
variable{X:Cx}{e st:Expr}{te ts:TE}{pos p2:Pos}
theorem KH(he:PE X e te)(hs:PE X st ts):PE X (.Subscript e (.Slice none none (some st) p2) pos) (yz te ts):=by
 intro pins s σ H Q I h
 refine Subscript_ (thn (he pins s σ H _ I h) fun v s1 ⟨x,H1,I1,r1,q1⟩=>?_)
 refine wpAny_Slice ?_
 rw[evalPart_none]
 refine oJ (oJ ?_)
 rw[evalPart_some]
 refine thn (hs pins s1 σ H1 _ I1 q1) fun u s2 ⟨y,H2,I2,r2,ey,l,ex,hl,q2⟩=>?_
 subst ey ex
 obtain⟨t,rfl⟩:=r1
 obtain⟨tk,rfl⟩:=r2
 have I4:Inv X pins σ H2 { s2 with heap:=s2.heap.push { cls:=.type "slice",data:=.fields #[.none,.none,.int (-1) tk] } }:=I2.kept (t':=s2.toks) fun b ob q=>aa _ q
 show wpAny (model X.prog X.w) X.A (subscriptTail e (.Slice none none (some st) p2) (.str (tx l) t) (.ref s2.heap.objs.size)) (EP X pins σ Q) X.xe { s2 with heap:=s2.heap.push { cls:=.type "slice",data:=.fields #[.none,.none,.int (-1) tk] } }
 refine tail_any (ops:=[.ref s2.heap.objs.size,.str (tx l) t]) (typeIs_str _ (tx l) t) slot_str_getitem.lookup ?_ (by with_unfolding_all rfl)
 refine wpAny_getItem_str_slice (l:=none) (u:=none) (st:=some (-1,tk)) (Heap.IsSliceOf.new ..) rfl ?_
 unfold sliceMade slicePicked
 have hc':¬ (((some ((-1:Int),tk)).map (·.1)).getD 1 == 1 && (Builtin.Str.strSliceIndices ((none:Option (Int × Tok)).map (·.1)) ((none:Option (Int × Tok)).map (·.1)) (((some ((-1:Int),tk)).map (·.1)).getD 1) (tx l).length).length == (tx l).length)=true:=by
  have:(((some ((-1:Int),tk)).map (·.1)).getD 1 == 1)=false:=rfl
  rw[this]
  simp
 rw[if_neg hc']
 have e:Str.mk ((Builtin.Str.strSliceIndices none none (-1) (tx l).length).filterMap ((tx l).cps[·]?)).toArray=tx l.reverse:=by
  rw[We]
 show (Str.mk ((Builtin.Str.strSliceIndices none none (-1) (tx l).length).filterMap ((tx l).cps[·]?)).toArray).length<=oN/\_
 rw[e]
 refine⟨by rw[ye,eX];exact hl,?_⟩
 exact⟨.str (tx l.reverse),H2,I4.tok _,⟨_,by
  show Value.str (Str.mk ((Builtin.Str.strSliceIndices none none (-1) (tx l).length).filterMap ((tx l).cps[·]?)).toArray) _=_
  rw[e]⟩,q2⟩
end
end L3
namespace L3
structure zc5(K:oO)(C:Addr)(m:Str)(f:Addr):Prop where
 sg:cA K (.ref C) "__getattribute__" = some (some (.builtin "type.__getattribute__"))
 rd:fu K C (.type "type")=true
 fc:fv K (.ref C) (.type "type") m=some (.val (.ref f))
 kp:aj K (.ref f)=true
structure DC(P:Program)(w:World)(K:oO)(mg:Str->Option Value)(base:Heap)(CX:CXT)(k:Nat)(C:Addr)(m:Str)(ps:List Str)(sp:Sp):Prop where
 ex:∃ f fd,zc5 K C m f/\FnOk P w K mg base CX k f fd ps sp/\Binds K fd ps []
section
variable{X:Cx}{k j:Nat}{C:Addr}{m x:Str}{ps:List Str}{sp:Sp}{e:Expr}{es:List Expr}{t:TA}{apos pos p:Pos}
theorem KO(D:DC X.prog X.w X.K X.mg X.base CX0 k C m ps sp)(hr:Room j X.A)(hg:Gl X x)(hm:X.mg x=some (.ref C))(ha:PA X (e::es) t){pl:Sem Bool}(hdb:(x == ("__debug__" : Str))=false:=by decide)
    (hst:oM (e::es) X.env=(false,eval e X.env)::oM es X.env:=by rfl) (hpl:(backTo pos (oM es X.env)).any (·.1)=false:=by rfl)
    (ht:eval (.Call (.Attribute (.Name x p) m apos) (e::es) [] pos) X.env=(do
      let ov <- eval (.Name x p) X.env
      standAt apos.atName
      let (f,first) <- holding [ov] (getMethod ov m pl)
      callWith pos f first (backTo pos (oM (e::es) X.env)) (backToKw pos (keywordEach [] X.env))):=by rfl) (hj:k<=j:=by decide):PE X (.Call (.Attribute (.Name x p) m apos) (e::es) [] pos) (jt sp [] E0 t):=by
  obtain⟨f,fd,cm,F,hb⟩:=D.ex
  have hn:PE X (.Name x p) (tC (.ref C)):=xh hg hm rfl hdb
  intro pins s σ H Q I h
  refine bV (pl:=pl) (thn (hn pins s σ H (fun y H1=>y=.ref C/\H1=H) I ⟨rfl,rfl⟩) fun u s1 ⟨y,H1,I1,ry,ey,eH⟩=>?_) ht
  subst ey eH
  obtain rfl:u=Value.ref C:=ry
  refine PySem.W.method_cls I1.kIn cm.sg (PySem.W.cls_value I1.kIn cm.rd cm.fc rfl ?_)
  refine bN (first:=[]) (h₀:=X.base) I.ok.mod.kin cm.kp (thn (ha pos pins _ σ H1 _ (I1.tok _) h) fun us s2 ⟨vs,H2,I2,r,q2⟩=>⟨I2.kIn,?_⟩) hst hpl
  exact jX (us:=us) (vs:=vs) F (hr.mono hj) hb .nil Yb I2 r q2
def zy:V->List V->Hp->VK->Prop:=fun x xs H Q=>∃(z y:Str) (i:Nat),x=.str z/\xs=[.str y]/\PySem.Txt.find z y=(i:Int)/\Q (.int (i:Nat)) H
theorem J4:MtR X "str.index" zy:=by
 intro pins s σ H x xs v us Q I rx rv h
 obtain⟨z,y,i,rfl,rfl,hf,q⟩:=h
 obtain⟨t,rfl⟩:=rx
 obtain⟨u,rfl,t',rfl⟩:=wI rv
 unfold PySem.Txt.find at hf
 cases ho:Builtin.Str.occurrences z y 0 z.length 1 with
 | nil=>rw[ho] at hf;dsimp only at hf;omega
 | cons a r =>
  rw[ho] at hf
  have:a=i:=by dsimp only at hf;omega
  subst this
  exact PySem.SC.index ho ⟨.int _,H,I.tok _,⟨_,rfl⟩,q⟩
end
end L3
namespace L3
section
variable{prog:Program}{w:World}{A:Around}{E:Value->Shared->Prop}{s:Shared}
theorem va{h h':Heap}{a:Addr}{ty:String}{x:Str}{t:Tok}{i:Nat}(y:h.IsStrIter a ty x t i)(e:∀ o,h.get? a=some o->h'.get? a=some o):h'.IsStrIter a ty x t i:=let ⟨o,ho,r⟩:=y; ⟨o,e o ho,r⟩
theorem vG{h h':Heap}{a t:Addr}{i:Nat}(y:h.IsTupleIter a t i)(e:∀ o,h.get? a=some o->h'.get? a=some o):h'.IsTupleIter a t i:=let ⟨o,ho,r⟩:=y; ⟨o,e o ho,r⟩
theorem Q0{h h':Heap}{a:Addr}{xs:Array Value}(y:h.IsTuple a xs)(e:∀ o,h.get? a=some o->h'.get? a=some o):h'.IsTuple a xs:=let ⟨o,ho,r⟩:=y; ⟨o,e o ho,r⟩
theorem sit(x:Str):strIterType x="str_ascii_iterator"\/strIterType x="str_iterator":=by
 unfold strIterType
 split
 ·exact .inl rfl
 ·exact .inr rfl
theorem qu{it:Addr}{x:Str}{t:Tok}{i c:Nat}{Q:Value->Shared->Prop}(hit:s.heap.IsStrIter it (strIterType x) x t i)(hx:x.cps[i]? = some c)
  (hQ:∀ h',h'.IsStrIter it (strIterType x) x t (i+1)->Heap.SameBut it s.heap h'->Q (.str ⟨#[c]⟩ s.toks) { s with heap:=h',toks:=s.toks+1 }) :
  wpAny (model prog w) A (Builtin.SmallTypes.nextOf (.ref it)) Q E s:=by
 rcases sit x with e | e
 ·rw[e] at hit hQ
  exact wpAny_nextOf_ascii_item hit hx hQ
 ·rw[e] at hit hQ
  exact wpAny_nextOf_wide_item hit hx hQ
theorem jr{it:Addr}{x:Str}{t:Tok}{i:Nat}{Q:Value->Shared->Prop}(hh:A.handled=none)(hit:s.heap.IsStrIter it (strIterType x) x t i)(hx:x.cps[i]? = none)
  (hE:∀ h' e,Heap.ExtBut it s.heap h'->(∃ o,h'.get? e=some o/\o.cls=.type "StopIteration")->E (.ref e) { s with heap:=h' }) :
  wpAny (model prog w) A (Builtin.SmallTypes.nextOf (.ref it)) Q E s:=by
 rcases sit x with e | e
 ·rw[e] at hit
  exact wpAny_nextOf_ascii_end hh hit hx hE
 ·rw[e] at hit
  exact wpAny_nextOf_wide_end hh hit hx hE
theorem jf{it t:Addr}{i:Nat}{items:Array Value}{x:Value}{Q:Value->Shared->Prop}(hit:s.heap.IsTupleIter it t i)(ht:s.heap.IsTuple t items)(hx:items[i]? = some x)
  (hQ:∀ h',h'.IsTupleIter it t (i+1)->Heap.SameBut it s.heap h'->Q x { s with heap:=h' }) :
  wpAny (model prog w) A (Builtin.SmallTypes.nextOf (.ref it)) Q E s:=by
 obtain⟨o,ho,hc,hd⟩:=id hit
 obtain⟨ol,hol,_,nl,hdl⟩:=ht
 unfold Builtin.SmallTypes.nextOf
 refine oH (wpAny_callSpecial?_slot (name:=bG "__next__") hit.typeIs F.slot_tuple_iterator_next
  (wpAny_call_entry F.slot_tuple_iterator_next hit.typeIs F.entry_tuple_iterator_next ?_ (F.args_tuple_iterator_next_1 _)))
 show wpAny _ _ (field (.ref it) 0 >>= _) _ _ s
 refine oH (wpAny_field ho hd (x:=.ref t) rfl ?_)
 show wpAny _ _ (if (Value.ref t == Value.none)=true then _ else _) _ _ s
 rw[if_neg (show ¬ ((Value.ref t == Value.none)=true) from aF)]
 show wpAny _ _ (field (.ref it) 1 >>= _) _ _ s
 refine oH (wpAny_field ho hd (x:=.int i 0) rfl ?_)
 show wpAny _ _ (seqItems? (.ref t) >>= _) _ _ s
 refine oH (wpAny_seqItems hol hdl ?_)
 simp only[aX,hx]
 refine oH (wpAny_setField ho hd (by simp) (oJ ⟨x,rfl,oJ (hQ _ ?_ (Heap.SameBut.update ..))⟩))
 exact⟨_,bW _ ho (Obj.isFreed_of_fields (Obj.data_mapFields hd _)),(Obj.cls_mapFields ..).trans hc,by
  rw[Obj.data_mapFields hd];simp [rawInt]⟩
structure zaI(z TI TO i1 i2 l2:Addr):Prop extends Q6 z TI TO i1 i2 where
 l2z:l2≠z
 l2TO:l2≠TO
 l2i1:l2≠i1
 l2i2:l2≠i2
theorem UX{z TI TO i1 i2 l2:Addr}{k c:Nat}{X:Str}{tx:Tok}{ys:Array Value}{y a b:Value}{Q:Value->Shared->Prop}(D:zaI z TI TO i1 i2 l2)
  (hz:IsZip s.heap z TI TO .none) (hTI:IsPair s.heap TI (.ref i1) (.ref i2)) (hTO:IsPair s.heap TO a b)
  (h1:s.heap.IsStrIter i1 (strIterType X) X tx k) (h2:s.heap.IsTupleIter i2 l2 k) (hl2:s.heap.IsTuple l2 ys) (hx:X.cps[k]? = some c) (hy:ys[k]? = some y)
  (hQ:∀ h' t',IsZip h' z TI TO (rawInt s.heap.objs.size)->IsPair h' TO (.str ⟨#[c]⟩ t') y->h'.IsStrIter i1 (strIterType X) X tx (k+1)->h'.IsTupleIter i2 l2 (k+1)->IsPair h' s.heap.objs.size (.str ⟨#[c]⟩ t') y->h'.objs.size=s.heap.objs.size+1 ->
   (∀ c o,c≠z->c≠TO->c≠i1->c≠i2->s.heap.get? c=some o->h'.get? c=some o)->Q (.ref s.heap.objs.size) { s with heap:=h',toks:=s.toks+1 }) :
  wpAny (model prog w) A (Builtin.«zip.__next__» ⟨[.ref z],[]⟩) (fun fin s'=>∃ v,fin=.done (.ret v)/\Q v s') E s:=by
 show wpAny _ _ (field (.ref z) 2 >>= _) _ _ _
 refine oH (wpAny_field hz rfl (x:=.bool false) rfl ?_)
 show wpAny _ _ (field (.ref z) 3 >>= _) _ _ _
 refine oH (wpAny_field hz rfl (x:=.ref TI) rfl ?_)
 refine oH (wpAny_seqItems hTI rfl ?_)
 show wpAny _ _ (Builtin.SmallTypes.ownedTupleIsFree (.ref z) >>= _) _ _ _
 refine oH ?_
 unfold Builtin.SmallTypes.ownedTupleIsFree
 refine oH (wpAny_field hz rfl (x:=.none) rfl (oJ ?_))
 simp only[if_true]
 refine oH (wpAny_rule ?_)
 refine oH (wpAny_field hz rfl (x:=.ref TO) rfl ?_)
 refine oH (wpAny_setField_rec hz (by simp) fun h₁ hz₁ hs₁=>?_)
 replace hz₁:IsZip h₁ z TI TO .ellipsis:=hz₁
 refine oH ?_
 simp only[List.zipIdx_cons,List.zipIdx_nil,db,eO]
 refine oH (oH (wpAny_onRaise ?_))
 show wpAny _ _ (Builtin.SmallTypes.nextOf (.ref i1) >>= _) _ _ _
 refine oH (qu (s:={ s with heap:=h₁ }) (va h1 fun o e=>hs₁.extBut _ _ D.i1z e) hx fun h₂ h1₂ hs₂=>oJ ?_)
 have hTO₂:IsPair h₂ TO a b:=hs₂.extBut _ _ D.TOi1 (hs₁.extBut _ _ D.TOz hTO)
 refine oH (wpAny_seqItems hTO₂ rfl ?_)
 refine oH (wpAny_updateSeq_pair hTO₂ fun h₃ hTO₃ hs₃=>?_)
 replace hTO₃:IsPair h₃ TO (.str ⟨#[c]⟩ s.toks) b:=hTO₃
 refine oH (wpAny_letGo (oJ ?_))
 refine oH (oH (wpAny_onRaise ?_))
 show wpAny _ _ (Builtin.SmallTypes.nextOf (.ref i2) >>= _) _ _ _
 have up3:∀ d o,d≠z->d≠i1->d≠TO->s.heap.get? d=some o->h₃.get? d=some o:=fun d o d1 d2 d3 e=>hs₃.extBut _ _ d3 (hs₂.extBut _ _ d2 (hs₁.extBut _ _ d1 e))
 refine oH (jf (vG h2 fun o e=>up3 _ o D.i2z D.i12.symm D.TOi2.symm e) (Q0 hl2 fun o e=>up3 _ o D.l2z D.l2i1 D.l2TO e) hy fun h₄ h2₄ hs₄=>oJ ?_)
 have hTO₄:IsPair h₄ TO (.str ⟨#[c]⟩ s.toks) b:=hs₄.extBut _ _ D.TOi2 hTO₃
 refine oH (wpAny_seqItems hTO₄ rfl ?_)
 refine oH (wpAny_updateSeq_pair hTO₄ fun h₅ hTO₅ hs₅=>?_)
 replace hTO₅:IsPair h₅ TO (.str ⟨#[c]⟩ s.toks) y:=hTO₅
 refine oH (wpAny_letGo (oJ (oJ ?_)))
 refine oH (wpAny_seqItems hTO₅ rfl ?_)
 refine oH (wpAny_newTuple ?_)
 have hsz:h₅.objs.size=s.heap.objs.size:=by rw[hs₅.1,hs₄.1,hs₃.1,hs₂.1,hs₁.1]
 have hz₅:IsZip h₅ z TI TO .ellipsis:=hs₅.extBut _ _ D.TOz.symm (hs₄.extBut _ _ D.i2z.symm (hs₃.extBut _ _ D.TOz.symm (hs₂.extBut _ _ D.i1z.symm hz₁)))
 have hk₅:∀ c o,c≠z->c≠TO->c≠i1->c≠i2->s.heap.get? c=some o->h₅.get? c=some o:=fun c o c1 c2 c3 c4 e =>
  hs₅.extBut _ _ c2 (hs₄.extBut _ _ c4 (up3 _ _ c1 c3 c2 e))
 have h1₅:h₅.IsStrIter i1 (strIterType X) X tx (k+1):=va h1₂ fun o e=>hs₅.extBut _ _ D.TOi1.symm (hs₄.extBut _ _ D.i12 (hs₃.extBut _ _ D.TOi1.symm e))
 have h2₅:h₅.IsTupleIter i2 l2 (k+1):=vG h2₄ fun o e=>hs₅.extBut _ _ D.TOi2.symm e
 have hzlt:z<h₅.objs.size:=ay hz₅
 show wpAny _ _ (Builtin.SmallTypes.ownedTupleHandOut (.ref z) (.ref h₅.objs.size) >>= _) _ _ _
 refine oH ?_
 unfold Builtin.SmallTypes.ownedTupleHandOut
 have hz₆:IsZip (h₅.push { cls:=.type "tuple",data:=.seq #[.str ⟨#[c]⟩ s.toks,y] }) z TI TO .ellipsis:=aa _ hz₅
 refine oH (wpAny_setField_rec hz₆ (by simp) fun h₇ hz₇ hs₇=>?_)
 replace hz₇:IsZip h₇ z TI TO (rawInt h₅.objs.size):=hz₇
 refine wpAny_setField_rec hz₇ (by simp) fun h₈ hz₈ hs₈=>?_
 replace hz₈:IsZip h₈ z TI TO (rawInt h₅.objs.size):=hz₈
 have up:∀ c o,c≠z->h₅.get? c=some o->h₈.get? c=some o:=fun c o c1 e=>hs₈.extBut _ _ c1 (hs₇.extBut _ _ c1 (aa _ e))
 have hT₈:IsPair h₈ h₅.objs.size (.str ⟨#[c]⟩ s.toks) y:=hs₈.extBut _ _ (cb hzlt) (hs₇.extBut _ _ (cb hzlt) (aI _ rfl))
 have hz8:h₈.objs.size=h₅.objs.size+1:=by rw[hs₈.1,hs₇.1,bH]
 rw[hsz] at hz₈ hT₈ hz8
 refine oJ ⟨_,rfl,?_⟩
 show Q (.ref h₅.objs.size) _
 rw[hsz]
 exact hQ h₈ s.toks hz₈ (up _ _ D.TOz hTO₅) (va h1₅ fun o e=>up _ o D.i1z e) (vG h2₅ fun o e=>up _ o D.i2z e) hT₈ hz8 fun c o c1 c2 c3 c4 e=>up c o c1 (hk₅ c o c1 c2 c3 c4 e)
theorem JJ{z TI TO i1 i2 l2:Addr}{k:Nat}{X:Str}{tx:Tok}{a b:Value}{Q:Fin->Shared->Prop}(hh:A.handled=none)(D:zaI z TI TO i1 i2 l2)
  (hz:IsZip s.heap z TI TO .none) (hTI:IsPair s.heap TI (.ref i1) (.ref i2)) (hTO:IsPair s.heap TO a b)
  (h1:s.heap.IsStrIter i1 (strIterType X) X tx k) (hx:X.cps[k]? = none)
  (hE:∀ h' e,(∀ c o,c≠z->c≠TO->c≠i1->c≠i2->s.heap.get? c=some o->h'.get? c=some o)->(∃ o,h'.get? e=some o/\o.cls=.type "StopIteration")->E (.ref e) { s with heap:=h' }) :
  wpAny (model prog w) A (Builtin.«zip.__next__» ⟨[.ref z],[]⟩) Q E s:=by
 show wpAny _ _ (field (.ref z) 2 >>= _) _ _ _
 refine oH (wpAny_field hz rfl (x:=.bool false) rfl ?_)
 show wpAny _ _ (field (.ref z) 3 >>= _) _ _ _
 refine oH (wpAny_field hz rfl (x:=.ref TI) rfl ?_)
 refine oH (wpAny_seqItems hTI rfl ?_)
 show wpAny _ _ (Builtin.SmallTypes.ownedTupleIsFree (.ref z) >>= _) _ _ _
 refine oH ?_
 unfold Builtin.SmallTypes.ownedTupleIsFree
 refine oH (wpAny_field hz rfl (x:=.none) rfl (oJ ?_))
 simp only[if_true]
 refine oH (wpAny_rule ?_)
 refine oH (wpAny_field hz rfl (x:=.ref TO) rfl ?_)
 refine oH (wpAny_setField_rec hz (by simp) fun h₁ hz₁ hs₁=>?_)
 replace hz₁:IsZip h₁ z TI TO .ellipsis:=hz₁
 refine oH ?_
 simp only[List.zipIdx_cons,List.zipIdx_nil,db,eO]
 refine oH (oH (wpAny_onRaise ?_))
 show wpAny _ _ (Builtin.SmallTypes.nextOf (.ref i1) >>= _) _ _ _
 refine oH (jr (s:={ s with heap:=h₁ }) hh (va h1 fun o e=>hs₁.extBut _ _ D.i1z e) hx fun h₂ e hs₂ he=>?_)
 obtain⟨oe,hoe,hce⟩:=he
 have hz₂:IsZip h₂ z TI TO .ellipsis:=hs₂ _ _ D.i1z.symm hz₁
 have hez:e≠z:=fun x=>by subst x;rw[hz₂] at hoe;cases hoe;simp at hce
 refine wpAny_setField_rec hz₂ (by simp) fun h₃ _ hs₃=>hE h₃ e (fun c o c1 _ c3 _ x=>hs₃.extBut _ _ c1 (hs₂ _ _ c3 (hs₁.extBut _ _ c1 x))) ⟨oe,hs₃.extBut _ _ hez hoe,hce⟩
end
end L3
namespace L3
section
variable{prog:Program}{w:World}{A:Around}{E:Value->Shared->Prop}{s:Shared}
theorem qk{z TI TO i1 i2 l2:Addr}{k c:Nat}{X:Str}{tx:Tok}{ys:Array Value}{y a b:Value}{Q:Option Value->Shared->Prop}(D:zaI z TI TO i1 i2 l2)
  (hz:IsZip s.heap z TI TO .none) (hTI:IsPair s.heap TI (.ref i1) (.ref i2)) (hTO:IsPair s.heap TO a b)
  (h1:s.heap.IsStrIter i1 (strIterType X) X tx k) (h2:s.heap.IsTupleIter i2 l2 k) (hl2:s.heap.IsTuple l2 ys) (hx:X.cps[k]? = some c) (hy:ys[k]? = some y)
  (hQ:∀ h' t',IsZip h' z TI TO (rawInt s.heap.objs.size)->IsPair h' TO (.str ⟨#[c]⟩ t') y->h'.IsStrIter i1 (strIterType X) X tx (k+1)->h'.IsTupleIter i2 l2 (k+1)->IsPair h' s.heap.objs.size (.str ⟨#[c]⟩ t') y->h'.objs.size=s.heap.objs.size+1 ->
   (∀ c o,c≠z->c≠TO->c≠i1->c≠i2->s.heap.get? c=some o->h'.get? c=some o)->Q (some (.ref s.heap.objs.size)) { s with heap:=h',toks:=s.toks+1 }) :
  wpAny (model prog w) A (pyNext (.ref z)) Q E s:=by
 have hT:s.TypeIs (.ref z) "zip":=⟨_,hz,rfl⟩
 unfold pyNext
 exact oH (wpAny_attempt (wpAny_callSpecial?_slot (name:=bG "__next__") hT F.slot_zip_next
  (wpAny_call_entry F.slot_zip_next hT F.entry_zip_next
   (UX D hz hTI hTO h1 h2 hl2 hx hy fun h' t' a1 a2 a3 a4 a5 a6 a7=>oJ (hQ h' t' a1 a2 a3 a4 a5 a6 a7)) (F.args_zip_next_1 _))))
theorem jw{z TI TO i1 i2 l2:Addr}{k:Nat}{X:Str}{tx:Tok}{a b:Value}{Q:Option Value->Shared->Prop}(hh:A.handled=none)(D:zaI z TI TO i1 i2 l2)
  (hz:IsZip s.heap z TI TO .none) (hTI:IsPair s.heap TI (.ref i1) (.ref i2)) (hTO:IsPair s.heap TO a b)
  (h1:s.heap.IsStrIter i1 (strIterType X) X tx k) (hx:X.cps[k]? = none)
  (hQ:∀ h',(∀ c o,c≠z->c≠TO->c≠i1->c≠i2->s.heap.get? c=some o->h'.get? c=some o)->Q none { s with heap:=h' }):wpAny (model prog w) A (pyNext (.ref z)) Q E s:=by
 have hT:s.TypeIs (.ref z) "zip":=⟨_,hz,rfl⟩
 unfold pyNext
 refine oH (wpAny_attempt (wpAny_callSpecial?_slot (name:=bG "__next__") hT F.slot_zip_next
  (wpAny_call_entry F.slot_zip_next hT F.entry_zip_next (JJ hh D hz hTI hTO h1 hx fun h' e hk he=>?_) (F.args_zip_next_1 _))))
 obtain⟨o,ho,hc⟩:=he
 refine oH (wpAny_isInstance (T:="StopIteration") (b:=true) ⟨o,ho,hc⟩ isSubtype_stop ?_)
 exact oJ (hQ _ hk)
end
abbrev zbz(h:Heap)(x:Str)(t:Tok):Heap:=h.push { cls:=.type (strIterType x),data:=.fields #[.str x t,.int 0 0] }
abbrev zby(h:Heap)(x:Str)(t:Tok)(l2:Addr):Heap:=(zbz h x t).push { cls:=.type "tuple_iterator",data:=.fields #[.ref l2,.int 0 0] }
abbrev zbv(h:Heap)(x:Str)(t:Tok)(l2:Addr):Heap:=(zby h x t l2).push { cls:=.type "tuple",data:=.seq #[.ref h.objs.size,.ref (zbz h x t).objs.size] }
abbrev zbB(h:Heap)(x:Str)(t:Tok)(l2:Addr):Heap:=(zbv h x t l2).push { cls:=.type "tuple",data:=.seq #[.none,.none] }
abbrev Kd(h:Heap)(x:Str)(t:Tok)(l2:Addr):Heap:=(zbB h x t l2).push { cls:=.type "zip",data:=.fields #[.none,.bool false,.bool false,.ref (zby h x t l2).objs.size,.ref (zbv h x t l2).objs.size] }
theorem kZ(x:Str)(t:Tok)(l2:Addr)(ys:Array Value) :
  Meets (Builtin.«zip.__new__» ⟨[.type "zip",.str x t,.ref l2],[]⟩) (fun _ R s=>s.heap.IsTuple l2 ys /\
   R (.ok (.ret (.ref (zbB s.heap x t l2).objs.size))) { s with heap:=Kd s.heap x t l2 }) :=
 .of_wp fun prog w A R s h=>by
  obtain⟨hp,g,d,tk,os⟩:=s;obtain⟨hl2,h⟩:=h
  have hsub:=sub_zip
  have hL2:Heap.IsTuple (Shared.heap ⟨hp.push { cls:=.type (strIterType x),data:=.fields #[.str x t,.int 0 0] },g,d,tk,os⟩) l2 ys:=Q0 hl2 fun o e=>aa _ e
  wp_walk using wpAny_pyIter_strU (s:=⟨hp,g,d,tk,os⟩) (x:=x) (t:=t),wpAny_pyIter_tuple hL2
  exact⟨_,rfl,h⟩
section
variable{prog:Program}{w:World}{A:Around}{E:Value->Shared->Prop}{s:Shared}
theorem QB{x:Str}{t:Tok}{l2:Addr}{ys:Array Value}{Q:Value->Shared->Prop}(hl2:s.heap.IsTuple l2 ys)
  (h:∀ h',IsZip h' (s.heap.objs.size+4) (s.heap.objs.size+2) (s.heap.objs.size+3) .none->IsPair h' (s.heap.objs.size+2) (.ref s.heap.objs.size) (.ref (s.heap.objs.size+1)) ->
   IsPair h' (s.heap.objs.size+3) .none .none->h'.IsStrIter s.heap.objs.size (strIterType x) x t 0->h'.IsTupleIter (s.heap.objs.size+1) l2 0->h'.objs.size=s.heap.objs.size+5 ->
   (∀ c o,s.heap.get? c=some o->h'.get? c=some o)->Q (.ref (s.heap.objs.size+4)) { s with heap:=h' }) :
  wpAny (model prog w) A (call (.type "zip") [.str x t,.ref l2]) Q E s:=by
 refine callType_new F.called_zip (by decide) (F.typeCall_zip_2 _ _) (F.newCall_zip_2 _ _) (fun obj=>F.args_object_init_3 obj _ _) F.entry_zip_new
  (kZ x t l2 ys) ⟨hl2,?_⟩
 have z1:(zbz s.heap x t).objs.size=s.heap.objs.size+1:=bH ..
 have z2:(zby s.heap x t l2).objs.size=s.heap.objs.size+2:=by rw[bH,z1]
 have z3:(zbv s.heap x t l2).objs.size=s.heap.objs.size+3:=by rw[bH,z2]
 have z4:(zbB s.heap x t l2).objs.size=s.heap.objs.size+4:=by rw[bH,z3]
 have z5:(Kd s.heap x t l2).objs.size=s.heap.objs.size+5:=by rw[bH,z4]
 have g5:(Kd s.heap x t l2).get? (zbB s.heap x t l2).objs.size=some _:=aI _ rfl
 have g4:(Kd s.heap x t l2).get? (zbv s.heap x t l2).objs.size=some _:=aa _ (aI _ rfl)
 have g3:(Kd s.heap x t l2).get? (zby s.heap x t l2).objs.size=some _:=aa _ (aa _ (aI _ rfl))
 have g2:(Kd s.heap x t l2).get? (zbz s.heap x t).objs.size=some _:=aa _ (aa _ (aa _ (aI _ rfl)))
 have g1:(Kd s.heap x t l2).get? s.heap.objs.size=some _:=aa _ (aa _ (aa _ (aa _ (aI _ rfl))))
 show _/\_
 rw[z2,z3,z4] at g5
 rw[z1,z2] at g3
 rw[z3] at g4
 rw[z1] at g2
 rw[z4]
 exact⟨⟨_,g5,rfl⟩,h _ g5 g3 g4 ⟨_,g1,rfl,rfl⟩ ⟨_,g2,rfl,rfl⟩ z5 fun c o x =>
  aa _ (aa _ (aa _ (aa _ (aa _ x))))⟩
end
end L3
namespace L3
def Izs(K:oO)(l:List Nat)(b:Addr):It:=⟨fun i H=>∃ ys y,SqT K H b ys/\i<l.length/\ys[i]? = some y,fun i H v H'=>∃ p c y,H p=none/\l[i]? = some c/\(∀ ys,SqT K H b ys->ys[i]? = some y)/\v=.ref p/\H'=upd H p (.tup [.str (tx [c]),y]),fun i H=>i=l.length⟩
def ZSt(z TI TO i1 i2:Addr)(X:Str)(t:Tok)(l2:Addr)(i:Nat)(h:Heap):Prop:=IsZip h z TI TO .none/\IsPair h TI (.ref i1) (.ref i2)/\(∃ a b,IsPair h TO a b)/\h.IsStrIter i1 (strIterType X) X t i/\h.IsTupleIter i2 l2 i
theorem U7{P:Program}{w:World}{K:oO}{elts:List Expr}{x1:Nat}{tpos:Pos}(z TI TO i1 i2 l2:Addr)(l:List Nat)(t:Tok)(D:zaI z TI TO i1 i2 l2) :
  UB P w K (.Tuple elts x1 tpos) (Izs K l l2) [z,TI,TO,i1,i2] z (fun i h=>ZSt z TI TO i1 i2 (tx l) t l2 i h) where
 mem:=by simp
 obj:=fun i h st b hb=>by
  obtain⟨hz,hTI,⟨a,c,hTO⟩,⟨o1,e1,c1,d1⟩,⟨o2,e2,c2,d2⟩⟩:=st
  simp only[dm,d8,or_false] at hb
  rcases hb with rfl | rfl | rfl | rfl | rfl
  ·exact⟨_,hz,fun v q=>by have q':Data.fields _=Data.cell v:=q;cases q'⟩
  ·exact⟨_,hTI,fun v q=>by have q':Data.seq _ _=Data.cell v:=q;cases q'⟩
  ·exact⟨_,hTO,fun v q=>by have q':Data.seq _ _=Data.cell v:=q;cases q'⟩
  ·exact⟨o1,e1,fun v q=>by rw[d1] at q;cases q⟩
  ·exact⟨o2,e2,fun v q=>by rw[d2] at q;cases q⟩
 keep:=fun i h h' st k=>by
  obtain⟨hz,hTI,⟨a,c,hTO⟩,h1,h2⟩:=st
  exact⟨k z (by simp) _ hz,k TI (by simp) _ hTI,⟨a,c,k TO (by simp) _ hTO⟩,va h1 fun o e=>k i1 (by simp) o e,vG h2 fun o e=>k i2 (by simp) o e⟩
 item:=by
  intro X hP hw hK hc i pins s σ H E I hf st hg
  subst hP hw hK
  obtain⟨ys,y,hqy,hi,hy⟩:=hg
  obtain⟨its2,rv2,p2,_⟩:=I.tuple hqy
  obtain⟨u2,hu2,ru2⟩:=rv2.get hy
  obtain⟨hz,hTI,⟨a,b,hTO⟩,h1,h2⟩:=st
  have hl2:s.heap.IsTuple l2 its2.toArray:=p2
  have hx:(tx l).cps[i]? = some l[i]:=by
   show l.toArray[i]? = _
   simp [hi]
  refine qk D hz hTI hTO h1 h2 hl2 hx (y:=u2) (by simpa using hu2) fun h' t' a1 a2 a3 a4 a5 a6 hk=>?_
  refine⟨_,rfl,wpAny_letOwnedTupleGo_zip (s:={ s with heap:=h',toks:=s.toks+1 }) a1 fun h2' hz2 sb=>?_⟩
  have zlt:z<s.heap.objs.size:=ay hz
  have TIlt:TI<s.heap.objs.size:=ay hTI
  have TOlt:TO<s.heap.objs.size:=ay hTO
  have i1lt:i1<s.heap.objs.size:=by obtain⟨o,e,_⟩:=h1;exact ay e
  have i2lt:i2<s.heap.objs.size:=by obtain⟨o,e,_⟩:=h2;exact ay e
  have I1:Inv X pins σ H { s with heap:=h2',toks:=s.toks+1 }:=Inv.turns (fp:=[z,TI,TO,i1,i2]) I (fun b o hb q=>by
   have hb':b≠z/\b≠TI/\b≠TO/\b≠i1/\b≠i2:=by simpa using hb
   exact (sb.2 b hb'.1).trans (hk b o hb'.1 hb'.2.2.1 hb'.2.2.2.1 hb'.2.2.2.2 q)) hf
  have hp:H s.heap.objs.size=none:=I.hok.fresh (au _)
  have hT2:h2'.get? s.heap.objs.size=some { cls:=.type "tuple",data:=.seq #[.str ⟨#[l[i]]⟩ t',u2] }:=(sb.2 _ (cb zlt)).trans a5
  have ru1:RelV (.str (tx [l[i]])) (.str ⟨#[l[i]]⟩ t'):=⟨t',rfl⟩
  have I2:Inv X pins σ (upd H s.heap.objs.size (.tup [.str (tx [l[i]]),y])) { s with heap:=h2',toks:=s.toks+1 } :=
   Inv.track I1 (I.fpOk (au _) hp) ⟨by show 2<=oN;decide,[.str ⟨#[l[i]]⟩ t',u2],.cons ru1 (.cons ru2 .nil),⟨_,hT2,rfl,_,rfl⟩⟩
  refine⟨.ref s.heap.objs.size,_,I2,rfl,⟨s.heap.objs.size,l[i],y,hp,by simp [hi],fun zs hz'=>by rw[I.tuple_inj hz' hqy];exact hy,rfl,rfl⟩,⟨hz2,(sb.2 _ D.TIz).trans (hk _ _ D.TIz D.TITO D.TIi1 D.TIi2 hTI),⟨_,_,(sb.2 _ D.TOz).trans a2⟩,va a3 fun o e=>(sb.2 _ D.i1z).trans e,vG a4 fun o e=>(sb.2 _ D.i2z).trans e⟩,fun b hb=>?_⟩
  rw[zo]
  ·exact (hf b hb).1
  ·simp only[dm,d8,or_false] at hb
   rcases hb with rfl | rfl | rfl | rfl | rfl <;> exact aE (by assumption)
 done:=by
  intro X hP hw hK hc i pins s σ H E I hf st hg
  subst hP hw hK
  have hi:i=l.length:=hg
  obtain⟨hz,hTI,⟨a,b,hTO⟩,h1,h2⟩:=st
  refine jw (I.ok.hd hc) D hz hTI hTO h1 ?_ fun h' hk=>⟨rfl,?_⟩
  ·show l.toArray[i]? = none
   simp [hi]
  ·exact Inv.turns (fp:=[z,TI,TO,i1,i2]) (t':=s.toks) I (fun b o hb q=>by
    have hb':b≠z/\b≠TI/\b≠TO/\b≠i1/\b≠i2:=by simpa using hb
    exact hk b o hb'.1 hb'.2.2.1 hb'.2.2.2.1 hb'.2.2.2.2 q) hf
 self:=fun A i s Q E st h=>wpAny_pyIter_zip st.1 h
section
variable{X:Cx}
def iZs(K:oO)(ta:TA):TI:=fun σ H R=>ta σ H fun vs H1=>∃ l b,vs=[.str (tx l),.ref b]/\(∃ ys,SqT K H1 b ys)/\R (Izs K l b) H1
theorem zbn{a b:Expr}{ta:TA}{p pos tpos:Pos}{elts:List Expr}{x1:Nat}(hg:Gl X "zip")(hm:X.mg "zip" = none)(ha:PA X [a,b] ta)(hs:oM [a,b] X.env=(false,eval a X.env)::oM [b] X.env:=by rfl)
  (hpl:(backTo pos (oM [b] X.env)).any (·.1)=false:=by rfl):PI X (.Tuple elts x1 tpos) (.Call (.Name "zip" p) [a,b] [] pos) (iZs X.K ta):=by
 intro pins s σ H R I h
 refine Call_ (vn I hg hm PyProof.Rows.boot_zip (bD (thn (ha pos pins s σ H _ I h) fun us s1 ⟨vs,H1,I1,r1,q1⟩=>?_) hs hpl))
 obtain⟨l,l2,e,⟨ys,hqy⟩,q⟩:=q1
 subst e
 obtain⟨u1,u2,rfl,ru1,ru2⟩:=Va r1
 obtain⟨t,rfl⟩:=ru1
 cases ru2
 obtain⟨its2,rv2,p2,_⟩:=I1.tuple hqy
 have hl2:s1.heap.IsTuple l2 its2.toArray:=p2
 have l2lt:l2<s1.heap.objs.size:=by obtain⟨o,e,_⟩:=hl2;exact ay e
 have ne:∀ a b:Nat,a≠b->s1.heap.objs.size+a≠s1.heap.objs.size+b:=fun a b h e=>h (Nat.add_left_cancel e)
 have nl:∀ a:Nat,l2≠s1.heap.objs.size+a:=fun a=>aE (aD l2lt (cj _ _))
 refine QB hl2 fun h' hz hTI hTO h1 h2 hsz kk=>?_
 have I2:Inv X pins σ H1 { s1 with heap:=h' }:=I1.kept (t':=s1.toks) kk
 refine wpAny_pyIter_zip (s:={ s1 with heap:=h' }) hz ?_
 refine⟨s1.heap.objs.size+4,[s1.heap.objs.size+4,s1.heap.objs.size+2,s1.heap.objs.size+3,s1.heap.objs.size,s1.heap.objs.size+1],_,_,H1,rfl,I2,U7 (s1.heap.objs.size+4) (s1.heap.objs.size+2) (s1.heap.objs.size+3) s1.heap.objs.size (s1.heap.objs.size+1) l2 l t ⟨⟨ne 2 4 (by decide),ne 3 4 (by decide),ne 0 4 (by decide),ne 1 4 (by decide),ne 2 3 (by decide),ne 2 0 (by decide),ne 2 1 (by decide),ne 3 0 (by decide),ne 3 1 (by decide),ne 0 1 (by decide)⟩,nl 4,nl 3,nl 0,nl 1⟩,⟨hz,hTI,⟨_,_,hTO⟩,h1,h2⟩,fun b hb=>?_,q⟩
 have hb':s1.heap.objs.size<=b:=by
  simp only[dm,d8,or_false] at hb
  rcases hb with e | e | e | e | e
  ·rw[e];exact cj _ _
  ·rw[e];exact cj _ _
  ·rw[e];exact cj _ _
  ·rw[e];exact au _
  ·rw[e];exact cj _ _
 exact I1.fpOk hb' (I1.hok.fresh hb')
end
def CompZ(K:oO)(l:List Nat)(b:Addr)(g:TG)(tt:TT)(te:TE)(own:Nat)(ix:List Nat)(σ:L2.St)(H1:Hp)(Q:VK)(D:Addr):Prop:=XX (Izs K l b) g tt te own ix σ H1 Q D
theorem zJ{K:oO}{ta:TA}{g:TG}{tt:TT}{te:TE}{own:Nat}{ix:List Nat}{σ:L2.St}{H:Hp}{Q:VK}:j9 (iZs K ta) g tt te own ix σ H Q=ta σ H fun vs H1=>∃ l b,vs=[.str (tx l),.ref b]/\(∃ ys,SqT K H1 b ys)/\∀ D,H1 D=none->CompZ K l b g tt te own ix σ H1 Q D:=rfl
section
variable{g:TG}{tt:TT}{te:TE}{own:Nat}{ix:List Nat}{σ:L2.St}{H1:Hp}{Q:VK}{D:Addr}
theorem CompZ.by{K:oO}{l:List Nat}{b:Addr}{ys:List V}(Pv:Nat->List V->Hp->Prop)(hlen:l.length=ys.length)(h0:Pv 0 [] (upd H1 D (.lst [])))(hl:∀ i acc H',i<=l.length->Pv i acc H'->SqT K H' b ys)
  (hs:∀ i c y acc H' p,l[i]? = some c->ys[i]? = some y->Pv i acc H'->H' p=none->g (.ref p) (vj σ own ix) (upd H' p (.tup [.str (tx [c]),y])) fun σ3 H3=>xu (vj σ own ix) σ3/\tt σ3 H3 fun b H4=>if b=true then
   te σ3 H4 fun v H5=>H5 D=some (.lst acc)/\acc.length<oN/\CNx l.length i Pv (acc ++ [v]) (upd H5 D (.lst (acc ++ [v]))) else CNx l.length i Pv acc H4)
  (hd:∀ acc H',Pv l.length acc H'->Q (.ref D) H'):CompZ K l b g tt te own ix σ H1 Q D:=by
 refine⟨fun i m acc H=>m=l.length - i/\i<=l.length/\Pv i acc H,⟨l.length,by simp,aJ _,h0⟩,?_⟩
 rintro i m acc H' ⟨rfl,hi,p⟩
 have q:=hl i acc H' hi p
 by_cases hlt:i<l.length
 ·refine .inr ⟨⟨ys,ys[i],q,hlt,by simp [<- hlen,hlt]⟩,fun x H2 y=>?_⟩
  obtain⟨p',c,y,hp,hc,hy,ev,eH⟩:=y
  subst ev eH
  exact hs i c y acc H' p' hc (hy ys q) p hp
 ·have e:i=l.length:=by omega
  subst e
  exact .inl ⟨rfl,hd acc H' p⟩
end
end L3
namespace L3
section
variable{X:Cx}{k1 k2 k3 j:Nat}{C1 C2 C3:Addr}{m:Str}{ps:List Str}{s1 s2 s3:Sp}{o e:Expr}{es:List Expr}{ta:TE}{t:TA}{apos pos p:Pos}{E:XK}
def yx(t1 t2:TE):TE:=fun σ H Q=>t1 σ H Q\/t2 σ H Q
theorem Jo{t1 t2:TE}(h1:PE X e t1)(h2:PE X e t2):PE X e (yx t1 t2):=by
 intro pins s σ H Q I h
 rcases h with h | h
 ·exact h1 pins s σ H Q I h
 ·exact h2 pins s σ H Q I h
theorem zam(D1:DM X.prog X.w X.K X.mg X.base CX0 k1 C1 m ps s1)(D2:DM X.prog X.w X.K X.mg X.base CX0 k2 C2 m ps s2)(D3:DM X.prog X.w X.K X.mg X.base CX0 k3 C3 m ps s3)(c1:Cls X.K C1)(c2:Cls X.K C2)(c3:Cls X.K C3)(hr:Room j X.A)(he:PE X o ta)(ha:PA X (e::es) t){pl:Sem Bool}
    (hst:oM (e::es) X.env=(false,eval e X.env)::oM es X.env:=by rfl) (hpl:(backTo pos (oM es X.env)).any (·.1)=false:=by rfl)
    (ht:eval (.Call (.Attribute o m apos) (e::es) [] pos) X.env=(do
      let ov <- eval o X.env
      standAt apos.atName
      let (f,first) <- holding [ov] (getMethod ov m pl)
      callWith pos f first (backTo pos (oM (e::es) X.env)) (backToKw pos (keywordEach [] X.env))):=by rfl) (h1:k1<=j:=by decide) (h2:k2<=j:=by decide) (h3:k3<=j:=by decide) :
    PE X (.Call (.Attribute o m apos) (e::es) [] pos) (yx (ZV C1 m s1 [] E0 ta t) (yx (ZV C2 m s2 [] E0 ta t) (ZV C3 m s3 [] E0 ta t))) :=
  Jo (me1 (pl:=pl) D1 c1 hr he ha hst hpl ht h1) (Jo (me1 (pl:=pl) D2 c2 hr he ha hst hpl ht h2) (me1 (pl:=pl) D3 c3 hr he ha hst hpl ht h3))
end
end L3
namespace L3
section
variable{X:Cx}
def zbQ:V->List V->Hp->VK->Prop:=fun x vs H Q=>∃ l xs y,x=.ref l/\vs=[.int 0,y]/\H l=some (.lst xs)/\xs.length<oN/\Q .non (upd H l (.lst (y::xs)))
theorem KW:MtM X "list.insert" zbQ:=by
 intro pins s σ H x vs v us Q I rx rv h
 obtain⟨l,xs,y,rfl,rfl,hH,hz,q⟩:=h
 cases rx
 cases rv with
 | cons r1 r2 =>
  obtain⟨t0,rfl⟩:=r1
  obtain⟨u,rfl,ru⟩:=wI r2
  obtain⟨z,its,n,r,hl,e⟩:=I.lstM hH
  refine call_meets F.slot_list_insert ⟨_,e,rfl⟩ F.entry_list_insert (F.args_list_insert_3 _ _ _) (PySem.AutoSeq1.list_insert_list_int_val_1 l its.toArray n 0 t0 u (by decide) (by rw[ao];omega)) ⟨e,?_⟩
  refine⟨.non,_,I.lset (its':=u::its) hH e ?_ (.cons ru r) ?_,rfl,q⟩
  ·simp
  ·rw[aM]
   omega
end
end L3
namespace L3
section
variable{X:Cx}
end
end L3
namespace L3
open PySem PySem.Spec PyProof.Rows L2 PySem.W PySem.Calls
def uq(n:Int):Prop:=Builtin.Int.intBits n<=1048576
theorem Q7:∀(ns:List Int),WData.weightAll (ns.map WData.int)<=1048576->∀ n ∈ ns,uq n
 | [],_,n,h=>nomatch h
 | m::ns,hw,n,h=>by
  rw[aC,WData.weightAll] at hw
  rcases List.mem_cons.mp h with rfl | h
  ·have e:WData.weight (.int n)=Builtin.Int.intBits n:=by
    rw[WData.weight]
    rfl
   unfold uq
   omega
  ·exact Q7 ns (by omega) n h
section
variable{X:Cx}
theorem QE{i j:Int}(hi:uq i)(hj:uq j):IntMulOk i j:=by
 unfold IntMulOk Builtin.Int.intTooBig
 unfold uq at hi hj
 have:(bitsLine:Nat)=134217728:=rfl
 simp
 intro _ _
 omega
theorem Qn:OpR X (binaryOp .Mult) (rI (fun i j=>uq i/\uq j) fun i j=>.int (i * j)):=opI fun _ _ _ _ _ _ _ hc q=>mul_int q (QE hc.1 hc.2)
end
theorem ZD{l:OpenLaw}{n:Nat}{q:Program}{loose:List Str}{XP:(Str->Option Value)->Heap->Prop}{YP:World->Heap->Prop}{d:DefRec}
  (hn:l.most=some n) (hdf:d.params.defaults=[])
  (call:∀(w:World) (s₀ s₁:Shared) (mg mb:Str->Option Value) (fa:Addr) (o:Obj) (pm cd doc:Value) (a:Addr) (vs:List Value) (ns:List Int),
   Ground q loose [] XP w s₀ mg mb s₁.heap->YP w s₁.heap ->
   s₁.heap.get? fa=some o->o.data=.func (docDef d.name d.params d.body d.scope pm cd doc)->s₁.heap.CodeRec cd d.name->mg d.name=some (.ref fa) ->
   s₁.heap.get? a=some { cls:=.type "list",data:=.seq vs.toArray }->IntsAre vs ns->ns.length<=n->(∀ z ∈ ns,uq z)->s₁.gens=#[] ->
   codeAny (model l.prog w) callerA (.call (.ref fa) ⟨[.ref a],[]⟩) (fun r s'=>r=.ok (.ret (.bool true))/\OldK s₁.heap s'.heap/\s'.os=s₁.os/\AllBare s'.gens) s₁) :
  WalkO q loose XP YP l.row.toRowW d [] (fun f vs=>fw f vs):=by
 intro w s₀ s₁ mg mb G Y fa o pm cd doc dV kV ho hd hcd hD hmg hg args vals as hpre hlay hrd hwl hlo
 obtain rfl:dV=.none:=Dflts.none hD hdf
 obtain rfl:kV=.none:=Dflts.noKw hD
 obtain⟨a,vs,ns,rfl,rfl,hobj,hints,hlen⟩:=Att.script_of hn hpre hwl
 have hb:∀ z ∈ ns,uq z:=by
  refine Q7 ns ?_
  have h1:WData.layable (WData.list (ns.map WData.int))=true:=by
   have:=hlay
   unfold WData.layableAll at this
   simpa using this
  unfold WData.layable at h1
  simp only[cE,decide_eq_true_eq] at h1
  have h2:=h1.2
  rw[WData.weight] at h2
  exact h2
 refine enter_call (codeAny_mono (call w s₀ s₁ mg mb fa o pm cd doc a vs ns G Y ho (fd_plain hd) hcd hmg hobj hints hlen hb hg) fun r s' hq=>?_)
 obtain⟨rfl,h2,h3,h4⟩:=hq
 exact⟨.inl ⟨.bool true,.bool true,[],rfl,fun _=>rfl,.bool true,Att.post_true l _,fun _=>⟨List.Pairwise.nil,fun _ hm=>(nomatch hm)⟩⟩,h2,h3,h4⟩
end L3
namespace L3
section
variable{X:Cx}{k j:Nat}{C:Addr}{x f':Str}{ps:List Str}{sp:Sp}{e:Expr}{es:List Expr}{t:TA}{te:TX}{pos p:Pos}
end
section
variable{X:Cx}{k j:Nat}{C:Addr}{m x:Str}{ps:List Str}{sp:Sp}{e:Expr}{es:List Expr}{t:TA}{apos pos p:Pos}{E:XK}
end
end L3
namespace L3
section
variable{prog:Program}{w:World}{A:Around}{E:Value->Shared->Prop}{s:Shared}{env:Env}
end
end L3
namespace L3
theorem XEg.xe{X:Cx}{E:XK}(h:XEg X E):XE X E:=fun e s ⟨pins,σ,H,x,C,t,dx,tb,q⟩=>h e s ⟨.none,false,pins,σ,H,x,C,t,dx,tb,q⟩
section
variable{X:Cx}{k:Nat}{ps:List Str}{sp:Sp}{ds:List Value}{dvs:List V}{E:XK}{x:Str}{p pos:Pos}{e:Expr}{es:List Expr}{t:TA}
end
section
variable{X:Cx}{o e:Expr}{to:TE}{te:TX}{name:Str}{apos cpos:Pos}{T id:String}{r:V->List V->Hp->VK->Prop}
end
section
variable{X:Cx}
end
section
variable{X:Cx}{k j:Nat}{C:Addr}{ps:List Str}{sp:Sp}{e:Expr}{es:List Expr}{t:TA}{pos p:Pos}{x:Str}
end
end L3
namespace L3
theorem YH(x y:Str)(i j:Int)(t u v v':Tok):Gives (Builtin.«str.find» ⟨[.str x t,.str y u,.int i v,.int j v'],[]⟩) (.int (match Builtin.Str.occurrences x y (fromIndex x.length i) (min (fromIndex x.length j) x.length) 1 with | k::_=>(k:Int) | []=>-1)):=by
 show Gives (match Builtin.Str.occurrences x y (fromIndex x.length i) (min (fromIndex x.length j) x.length) 1 with | k::_=>retInt k | []=>(do rule "str.find.not-found";retInt (-1))) _
 cases Builtin.Str.occurrences x y (fromIndex x.length i) (min (fromIndex x.length j) x.length) 1 with
 | nil=>exact .rule (.of_eq rfl)
 | cons k _=>exact .of_eq rfl
theorem YJ(x y:Str)(lo hi:Nat) :
  (Builtin.Str.occurrences x y lo hi 1=[]/\∀ i,lo<=i->¬ StrLaws.At x y hi i) \/
  ∃ i r,Builtin.Str.occurrences x y lo hi 1=i::r/\lo<=i/\StrLaws.At x y hi i/\∀ k,lo<=k->k<i->¬ StrLaws.At x y hi k:=by
 rw[StrLaws.occ_eq]
 rcases StrLaws.occ_first x y hi 1 (au 1) (List.range' lo (hi+1 - lo)) lo (fun i hm=>(List.mem_range'_1.mp hm).1) with ⟨e,no⟩ | ⟨pre,a,post,e,e0,at_a,no⟩
 ·exact .inl ⟨by rw[e],fun i h1 h2=>no i (by have:=h2.1;rw[List.mem_range'_1];omega) h2⟩
 ·have sp:=StrLaws.range'_split_from e
  generalize (forIn (List.range' lo (hi+1 - lo)) ((#[]:Array Nat),lo) (StrLaws.occBody x y hi 1)).run.fst=z at e0 ⊢
  obtain⟨zs⟩:=z
  cases zs with
  | nil=>simp at e0
  | cons b r =>
   have:b=a:=by simpa using e0
   subst this
   exact .inr ⟨b,r,rfl,sp.1,at_a,fun k h1 h2=>no k (sp.2 k h1 h2)⟩
theorem zct(l p:List Nat)(hi i:Nat):StrLaws.At (tx l) (tx p) hi i ↔ i+p.length<=hi/\(l.drop i).take p.length=p:=by
 unfold StrLaws.At Builtin.Str.subAt
 rw[ye,beq_iff_eq]
 have e1:((tx l).cps.extract i (i+p.length)).toList=(l.drop i).take p.length:=by
  show (l.toArray.extract i (i+p.length)).toList=_
  simp [dX]
 have e2:((tx l).cps.extract i (i+p.length)=(tx p).cps) ↔ (l.drop i).take p.length=p:=by
  constructor
  ·intro h
   rw[<- e1,h]
  ·intro h
   apply Array.toList_inj.mp
   rw[e1,h]
 rw[e2]
def Jq:V->List V->Hp->VK->Prop:=fun x xs H Q=>∃(l p:List Nat) (lo hi:Int),x=.str (tx l)/\xs=[.str (tx p),.int lo,.int hi]/\0<=lo/\0<=hi/\∀ r:Int,((r=-1/\∀ q:Nat,lo<=q->(q:Int)+p.length<=hi->q+p.length<=l.length->(l.drop q).take p.length≠p)\/∃ k:Nat,r=k/\lo<=k/\(k:Int)+p.length<=hi/\k+p.length<=l.length/\(l.drop k).take p.length=p/\∀ q:Nat,lo<=q->q<k->(l.drop q).take p.length≠p)->Q (.int r) H
theorem Ke{X:Cx}:MtR X "str.find" Jq:=by
 intro pins s σ H x xs v us Q I rx rv h
 obtain⟨l,p,lo,hi,rfl,rfl,h0,h1,q⟩:=h
 obtain⟨t,rfl⟩:=rx
 cases rv with
 | cons r1 r2 =>
  cases r2 with
  | cons r2 r3 =>
   obtain⟨w3,rfl,t3,rfl⟩:=wI r3
   obtain⟨t1,rfl⟩:=r1
   obtain⟨t2,rfl⟩:=r2
   have f0:fromIndex (tx l).length lo=lo.toNat:=by unfold fromIndex;rw[if_neg (by omega)];omega
   have f1:fromIndex (tx l).length hi=hi.toNat:=by unfold fromIndex;rw[if_neg (by omega)];omega
   refine call_gives F.slot_str_find (typeIs_str _ _ _) F.entry_str_find (F.args_str_find_4 _ _ _ _) (YH _ _ lo hi t t1 t2 t3) ?_
   refine⟨.int _,H,I.tok _,⟨_,rfl⟩,q _ ?_⟩
   rw[f0,f1]
   have hm:∀ k:Nat,k+p.length<=min hi.toNat (tx l).length ↔ (k:Int)+p.length<=hi/\k+p.length<=l.length:=fun k=>by rw[ye];omega
   rcases YJ (tx l) (tx p) lo.toNat (min hi.toNat (tx l).length) with ⟨e,no⟩ | ⟨i,r,e,hl,ha,no⟩
   ·rw[e]
    exact .inl ⟨rfl,fun k k1 k2 k3 k4=>no k (by omega) ((zct l p _ k).mpr ⟨(hm k).mpr ⟨k2,k3⟩,k4⟩)⟩
   ·rw[e]
    obtain⟨a1,a2⟩:=(zct l p _ i).mp ha
    obtain⟨b1,b2⟩:=(hm i).mp a1
    exact .inr ⟨i,rfl,by omega,b1,b2,a2,fun k k1 k2 k4=>no k (by omega) k2 ((zct l p _ k).mpr ⟨(hm k).mpr ⟨by omega,by omega⟩,k4⟩)⟩
end L3
namespace L3
section
variable{prog:Program}{w:World}{A:Around}{R:Result->Shared->Prop}{I l S:Addr}
theorem WZ(hh:A.handled=none)(hlI:l≠I)(hSI:S≠I)(hSl:S≠l)(xs:Array Value)(val:Nat->Int)(hv:∀ i v,xs[i]? = some v->∃ t,v=Value.int (val i) t)(d:Value) :
  ∀(k j:Nat) (z:Int) (t:Tok) (s:Shared) (c:Nat),xs.size - j=k->j<=xs.size->(∀ i,i<j->val i<=z)->s.heap.IsListIter I l j->s.heap.IsList l xs->s.heap.get? S=some (seqObj "list" #[.int z t,.int z t] c) ->
   (∀ z' t' h' tk,(∀ i,i<xs.size->val i<=z')->(∀ b o,b≠I->b≠S->s.heap.get? b=some o->h'.get? b=some o)->R (.ok (.ret (.int z' t'))) { s with heap:=h',toks:=tk }) ->
   codeAny (model prog w) A (.builtin "max.loop" ⟨[.ref I,.none,.ref S],[(bG "default",d)]⟩) R s:=by
 have nm:(toString "max" ++ toString ".loop" : String)="max.loop":=by decide
 have W:=Walks.list (prog:=prog) (w:=w) (A:=A.in1) hh I l hlI xs
 intro k
 induction k with
 | zero =>
  intro j z t s c hk hj hz hit hl hS hR
  have e:j=xs.size:=by omega
  refine codeAny_builtin (b:=Builtin.«max.loop») dk ?_
  rw[Around.under_plainId (id:="max.loop") bI _]
  show wpAny _ A.in1 (seqItems? (Value.ref S) >>= _) _ _ s
  refine oH (wpAny_seqItems (items:=#[.int z t,.int z t]) hS rfl ?_)
  show wpAny _ A.in1 (tryCatch (pyNext (Value.ref I)) _ >>= _) _ _ s
  refine oH (wpAny_tryCatch (W.done s _ _ ⟨e ▸ hit,hl⟩ fun h' tk kp=>?_))
  have hS':=kp S _ (by simpa using hSI) hS
  show wpAny _ A.in1 (updateSeq S (fun _=>(#[]:Array Value)) >>= _) _ _ _
  refine oH (wpAny_updateSeq hS' rfl (oH (wpAny_letGo (oJ ?_))))
  exact hR z t _ tk (fun i hi=>hz i (by omega)) fun b o hb hb' q=>(aL _ _ (Ne.symm hb')).trans (kp b o (by simpa using hb) q)
 | succ k ih =>
  intro j z t s c hk hj hz hit hl hS hR
  refine codeAny_builtin (b:=Builtin.«max.loop») dk ?_
  rw[Around.under_plainId (id:="max.loop") bI _]
  show wpAny _ A.in1 (seqItems? (Value.ref S) >>= _) _ _ s
  refine oH (wpAny_seqItems (items:=#[.int z t,.int z t]) hS rfl ?_)
  show wpAny _ A.in1 (tryCatch (pyNext (Value.ref I)) _ >>= _) _ _ s
  refine oH (wpAny_tryCatch (W.item j s _ _ (by omega) ⟨hit,hl⟩ fun v h' tk hP st kp=>?_))
  obtain⟨t2,rfl⟩:=hv j v hP
  have hS':=kp S _ (by simpa using hSI) hS
  show wpAny _ A.in1 (tryCatch (holding [Value.int (val j) t2,Value.int (val j) t2] (richCompare .Gt (.int (val j) t2) (.int z t) >>= _)) _ >>= _) _ _ _
  refine oH (wpAny_tryCatch (wpAny_holding (oH (CmpOf.ints_gt (prog:=prog) (w:=w) (A:=A.in1) (P:=fun i v=>∃ t,v=Value.int (if i=0 then val j else z) t) (fun i=>if i=0 then val j else z) (fun i v h=>h) 0 1 _ _ _ _ _ ⟨t2,rfl⟩ ⟨t,rfl⟩ ?_))))
  refine oH (wpAny_holding (wpAny_truthy_bool (oH (wpAny_letGo (oJ ?_)))))
  by_cases g:val j > z
  ·simp only[if_true,Nat.one_ne_zero,if_false,g,decide_true]
   refine oH (wpAny_updateSeq hS' rfl (oH (wpAny_letGo ?_)))
   rw[nm]
   refine oJ ⟨plainId_quiet bI _,ih (j+1) (val j) t2 _ _ (by omega) (by omega) (fun i hi=>?_) (W.frame _ _ _ st fun b hb o q=>?_).1 (W.frame _ _ _ st fun b hb o q=>?_).2 (get?_update_seq hS' _) fun z' t' h'' tk'' a1 a2=>hR z' t' h'' tk'' a1 fun b o hb hb' q=>a2 b o hb hb' ((aL _ _ (Ne.symm hb')).trans (kp b o (by simpa using hb) q))⟩
   ·by_cases e:i=j
    ·rw[e]
     exact fk _
    ·have:=hz i (by omega)
     omega
   all_goals
    refine (aL _ _ (fun e:S=b=>?_)).trans q
    subst e
    rcases List.mem_cons.mp hb with e | e
    ·exact hSI e
    ·exact hSl (List.mem_singleton.mp e)
  ·simp only[if_true,Nat.one_ne_zero,if_false,g,decide_false,bO]
   refine oH (wpAny_letGo ?_)
   rw[nm]
   refine oJ ⟨plainId_quiet bI _,ih (j+1) z t _ _ (by omega) (by omega) (fun i hi=>?_) st.1 st.2 hS' fun z' t' h'' tk'' a1 a2=>hR z' t' h'' tk'' a1 fun b o hb hb' q=>a2 b o hb hb' (kp b o (by simpa using hb) q)⟩
   by_cases e:i=j
   ·rw[e]
    omega
   ·exact hz i (by omega)
theorem WL(a v:Value):argsOk "max" ⟨[a],[(bG "default",v)]⟩:=by unfold argsOk;kernel_rfl
theorem Um{E:Value->Shared->Prop}{s:Shared}{Q:Value->Shared->Prop}(hh:A.handled=none)(xs:Array Value)(val:Nat->Int)(hv:∀ i v,xs[i]? = some v->∃ t,v=Value.int (val i) t)(hl:s.heap.IsList l xs)(d:Value)
  (h:∀ v h' tk,(xs.size=0->v=d)->(0<xs.size->∃ z t,v=Value.int z t/\∀ i,i<xs.size->val i<=z)->(∀ b o,s.heap.get? b=some o->h'.get? b=some o)->Q v { s with heap:=h',toks:=tk }) :
  wpAny (model prog w) A (call (.builtin "max") [.ref l] [(bG "default",d)]) Q E s:=by
 have nm:(toString "max" ++ toString ".loop" : String)="max.loop":=by decide
 have hlt:l<s.heap.objs.size:=by obtain⟨_,e,_⟩:=hl;exact ay e
 refine kmb_tree PySem.F.kind_max PySem.F.plain_max PySem.F.entry_max (WL _ _) ?_
 show wpAny _ A.in1 (Builtin.Builtins.bindParams "max" ["key","default"] 0 ⟨[],[(bG "default",d)]⟩ >>= _) _ _ s
 refine oH (wpAny_of_eq (show Builtin.Builtins.bindParams "max" ["key","default"] 0 ⟨[],[(bG "default",d)]⟩=pure [none,some d] from rfl) (oH (oJ ?_)))
 refine oH (wpAny_pyIter_list hl (oH (wpAny_newList ?_ (aJ _))))
 rw[nm]
 refine oJ ⟨plainId_quiet bI _,?_⟩
 have gI:(s.heap.push { cls:=.type "list_iterator",data:=.fields #[.ref l,.int 0 0] }).IsListIter s.heap.objs.size l 0:=⟨_,aI _ rfl,rfl,rfl⟩
 have gl:=hl.push { cls:=.type "list_iterator",data:=.fields #[.ref l,.int 0 0] }
 have kp0:∀ b o,s.heap.get? b=some o->(s.heap.push { cls:=.type "list_iterator",data:=.fields #[.ref l,.int 0 0] }).get? b=some o:=fun b o q=>aa _ q
 have hsz:(s.heap.push { cls:=.type "list_iterator",data:=.fields #[.ref l,.int 0 0] }).objs.size=s.heap.objs.size+1:=bH _ _
 have hold:∀ b o,s.heap.get? b=some o->b<s.heap.objs.size:=fun b o q=>ay q
 have hlI:l≠s.heap.objs.size:=aE hlt
 generalize s.heap.push { cls:=.type "list_iterator",data:=.fields #[.ref l,.int 0 0] }=h1 at *
 generalize hIe:s.heap.objs.size=I at *
 have W:=Walks.list (prog:=prog) (w:=w) (A:=A.in1) hh I l hlI xs
 have gS:(h1.push { cls:=.type "list",data:=.seq ([]:List Value).toArray }).get? h1.objs.size=some (seqObj "list" #[] 0):=aI _ rfl
 have st0:=W.frame 0 _ (h1.push { cls:=.type "list",data:=.seq ([]:List Value).toArray }) ⟨gI,gl⟩ fun b _ o q=>aa _ q
 have kp1:∀ b o,s.heap.get? b=some o->(h1.push { cls:=.type "list",data:=.seq ([]:List Value).toArray }).get? b=some o:=fun b o q=>aa _ (kp0 b o q)
 have hSI:h1.objs.size≠I:=by rw[hsz];exact Nat.succ_ne_self I
 have hSl:h1.objs.size≠l:=by rw[hsz];exact cb (ci hlt)
 have hSb:∀ b o,s.heap.get? b=some o->b≠I/\b≠h1.objs.size:=fun b o q=>⟨aE (hold b o q),by rw[hsz];exact aE (ci (hold b o q))⟩
 generalize h1.push { cls:=.type "list",data:=.seq ([]:List Value).toArray }=h2 at *
 generalize h1.objs.size=S at *
 refine codeAny_builtin (b:=Builtin.«max.loop») dk ?_
 rw[Around.under_plainId (id:="max.loop") bI _]
 show wpAny _ A.in1 (seqItems? (Value.ref S) >>= _) _ _ _
 refine oH (wpAny_seqItems (items:=#[]) gS rfl ?_)
 show wpAny _ A.in1 (tryCatch (pyNext (Value.ref I)) _ >>= _) _ _ _
 by_cases hz:xs.size=0
 ·refine oH (wpAny_tryCatch (W.done _ _ _ (by rw[hz];exact st0) fun h' tk kp=>?_))
  show wpAny _ A.in1 (rule _ >>= fun _=>_) _ _ _
  refine oH (wpAny_rule (oJ ?_))
  exact h d h' tk (fun _=>rfl) (fun q=>absurd q (by omega)) fun b o q=>kp b o (by simpa using (hSb b o q).1) (kp1 b o q)
 ·refine oH (wpAny_tryCatch (W.item 0 _ _ _ (by omega) st0 fun v h' tk hP st kp=>?_))
  obtain⟨t,rfl⟩:=hv 0 v hP
  have hS':=kp S _ (by simpa using hSI) gS
  show wpAny _ A.in1 (updateSeq S (fun _=>#[Value.int (val 0) t,Value.int (val 0) t]) >>= _) _ _ _
  refine oH (wpAny_updateSeq hS' rfl ?_)
  rw[nm]
  have st':=W.frame _ _ (h'.update S (Obj.mapSeq fun _=>#[Value.int (val 0) t,Value.int (val 0) t])) st fun b hb o q=>by
   refine (aL _ _ (fun e:S=b=>?_)).trans q
   subst e
   rcases List.mem_cons.mp hb with e | e
   ·exact hSI e
   ·exact hSl (List.mem_singleton.mp e)
  refine oJ ⟨plainId_quiet bI _,WZ hh hlI hSI hSl xs val hv d _ 1 (val 0) t _ _ rfl (by omega) (fun i hi=>?_) st'.1 st'.2 (get?_update_seq hS' _) fun z' t' h'' tk'' a1 a2=>?_⟩
  ·have:i=0:=by omega
   rw[this]
   exact fk _
  ·exact h _ h'' tk'' (fun q=>absurd q hz) (fun _=>⟨z',t',rfl,a1⟩) fun b o q=>a2 b o (hSb b o q).1 (hSb b o q).2 ((aL _ _ (Ne.symm (hSb b o q).2)).trans (kp b o (by simpa using (hSb b o q).1) (kp1 b o q)))
end
section
variable{X:Cx}{id:String}{x:Str}{e:Expr}{es:List Expr}{kws:List Keyword}{ks:List Str}{p pos:Pos}{t tk:TA}
def Js(X:Cx)(id:String)(ks:List Str)(r:List V->List V->Hp->VK->Prop):Prop :=
 ∀(pins:List (Addr × Obj)) (s:Shared) (σ:L2.St) (H:Hp) (vs zs:List V) (us ws:List Value) (Q:VK),Inv X pins σ H s->Vals vs us->Vals zs ws->r vs zs H Q->wpAny (model X.prog X.w) X.A (call (.builtin id) us (ks.zip ws)) (EP X pins σ Q) X.xe s
def zcH(r:List V->List V->Hp->VK->Prop)(t tk:TA):TE:=fun σ H Q=>t σ H fun vs H1=>tk σ H1 fun zs H2=>r vs zs H2 Q
theorem V2{r:List V->List V->Hp->VK->Prop}(hc:Js X id ks r)(hg:Gl X x)(hm:X.mg x=none)(hv:bootBuiltins x=some (.builtin id))(ha:PA X (e::es) t)(hk:PK X kws tk)(hks:(backToKw pos (keywordEach kws X.env)).filterMap (·.1)=ks:=by rfl)(hn:x≠"__name__":=by decide)(hdb:(x == ("__debug__" : Str))=false:=by decide)
  (he:backTo pos (oM (e::es) X.env)=(false,eval e X.env)::backTo pos (oM es X.env):=by rfl) (hpl:(backTo pos (oM (e::es) X.env)).any (·.1)=false:=by rfl)
  (hall:(backToKw pos (keywordEach kws X.env)).all (·.1.isSome)=true:=by rfl) (hkw:(backToKw pos (keywordEach kws X.env)).any (·.1.isNone)=false:=by rfl):PE X (.Call (.Name x p) (e::es) kws pos) (zcH r t tk):=by
 intro pins s σ H Q I h
 refine wpAny_Call_Name_kw (vn I hg hm hv ?_ hn hdb)
 refine callWith_kw (thn (ha pos pins s σ H _ I h) fun us s1 ⟨vs,H1,I1,r1,q1⟩=>thn (hk pos pins s1 σ H1 _ I1 q1) fun ws s2 ⟨zs,H2,I2,r2,q2⟩=>?_) he hpl hall hkw
 rw[hks]
 exact hc pins s2 σ H2 vs zs us ws Q I2 r1 r2 q2
def zbY(K:oO):List V->List V->Hp->VK->Prop:=fun vs zs H Q=>∃(a:Addr) (ns:List Int) (d:Int),vs=[.ref a]/\zs=[.int d]/\SqL K H a (ns.map V.int)/\∀ z:Int,(ns=[]->z=d)->(∀ n ∈ ns,n<=z)->Q (.int z) H
theorem zba(hc:X.calm=true):Js X "max" [bG "default"] (zbY X.K):=by
 intro pins s σ H vs zs us ws Q I r1 r2 h
 obtain⟨a,ns,d,rfl,rfl,hS,q⟩:=h
 obtain⟨u,rfl,ru⟩:=wI r1
 cases ru
 obtain⟨w',rfl,td,rfl⟩:=wI r2
 obtain⟨its,rv,pl,hz⟩:=I.list hS
 have hlen:=rv.length
 rw[ae] at hlen
 have hat:∀(i:Nat) (v:Value),its.toArray[i]? = some v->∃ t,v=Value.int (ns.getD i 0) t:=fun i v hi=>by
  have hi':its[i]? = some v:=by simpa using hi
  have hil:=(List.getElem?_eq_some_iff.mp hi').1
  obtain⟨u,hu,t,rfl⟩:=xX rv (j:=i) (x:=.int (ns.getD i 0)) (by rw[aG,ac,al (by omega)];rfl)
  rw[hi'] at hu
  cases hu
  exact⟨t,rfl⟩
 refine Um (I.ok.hd hc) its.toArray (fun i=>ns.getD i 0) hat pl.isList (.int d td) fun v h' tk h0 h1 kp=>?_
 by_cases hn:ns=[]
 ·have:=h0 (by rw[ao,<- hlen,hn];rfl)
  subst this
  exact⟨.int d,H,I.kept kp,⟨_,rfl⟩,q d (fun _=>rfl) (fun n hm=>by rw[hn] at hm;cases hm)⟩
 ·obtain⟨z,t,rfl,hzz⟩:=h1 (by rw[ao,<- hlen];exact List.length_pos_iff.mpr hn)
  refine⟨.int z,H,I.kept kp,⟨_,rfl⟩,q z (fun e=>absurd e hn) fun n hm=>?_⟩
  obtain⟨i,hi,rfl⟩:=List.getElem_of_mem hm
  have:=hzz i (by rw[ao,<- hlen];exact hi)
  rw[ac,al hi] at this
  exact this
end
end L3
namespace L3
section
variable{prog:Program}{w:World}{A:Around}{R:Result->Shared->Prop}{I l S:Addr}
end
section
variable{X:Cx}
end
end L3
namespace L3
end L3
namespace L3
section
variable{X:Cx}
theorem jC{cn:Str}{np hpos:Pos}{b0:Stmt}{suite:List Stmt}{hs:List ExceptHandler}{D:Addr}{th:TS}(hg:Gl X cn)(hm:X.mg cn=some (.ref D))(hdb:(cn == ("__debug__" : Str))=false)(xc:Z8 X.K D=true)(hsu:∀ e,PSs (Cx.suite X e) (b0::suite) th)
  {pins:List (Addr × Obj)} {s:Shared} {σ:St} {H:Hp} {Dd:vp} {x C T:Addr} {dx:Option Addr} (I:Inv X pins σ H s) (hob:∃ t cx kx,s.heap.get? x=some (xog C dx t (.ref T) cx kx)) (hoT:∃ oT ts,s.heap.get? T=some oT/\oT.data=.fields ts/\3<ts.size) (fT:wa X pins H T)
  (hb:cJ X.K (.ref C) (.ref D)=some true) (q:th Dd σ H):wpAny (model X.prog X.w) X.A (handleBy (.ref x) X.env (.ExceptHandler (some (.Name cn np)) none (b0::suite) hpos::hs)) (SP X pins Dd) X.xe s:=by
 obtain⟨t,cx,kx,ob⟩:=hob
 obtain⟨oT,ts,eT,dT,zT⟩:=hoT
 have I':=Inv.suite I (.ref x)
 refine wpAny_handleBy_cons (codeAny_handlers_test (vA (X:=Cx.suite X (.ref x)) I' hg hm (zaj I.kIn xc ob hb ?_) hdb)) (by intro q;cases q)
 refine codeAny_handlers_suite ?_
 unfold setFlight
 refine oH (wpAny_field ob rfl (x:=.ref T) rfl ?_)
 rw[if_pos (show (Value.ref T != Value.none)=true from by simp)]
 refine wpAny_setField eT dT zT ?_
 obtain⟨f0,f1,f2,f3,f4,f5⟩:=fT
 have I2:Inv X pins σ H { s with heap:=s.heap.update T (Obj.mapFields (·.setIfInBounds 3 ((none:Option Addr).elim Value.none fun f=>rawInt f))) } :=
  I.turned (t':=s.toks) (fun b o hb e=>(aL _ _ (Ne.symm hb)).trans e) f0 f1 f3 f4 f5
 refine wpAny_noRaise (thn (hsu _ pins _ σ H _ (Inv.suite I2 (.ref x)) q) fun fl s4 q4=>?_)
 cases fl with
 | next =>
  obtain⟨σ4,H4,I4,n4⟩:=q4
  exact⟨_,_,Inv.unsuite I I4,n4⟩
 | brk =>
  obtain⟨σ4,H4,I4,n4⟩:=q4
  exact⟨_,_,Inv.unsuite I I4,n4⟩
 | cont =>
  obtain⟨σ4,H4,I4,n4⟩:=q4
  exact⟨_,_,Inv.unsuite I I4,n4⟩
 | ret v =>
  obtain⟨y,σ4,H4,I4,r4,n4⟩:=q4
  exact⟨y,_,_,Inv.unsuite I I4,r4,n4⟩
end
end L3
namespace L3
section
variable{X:Cx}
def QX(K:oO)(i:Nat)(D:Addr)(te:TX)(th:TS):TS:=fun Dd σ H=>te σ H (fun v H1=>Dd.nx (σ.set i (some v)) H1) fun cls dx H1=>∃ C,cls=.ref C/\cJ K (.ref C) (.ref D)=some true/\∀ x,H1 x=none->th Dd σ (upd H1 x (XT x C dx))
theorem Qi{i:Nat}{y:Str}{yp apos pos np hpos:Pos}{e:Expr}{te:TX}{cn:Str}{b0:Stmt}{suite:List Stmt}{hs:List ExceptHandler}{D:Addr}{th:TS}
  (hN:X.N.Nodup) (hy:X.N[i]? = some y) (hly:Loc X.env.scope y) (hf:X.fn y=true\/X.env.scope.names.lookup y=some .local) (hst:X.stack=X.env::X.outer/\X.env.frame=some X.env.locals) (he:PEX X e te) (hg:Gl X cn) (hm:X.mg cn=some (.ref D)) (xc:Z8 X.K D=true) (hsu:∀ e,PSs (Cx.suite X e) (b0::suite) th) (hdb:(cn == ("__debug__" : Str))=false:=by decide) (hsw:swapsWith e (some (.Name y yp)) apos.line X.env=pure false:=by rfl) :
  PS X (.Try [.Assign [.Name y yp] e apos] (.ExceptHandler (some (.Name cn np)) none (b0::suite) hpos::hs) [] [] pos) (QX X.K i D te th):=by
 intro pins s σ H D I hq
 refine wpAny_Try_except (wpAny_execs_cons (wpAny_Assign_Name (wpAny_mono (he pins s σ H _ _ I hq) (fun v s1 ⟨z,H1,I1,r1,q1⟩=>?_) fun e s1 fl=>?_) hsw))
 ·exact Za I1 hN hy hly r1 (fun s2 I2=>wpAny_execs_nil (wpAny_execs_nil ⟨_,H1,I2,q1⟩)) hf
 ·obtain⟨cx,kx,H1,x,C,t,dx,tb,rfl,I1,ob,tr,fx,fT,C',ec,hsb,q1⟩:=fl
  cases ec
  have fr:X.A.frames=some (X.env::X.outer):=by rw[<- hst.1];exact I1.ok.frames
  have ff:s1.heap.FunFrames X.base (X.env::X.outer):=by rw[<- hst.1];exact I1.stack
  refine kG fr ff hst.2 hst.2 ob tr fun h' T oT ts e1 nT oldT e2 d2 z2 k1 k2=>?_
  have fT':wa X pins H1 T:=by
   rcases oldT with z | z
   ·exact fT T z
   ·exact I1.fpOk z (I1.hok.fresh z)
  have tbs:∀ b,tb=.ref b->H1 b=none:=fun b hb=>(fT b hb).1
  have nch:∀ b o,s1.heap.get? b=some o->b ∉ (x::T::tbL tb)->b≠x/\tb≠.ref b:=fun b o _ hb=>by
   refine⟨fun z=>hb (by simp [z]),fun z=>hb ?_⟩
   rw[z]
   simp [tbL]
  have un:Un (frs X.stack) (x::T::tbL tb) H1 H1 s1.heap h':=by
   rw[hst.1]
   refine⟨fun b o e n hb hc=>?_,fun b o e n hb hc=>?_,fun b o e n _=>n,fun b o e hc=>?_,fun b xs e=>e,fun b o u e=>e,fun b ps e=>⟨#[],by rw[e];simp⟩⟩
   ·obtain⟨a1,a2⟩:=nch b o e hc
    exact k1 b o a1 a2 hb e
   ·obtain⟨a1,a2⟩:=nch b o e hc
    exact k2 b o a1 a2 e
   ·obtain⟨a1,a2⟩:=nch b o e hc
    obtain⟨sl,q⟩:=k2 b o a1 a2 e
    exact⟨_,q⟩
  have hok:HOk X.prog X.w H1 h':=fun b u e=>by
   refine (I1.hok b u e).stay (fun c v hc q=>k1 c v ?_ ?_ ?_ q) (fun _ q=>q) fun _ _ q=>q
   ·rintro rfl
    rcases hc with rfl | hc
    ·rw[fx.1] at e;cases e
    ·rw[fx.1] at hc;cases hc
   ·intro z
    have:=tbs c z
    rcases hc with rfl | hc
    ·rw[this] at e;cases e
    ·rw[this] at hc;cases hc
   ·intro z
    rw[<- hst.1] at z
    have:=I1.stkFree c z
    rcases hc with rfl | hc
    ·rw[this] at e;cases e
    ·rw[this] at hc;cases hc
  have I2:Inv X pins σ H1 { s1 with heap:=h' }:=I1.call' (s':={ s1 with heap:=h' }) rfl un hok I1.bare fun b hb=>by
   have fb:wa X pins H1 b:=by
    rcases List.mem_cons.mp hb with z | z
    ·rw[z];exact fx
    ·rcases List.mem_cons.mp z with z | z
     ·rw[z];exact fT'
     ·cases tb with
      | ref b' =>
       have:b=b':=by simpa [tbL] using z
       rw[this];exact fT b' rfl
      | _=>simp [tbL] at z
   obtain⟨_,a1,_,a3,a4,a5⟩:=fb
   exact⟨a3,a1,a4,a5⟩
  have I3:Inv X pins σ (upd H1 x (XT x C dx)) { s1 with heap:=h' }:=Inv.track I2 fx (zaT e1)
  exact jC hg hm hdb xc hsu I3 ⟨t,_,_,e1⟩ ⟨oT,ts,e2,d2,z2⟩ ⟨by rw[zo nT];exact fT'.1,fT'.2⟩ hsb (q1 x fx.1)
end
end L3
namespace L3
section
variable{X:Cx}
def Jg(K:oO)(D:Addr)(te:TX)(th:TS):TS:=fun Dd σ H=>te σ H (fun z H1=>Dd.rt z H1) fun cls dx H1=>∃ C,cls=.ref C/\cJ K (.ref C) (.ref D)=some true/\∀ x,H1 x=none->th Dd σ (upd H1 x (XT x C dx))
theorem UJ{apos pos np hpos:Pos}{e:Expr}{te:TX}{cn:Str}{b0:Stmt}{suite:List Stmt}{hs:List ExceptHandler}{D:Addr}{th:TS}
  (hst:X.stack=X.env::X.outer/\X.env.frame=some X.env.locals) (he:PEX X e te) (hg:Gl X cn) (hm:X.mg cn=some (.ref D)) (xc:Z8 X.K D=true) (hsu:∀ e,PSs (Cx.suite X e) (b0::suite) th) (hdb:(cn == ("__debug__" : Str))=false:=by decide) :
  PS X (.Try [.Return (some e) apos] (.ExceptHandler (some (.Name cn np)) none (b0::suite) hpos::hs) [] [] pos) (Jg X.K D te th):=by
 intro pins s σ H D I hq
 refine wpAny_Try_except (wpAny_execs_cons (wpAny_Return_some (wpAny_mono (he pins s σ H _ _ I hq) (fun v s1 ⟨z,H1,I1,r1,q1⟩=>?_) fun e s1 fl=>?_)))
 ·exact⟨z,σ,H1,I1,r1,q1⟩
 ·obtain⟨cx,kx,H1,x,C,t,dx,tb,rfl,I1,ob,tr,fx,fT,C',ec,hsb,q1⟩:=fl
  cases ec
  have fr:X.A.frames=some (X.env::X.outer):=by rw[<- hst.1];exact I1.ok.frames
  have ff:s1.heap.FunFrames X.base (X.env::X.outer):=by rw[<- hst.1];exact I1.stack
  refine kG fr ff hst.2 hst.2 ob tr fun h' T oT ts e1 nT oldT e2 d2 z2 k1 k2=>?_
  have fT':wa X pins H1 T:=by
   rcases oldT with z | z
   ·exact fT T z
   ·exact I1.fpOk z (I1.hok.fresh z)
  have tbs:∀ b,tb=.ref b->H1 b=none:=fun b hb=>(fT b hb).1
  have nch:∀ b o,s1.heap.get? b=some o->b ∉ (x::T::tbL tb)->b≠x/\tb≠.ref b:=fun b o _ hb=>by
   refine⟨fun z=>hb (by simp [z]),fun z=>hb ?_⟩
   rw[z]
   simp [tbL]
  have un:Un (frs X.stack) (x::T::tbL tb) H1 H1 s1.heap h':=by
   rw[hst.1]
   refine⟨fun b o e n hb hc=>?_,fun b o e n hb hc=>?_,fun b o e n _=>n,fun b o e hc=>?_,fun b xs e=>e,fun b o u e=>e,fun b ps e=>⟨#[],by rw[e];simp⟩⟩
   ·obtain⟨a1,a2⟩:=nch b o e hc
    exact k1 b o a1 a2 hb e
   ·obtain⟨a1,a2⟩:=nch b o e hc
    exact k2 b o a1 a2 e
   ·obtain⟨a1,a2⟩:=nch b o e hc
    obtain⟨sl,q⟩:=k2 b o a1 a2 e
    exact⟨_,q⟩
  have hok:HOk X.prog X.w H1 h':=fun b u e=>by
   refine (I1.hok b u e).stay (fun c v hc q=>k1 c v ?_ ?_ ?_ q) (fun _ q=>q) fun _ _ q=>q
   ·rintro rfl
    rcases hc with rfl | hc
    ·rw[fx.1] at e;cases e
    ·rw[fx.1] at hc;cases hc
   ·intro z
    have:=tbs c z
    rcases hc with rfl | hc
    ·rw[this] at e;cases e
    ·rw[this] at hc;cases hc
   ·intro z
    rw[<- hst.1] at z
    have:=I1.stkFree c z
    rcases hc with rfl | hc
    ·rw[this] at e;cases e
    ·rw[this] at hc;cases hc
  have I2:Inv X pins σ H1 { s1 with heap:=h' }:=I1.call' (s':={ s1 with heap:=h' }) rfl un hok I1.bare fun b hb=>by
   have fb:wa X pins H1 b:=by
    rcases List.mem_cons.mp hb with z | z
    ·rw[z];exact fx
    ·rcases List.mem_cons.mp z with z | z
     ·rw[z];exact fT'
     ·cases tb with
      | ref b' =>
       have:b=b':=by simpa [tbL] using z
       rw[this];exact fT b' rfl
      | _=>simp [tbL] at z
   obtain⟨_,a1,_,a3,a4,a5⟩:=fb
   exact⟨a3,a1,a4,a5⟩
  have I3:Inv X pins σ (upd H1 x (XT x C dx)) { s1 with heap:=h' }:=Inv.track I2 fx (zaT e1)
  exact jC hg hm hdb xc hsu I3 ⟨t,_,_,e1⟩ ⟨oT,ts,e2,d2,z2⟩ ⟨by rw[zo nT];exact fT'.1,fT'.2⟩ hsb (q1 x fx.1)
end
end L3
namespace L3
section
variable{X:Cx}
theorem Vo(bs:List Bool):(aY bs.length).any (fun i=>bs.getD i false)=bs.any id:=by
 induction bs with
 | nil=>rfl
 | cons b bs ih =>
  rw[aM,eK,List.any_cons,List.any_map,List.any_cons,<- ih]
  rfl
def zdn(K:oO):List V->Hp->VK->Prop:=fun xs H Q=>∃(p:Addr) (bs:List Bool),xs=[.ref p]/\SqL K H p (bs.map V.bl)/\Q (.bl (bs.any id)) H
theorem zb8(hc:X.calm=true):vJ X (.builtin "any") (zdn X.K):=by
 intro pins s σ H xs us Q I r h
 obtain⟨p,bs,rfl,hS,q⟩:=h
 obtain⟨u,rfl,ru⟩:=wI r
 cases ru
 obtain⟨its,rv,pl,hz⟩:=I.list hS
 have hlen:its.length=bs.length:=by
  have:=rv.length
  rw[ae] at this
  exact this.symm
 have hh:X.A.in1.handled=none:=I.ok.hd hc
 have hne:p≠s.heap.objs.size:=by
  obtain⟨o,n,e,_⟩:=pl
  exact aE (ay e)
 obtain⟨f0,f1,f2,f3,f4,f5⟩:=I.fpOk (H':=H) (au _) (I.hok.fresh (au _))
 have I1:=I.kept (t':=s.toks) (h':=s.heap.push { cls:=.type "list_iterator",data:=.fields #[.ref p,.int 0 0] }) fun b o e=>aa _ e
 refine call_any_walk (wpAny_pyIter_list pl.isList ?_)
 refine⟨s.heap.objs.size,_,_,_,_,_,fun i=>bs.getD i false,rfl,Walks.list hh s.heap.objs.size p hne its.toArray,⟨⟨_,aI _ rfl,rfl,rfl⟩,?_⟩,?_,?_⟩
 ·obtain⟨o,n,e,c,d,dt⟩:=pl
  exact⟨o,aa _ e,c,n,dt⟩
 ·intro i v s' Q' E' hv hq
  have:=Xj rv (i:=i) (v:=v) (by simpa using hv)
  rw[this]
  exact wpAny_truthy_bool hq
 ·intro h' tk hk
  have e:(aY its.toArray.size).any (fun i=>bs.getD i false)=bs.any id:=by
   rw[ao,hlen,Vo]
  rw[e]
  refine⟨.bl _,H,?_,rfl,q⟩
  exact I1.turned (t':=tk) (it:=s.heap.objs.size) (fun b o hb q=>hk b o (by simpa using hb) q) f0 f1 f3 f4 f5
end
end L3
namespace L3
def CompEL(K:oO)(a:Addr)(g:TG)(tt:TT)(te:TE)(own:Nat)(ix:List Nat)(σ:L2.St)(H1:Hp)(Q:VK)(D:Addr):Prop:=XX (Iel K a) g tt te own ix σ H1 Q D
theorem zah{K:oO}{ta:TA}{g:TG}{tt:TT}{te:TE}{own:Nat}{ix:List Nat}{σ:L2.St}{H:Hp}{Q:VK}:j9 (VM K ta) g tt te own ix σ H Q=ta σ H fun vs H1=>∃ a,vs=[.ref a]/\(∃ xs,SqL K H1 a xs)/\∀ D,H1 D=none->CompEL K a g tt te own ix σ H1 Q D:=rfl
section
variable{g:TG}{tt:TT}{te:TE}{own:Nat}{ix:List Nat}{σ:L2.St}{H1:Hp}{Q:VK}{D:Addr}
theorem CompEL.by{K:oO}{a:Addr}{xs:List V}(Pv:Nat->List V->Hp->Prop)(h0:Pv 0 [] (upd H1 D (.lst [])))(hl:∀ i acc H',i<=xs.length->Pv i acc H'->SqL K H' a xs)
  (hs:∀ i x acc H' p,xs[i]? = some x->Pv i acc H'->H' p=none->g (.ref p) (vj σ own ix) (upd H' p (.tup [.int (i:Nat),x])) fun σ3 H3=>xu (vj σ own ix) σ3/\tt σ3 H3 fun b H4=>if b=true then
   te σ3 H4 fun v H5=>H5 D=some (.lst acc)/\acc.length<oN/\CNx xs.length i Pv (acc ++ [v]) (upd H5 D (.lst (acc ++ [v]))) else CNx xs.length i Pv acc H4)
  (hd:∀ acc H',Pv xs.length acc H'->Q (.ref D) H'):CompEL K a g tt te own ix σ H1 Q D:=by
 refine⟨fun i m acc H=>m=xs.length - i/\i<=xs.length/\Pv i acc H,⟨xs.length,by simp,aJ _,h0⟩,?_⟩
 rintro i m acc H' ⟨rfl,hi,p⟩
 have q:=hl i acc H' hi p
 by_cases hlt:i<xs.length
 ·refine .inr ⟨⟨xs,xs[i],q,by simp [hlt]⟩,fun v H2 y=>?_⟩
  obtain⟨p',x,hp,hx,ev,eH⟩:=y
  subst ev eH
  exact hs i x acc H' p' (hx xs q) p hp
 ·have e:i=xs.length:=by omega
  subst e
  exact .inl ⟨⟨xs,q,rfl⟩,hd acc H' p⟩
end
end L3
namespace L3
section
variable{X:Cx}
end
end L3
namespace L3
open PySem PySem.W PyProof.Rows
def zbH(lt:Nat->Nat->Bool){α:Type}:KasT α->α
 | .ret a=>a
 | .ask i j k=>zbH lt (k (lt i j))
def Kok(lt:Nat->Nat->Bool)(n:Nat){α:Type}:KasT α->(α->Prop)->Prop
 | .ret a,Q=>Q a
 | .ask i j k,Q=>i<n/\j<n/\Kok lt n (k (lt i j)) Q
section
variable{lt:Nat->Nat->Bool}{n:Nat}{α β:Type}
theorem Kok.mono{Q Q':α->Prop}(hq:∀ a,Q a->Q' a):∀(t:KasT α),Kok lt n t Q->Kok lt n t Q'
 | .ret a,h=>hq a h
 | .ask _ _ k,h=>⟨h.1,h.2.1,Kok.mono hq (k _) h.2.2⟩
theorem Kok.bind{f:α->KasT β}{Q:β->Prop}:∀(t:KasT α),Kok lt n t (fun a=>Kok lt n (f a) Q)->Kok lt n (t.bind f) Q
 | .ret _,h=>h
 | .ask _ _ k,h=>⟨h.1,h.2.1,Kok.bind (k _) h.2.2⟩
theorem Kok.run{Q:α->Prop}:∀(t:KasT α),Kok lt n t Q->Q (zbH lt t)
 | .ret _,h=>h
 | .ask _ _ k,h=>Kok.run (k _) h.2.2
theorem Kok.wp{cmp:Nat->Nat->(Bool->Shared->Prop)->Shared->Prop}{I:Shared->Prop}(hc:∀ i j C s,i<n->j<n->I s->(∀ s',I s'->C (lt i j) s')->cmp i j C s){Q:α->Prop}{R:α->Shared->Prop}
  (hR:∀ a s,Q a->I s->R a s):∀(t:KasT α) (s:Shared),I s->Kok lt n t Q->t.kasWp cmp R s
 | .ret a,s,hI,h=>hR a s h hI
 | .ask i j k,s,hI,h=>hc i j _ s h.1 h.2.1 hI fun s' hI'=>Kok.wp hc hR (k _) s' hI' h.2.2
end
structure Wk(lt:Nat->Nat->Bool):Prop where
 asym:∀ a b,lt a b=true->lt b a=false
 ntr:∀ a b c,lt b a=false->lt c b=false->lt c a=false
section
variable{lt:Nat->Nat->Bool}{n:Nat}
abbrev Lq(lt:Nat->Nat->Bool)(a b:Nat):Prop:=lt b a=false
theorem Wk.refl(W:Wk lt)(a:Nat):Lq lt a a:=by
 cases h:lt a a with
 | false=>exact h
 | true=>exact absurd h (by rw[W.asym a a h];decide)
abbrev pg(p:Array Nat)(i:Nat):Nat:=p.getD i 0
theorem XQ(p:Array Nat)(i:Nat):pg p i=(p[i]?).getD 0:=by simp [pg,Array.getD_eq_getD_getElem?]
def Up(lt:Nat->Nat->Bool)(p:Array Nat)(m:Nat):Prop:=∀ i j,i<j->j<m->Lq lt (pg p i) (pg p j)
def Dn(lt:Nat->Nat->Bool)(p:Array Nat)(m:Nat):Prop:=∀ i j,i<j->j<m->Lq lt (pg p j) (pg p i)
def Rg(n:Nat)(p:Array Nat):Prop:=p.toList.Perm (aY n)
theorem Rg.size{p:Array Nat}(h:Rg n p):p.size=n:=by have:=h.length_eq;simpa using this
theorem Rg.bd{p:Array Nat}(h:Rg n p){i:Nat}(hi:i<n):pg p i<n:=by
 have hs:=h.size
 have hi':i<p.size:=by omega
 have e:pg p i=p[i]:=by simp [pg,eU,hi']
 rw[e]
 have hm:p[i] ∈ p.toList:=Array.mem_toList_iff.mpr (Array.getElem_mem hi')
 exact List.mem_range.mp (h.mem_iff.mp hm)
theorem vo{p:Array Nat}{i j:Nat}(hj:j<=p.size)(k:Nat):pg (kas_rev p i j) k=if i<=k/\k<j then pg p (i+j - 1 - k) else pg p k:=by
 rw[XQ,kas_rev,getElem?_mirror_all hj]
 split <;> rw[XQ]
theorem Rg.rev{p:Array Nat}(h:Rg n p)(i j:Nat):Rg n (kas_rev p i j):=(Array.perm_iff_toList_perm.mp (mirror_perm p i j _)).trans h
theorem Rg.bub{p:Array Nat}(h:Rg n p)(i j:Nat):Rg n (bubble p i j):=(Array.perm_iff_toList_perm.mp (bubble_perm p i j)).trans h
theorem WK(W:Wk lt){p:Array Nat}(hp:Rg n p):∀(f k:Nat),1<=k->k+f<=n->Up lt p k->Kok lt n (kas_asc p f k) (fun m=>k<=m/\m<=k+f/\Up lt p m/\(m=k+f\/lt (pg p m) (pg p (m - 1))=true))
 | 0,k,h1,h2,hu=>⟨by omega,by omega,hu,Or.inl (by omega)⟩
 | f+1,k,h1,h2,hu=>by
  refine⟨hp.bd (by omega),hp.bd (by omega),?_⟩
  rcases ce (lt (pg p k) (pg p (k - 1))) with hc | hc
  ·show Kok lt n (if lt (pg p k) (pg p (k - 1))=true then .ret k else _) _
   rw[if_pos hc]
   exact⟨by omega,by omega,hu,Or.inr hc⟩
  ·show Kok lt n (if lt (pg p k) (pg p (k - 1))=true then .ret k else _) _
   rw[if_neg (by rw[hc];decide)]
   refine (WK W hp f (k+1) (by omega) (by omega) fun i j hij hj=>?_).mono (fun m hm=>⟨by omega,by omega,hm.2.2.1,?_⟩) _
   ·by_cases e:j=k
    ·subst e
     by_cases e2:i=j - 1
     ·subst e2;exact hc
     ·exact W.ntr _ _ _ (hu i (j - 1) (by omega) (by omega)) hc
    ·exact hu i j hij (by omega)
   ·rcases hm.2.2.2 with h | h
    ·exact Or.inl (by omega)
    ·exact Or.inr h
def Ev(lt:Nat->Nat->Bool)(p:Array Nat)(a b:Nat):Prop:=∀ i j,a<=i->i<b->a<=j->j<b->Lq lt (pg p i) (pg p j)
theorem QV{p:Array Nat}{m q:Nat}(hm:m<=p.size)(hq:q+1<=m)(hd:Dn lt p m)(he:Ev lt p (m - (q+1)) m):Dn lt (kas_rev p (m - (q+1)) m) m:=by
 intro i j hij hj
 rw[vo hm,vo hm]
 by_cases h1:m - (q+1)<=i
 ·rw[if_pos (show m - (q+1)<=i/\i<m by omega),if_pos (show m - (q+1)<=j/\j<m by omega)]
  exact he _ _ (by omega) (by omega) (by omega) (by omega)
 ·rw[if_neg (show ¬ (m - (q+1)<=i/\i<m) by omega)]
  split
  ·exact hd _ _ (by omega) (by omega)
  ·exact hd _ _ (by omega) (by omega)
theorem kJ(W:Wk lt):∀(f:Nat) (p:Array Nat) (k q:Nat),Rg n p->1<=k->k+f<=n->q+1<=k->Dn lt p k->Ev lt p (k - (q+1)) k ->
  Kok lt n (kas_desc f p k q) (fun r=>Rg n r.1/\k<=r.2.1/\r.2.1<=k+f/\r.2.2+1<=r.2.1/\Dn lt r.1 r.2.1/\Ev lt r.1 (r.2.1 - (r.2.2+1)) r.2.1)
 | 0,p,k,q,hp,h1,h2,hq,hd,he=>⟨hp,au _,cj _ _,hq,hd,he⟩
 | f+1,p,k,q,hp,h1,h2,hq,hd,he=>by
  have hps:=hp.size
  refine⟨hp.bd (by omega),hp.bd (by omega),?_⟩
  have one:∀(p:Array Nat),Ev lt p (k+1 - (0+1)) (k+1):=fun p i j a b c d=>by
   have:i=j:=by omega
   subst this
   exact W.refl _
  rcases ce (lt (pg p k) (pg p (k - 1))) with hc | hc
  ·show Kok lt n (if lt (pg p k) (pg p (k - 1))=true then _ else _) _
   rw[if_pos hc]
   have hle:Lq lt (pg p k) (pg p (k - 1)):=W.asym _ _ hc
   split
   ·rename_i hq0
    refine (kJ W f _ (k+1) 0 (hp.rev _ _) (by omega) (by omega) (by omega) (fun i j hij hj=>?_) (one _)).mono (fun r hr=>⟨hr.1,by omega,by omega,hr.2.2.2⟩) _
    by_cases e:j=k
    ·subst e
     rw[vo (by omega),vo (by omega),if_neg (by omega)]
     split
     ·exact W.ntr _ _ _ hle (he _ _ (by omega) (by omega) (by omega) (by omega))
     ·exact W.ntr _ _ _ hle (hd _ _ (by omega) (by omega))
    ·exact QV (by omega) hq hd he i j hij (by omega)
   ·refine (kJ W f _ (k+1) 0 hp (by omega) (by omega) (by omega) (fun i j hij hj=>?_) (one _)).mono (fun r hr=>⟨hr.1,by omega,by omega,hr.2.2.2⟩) _
    by_cases e:j=k
    ·subst e
     by_cases e2:i=j - 1
     ·subst e2;exact hle
     ·exact W.ntr _ _ _ hle (hd i (j - 1) (by omega) (by omega))
    ·exact hd i j hij (by omega)
  ·show Kok lt n (if lt (pg p k) (pg p (k - 1))=true then _ else _) _
   rw[if_neg (by rw[hc];decide)]
   refine⟨hp.bd (by omega),hp.bd (by omega),?_⟩
   rcases ce (lt (pg p (k - 1)) (pg p k)) with hd2 | hd2
   ·show Kok lt n (if lt (pg p (k - 1)) (pg p k)=true then _ else _) _
    rw[if_pos hd2]
    exact⟨hp,au _,cj _ _,hq,hd,he⟩
   ·show Kok lt n (if lt (pg p (k - 1)) (pg p k)=true then _ else _) _
    rw[if_neg (by rw[hd2];decide)]
    refine (kJ W f _ (k+1) (q+1) hp (by omega) (by omega) (by omega) (fun i j hij hj=>?_) (fun i j a b c d=>?_)).mono (fun r hr=>⟨hr.1,by omega,by omega,hr.2.2.2⟩) _
    ·by_cases e:j=k
     ·subst e
      by_cases e2:i=j - 1
      ·subst e2;exact hd2
      ·exact W.ntr _ _ _ hd2 (hd i (j - 1) (by omega) (by omega))
     ·exact hd i j hij (by omega)
    ·have b1:∀ i,k+1 - (q+1+1)<=i->i<k->Lq lt (pg p i) (pg p (k - 1))/\Lq lt (pg p (k - 1)) (pg p i):=fun i a b=>⟨he _ _ (by omega) (by omega) (by omega) (by omega),he _ _ (by omega) (by omega) (by omega) (by omega)⟩
     by_cases e:j=k
     ·subst e
      by_cases e3:i=j
      ·subst e3;exact W.refl _
      ·exact W.ntr _ _ _ (b1 i (by omega) (by omega)).1 hc
     ·by_cases e3:i=k
      ·subst e3
       exact W.ntr _ _ _ hd2 (b1 j (by omega) (by omega)).2
      ·exact he _ _ (by omega) (by omega) (by omega) (by omega)
theorem XA(W:Wk lt){p:Array Nat}{m:Nat}(hp:Rg n p)(h1:1<=m)(hm:m<=n)(hd:Dn lt p m):Kok lt n (kas_tail3 m n p) (fun r=>Rg n r.2/\1<=r.1/\r.1<=n/\Up lt r.2 r.1):=by
 have hps:=hp.size
 unfold kas_tail3
 refine Kok.bind _ ((WK W (hp.rev 0 m) (n - m) m h1 (by omega) fun i j hij hj=>?_).mono (fun k hk=>⟨hp.rev 0 m,by show 1<=k;omega,by show k<=n;omega,hk.2.2.1⟩) _)
 rw[vo (by omega),vo (by omega),if_pos (by omega),if_pos (by omega)]
 exact hd _ _ (by omega) (by omega)
theorem qt(W:Wk lt){p:Array Nat}{m:Nat}(hp:Rg n p)(h1:1<=m)(hm:m+1<=n)(hd:Dn lt p (m+1)):Kok lt n (kas_descPart m n p) (fun r=>Rg n r.2/\1<=r.1/\r.1<=n/\Up lt r.2 r.1):=by
 unfold kas_descPart
 refine Kok.bind _ ((kJ W (n - (m+1)) p (m+1) 0 hp (by omega) (by omega) (by omega) hd fun i j a b c d=>?_).mono (fun r hr=>?_) _)
 ·have:i=j:=by omega
  subst this
  exact W.refl _
 ·obtain⟨r1,r2,r3,r4,r5,r6⟩:=hr
  have hs:=r1.size
  (try dsimp only)
  split
  ·exact XA W (r1.rev _ _) (by omega) (by omega) (QV (by omega) r4 r5 r6)
  ·exact XA W r1 (by omega) (by omega) r5
theorem U3(W:Wk lt){p:Array Nat}(hp:Rg n p)(hn:1<=n):Kok lt n (kas_count n p) (fun r=>Rg n r.2/\1<=r.1/\r.1<=n/\Up lt r.2 r.1):=by
 have hps:=hp.size
 unfold kas_count
 refine Kok.bind _ ((WK W hp (n - 1) 1 (au _) (by omega) fun i j hij hj=>by omega).mono (fun m hm=>?_) _)
 obtain⟨m1,m2,mu,ms⟩:=hm
 by_cases e:(m == n)=true
 ·rw[if_pos e]
  exact⟨hp,by show 1<=m;omega,by show m<=n;omega,mu⟩
 ·rw[if_neg e]
  have hne:m≠n:=fun h=>e (by rw[h];exact beq_self_eq_true _)
  have hlt:lt (pg p m) (pg p (m - 1))=true:=by
   rcases ms with h | h
   ·omega
   ·exact h
  have hle:Lq lt (pg p m) (pg p (m - 1)):=W.asym _ _ hlt
  by_cases h1:m > 1
  ·rw[if_pos h1]
   refine⟨hp.bd (by omega),hp.bd (by omega),?_⟩
   rcases ce (lt (pg p 0) (pg p (m - 1))) with hc | hc
   ·show Kok lt n (if lt (pg p 0) (pg p (m - 1))=true then _ else _) _
    rw[if_pos hc]
    exact⟨hp,by show 1<=m;omega,by show m<=n;omega,mu⟩
   ·show Kok lt n (if lt (pg p 0) (pg p (m - 1))=true then _ else _) _
    rw[if_neg (by rw[hc];decide)]
    have u0:∀ i,i<m->Lq lt (pg p 0) (pg p i):=fun i hi=>by
     by_cases h:i=0
     ·subst h;exact W.refl _
     ·exact mu 0 i (by omega) hi
    have ul:∀ i,i<m->Lq lt (pg p i) (pg p (m - 1)):=fun i hi=>by
     by_cases h:i=m - 1
     ·subst h;exact W.refl _
     ·exact mu i (m - 1) (by omega) (by omega)
    have ev:∀ i j,i<m->j<m->Lq lt (pg p i) (pg p j):=fun i j hi hj=>W.ntr _ _ _ (ul i hi) (W.ntr _ _ _ hc (u0 j hj))
    refine qt W (hp.rev 0 m) (by omega) (by omega) fun i j hij hj=>?_
    by_cases h:j=m
    ·subst h
     rw[vo (by omega),vo (by omega),if_neg (by omega),if_pos (by omega)]
     exact W.ntr _ _ _ hle (ev _ _ (by omega) (by omega))
    ·rw[vo (by omega),vo (by omega),if_pos (by omega),if_pos (by omega)]
     exact ev _ _ (by omega) (by omega)
  ·rw[if_neg h1]
   refine qt W hp (by omega) (by omega) fun i j hij hj=>?_
   have h0:i=m - 1:=by omega
   have h1:j=m:=by omega
   subst h0 h1
   exact hle
theorem kz(W:Wk lt){p:Array Nat}(hp:Rg n p){k:Nat}(hk:k<n)(hu:Up lt p k):∀(f l r:Nat),l<=r->r<=k->r - l<=f->(∀ i,i<l->Lq lt (pg p i) (pg p k))->(∀ i,r<=i->i<k->Lq lt (pg p k) (pg p i)) ->
  Kok lt n (kas_place p k f l r) (fun m=>m<=k/\(∀ i,i<m->Lq lt (pg p i) (pg p k))/\(∀ i,m<=i->i<k->Lq lt (pg p k) (pg p i)))
 | 0,l,r,hl,hr,hf,h1,h2=>by
  have:l=r:=by omega
  subst this
  exact⟨hr,h1,h2⟩
 | f+1,l,r,hl,hr,hf,h1,h2=>by
  unfold kas_place
  by_cases e:l ≥ r
  ·rw[if_pos e]
   have:l=r:=by omega
   subst this
   exact⟨hr,h1,h2⟩
  ·rw[if_neg e]
   refine⟨hp.bd hk,hp.bd (by omega),?_⟩
   rcases ce (lt (pg p k) (pg p ((l+r) / 2))) with hc | hc
   ·show Kok lt n (if lt (pg p k) (pg p ((l+r) / 2))=true then _ else _) _
    rw[if_pos hc]
    refine kz W hp hk hu f l ((l+r) / 2) (by omega) (by omega) (by omega) h1 fun i hi hik=>?_
    by_cases e2:i=(l+r) / 2
    ·subst e2;exact W.asym _ _ hc
    ·exact W.ntr _ _ _ (W.asym _ _ hc) (hu _ _ (by omega) hik)
   ·show Kok lt n (if lt (pg p k) (pg p ((l+r) / 2))=true then _ else _) _
    rw[if_neg (by rw[hc];decide)]
    refine kz W hp hk hu f ((l+r) / 2+1) r (by omega) hr (by omega) (fun i hi=>?_) h2
    by_cases e2:i=(l+r) / 2
    ·subst e2;exact hc
    ·exact W.ntr _ _ _ (hu i ((l+r) / 2) (by omega) (by omega)) hc
theorem Jb{p:Array Nat}{k l:Nat}(hk:k<p.size)(hl:l<=k)(i:Nat):pg (bubble p k (k - l)) i=if i=l then pg p k else if l<i/\i<=k then pg p (i - 1) else pg p i:=by
 have e:k - (k - l)=l:=by omega
 rw[XQ,getElem?_bubble hk (k - l) (by omega),e]
 by_cases h:i=l
 ·rw[if_pos h,if_pos h];exact (XQ p k).symm
 ·rw[if_neg h,if_neg h]
  by_cases h':l<i/\i<=k
  ·rw[if_pos h',if_pos h'];exact (XQ p (i - 1)).symm
  ·rw[if_neg h',if_neg h'];exact (XQ p i).symm
theorem Jd(W:Wk lt):∀(f:Nat) (p:Array Nat) (k:Nat),Rg n p->k+f=n->Up lt p k->Kok lt n (kas_bin f p k) (fun p'=>Rg n p'/\Up lt p' n)
 | 0,p,k,hp,hk,hu=>by
  have:k=n:=by omega
  subst this
  exact⟨hp,hu⟩
 | f+1,p,k,hp,hk,hu=>by
  have hps:=hp.size
  refine Kok.bind _ ((kz W hp (by omega) hu k 0 k (by omega) (by omega) (by omega) (fun i hi=>by omega) (fun i h1 h2=>by omega)).mono (fun l hl=>?_) _)
  obtain⟨l1,l2,l3⟩:=hl
  refine Jd W f _ (k+1) (hp.bub _ _) (by omega) fun i j hij hj=>?_
  rw[Jb (by omega) l1,Jb (by omega) l1]
  by_cases h1:i=l
  ·rw[if_pos h1,if_neg (by omega),if_pos (by omega)]
   exact l3 _ (by omega) (by omega)
  ·rw[if_neg h1]
   by_cases h2:j=l
   ·rw[if_pos h2,if_neg (by omega)]
    exact l2 _ (by omega)
   ·rw[if_neg h2]
    by_cases h3:l<i/\i<=k
    ·rw[if_pos h3,if_pos (by omega)]
     exact hu _ _ (by omega) (by omega)
    ·rw[if_neg h3]
     by_cases h4:l<j/\j<=k
     ·rw[if_pos h4]
      by_cases h5:i=j - 1
      ·omega
      ·exact hu _ _ (by omega) (by omega)
     ·rw[if_neg h4]
      exact hu _ _ (by omega) (by omega)
theorem Kq(W:Wk lt)(hn:1<=n):Kok lt n (kas_sort n) (fun p=>Rg n p/\Up lt p n):=by
 unfold kas_sort
 refine Kok.bind _ ((U3 W (p:=bh (aY n)) (by unfold Rg;exact List.Perm.refl _) hn).mono (fun r hr=>?_) _)
 obtain⟨r1,r2,r3,r4⟩:=hr
 (try dsimp only)
 split
 ·have:max r.1 1=r.1:=by omega
  rw[this]
  exact Jd W _ _ _ r1 (by omega) r4
 ·have:r.1=n:=by omega
  rw[this] at r4
  exact⟨r1,r4⟩
end
def srt{α:Type}(lt:α->α->Bool)(d:α)(xs:List α):List α :=
 if xs.length<2 then xs else (zbH (fun i j=>lt (xs.getD i d) (xs.getD j d)) (kas_sort xs.length)).toList.map fun i=>xs.getD i d
structure WkO{α:Type}(lt:α->α->Bool):Prop where
 asym:∀ a b,lt a b=true->lt b a=false
 ntr:∀ a b c,lt b a=false->lt c b=false->lt c a=false
end L3
namespace L3
structure KeyFam(α:Type) where
 dec:α->List D
 lt:α->α->Bool
 fst:Bool
 d0:α
structure KeyFam.Ok{α:Type}(F:KeyFam α):Prop where
 w:WkO F.lt
 eq:∀ a b,uf (F.dec a) (F.dec b)=F.lt a b
 ok:∀ a b,kj (F.dec a) (F.dec b)
 dp:∀ a,qb (F.dec a)<40
 sh:∀ a,∃ d r,F.dec a=d::r/\((F.fst=true/\∃ n,d=.int n)\/(F.fst=false/\∃ l,d=.tup l))
section
variable{X:Cx}{pins:List (Addr × Obj)}{σ:L2.St}{H:Hp}{s:Shared}
theorem Inv.repin{b:Addr}{o o':Obj}{h':Heap}(I:Inv X (pins ++ [(b,o)]) σ H s)(hs:X.s₀.heap.objs.size<=b)(hn:∀ p ∈ X.pn ++ pins,p.1≠b)(sb:Heap.SameBut b s.heap h')(ho:h'.get? b=some o')(hd:∀ v,o'.data≠.cell v) :
  Inv X (pins ++ [(b,o')]) σ H { s with heap:=h' }:=by
 have I1:Inv X pins σ H s:=I.unpinned
 obtain⟨p1,p2,p3,p4,p5⟩:=I.pin (b,o) (aA _ (aA _ (List.mem_singleton.mpr rfl)))
 have I2:Inv X pins σ H { s with heap:=h' }:=Inv.turns I1 (fp:=[b]) (t':=s.toks) (fun b' u hb e=>(sb.2 b' (by simpa using hb)).trans e) fun b' hb=>by
  have e:b'=b:=by simpa using hb
  subst e
  refine⟨p2,p3,p4,.inr hs,fun x c e z=>?_,hn⟩
  obtain⟨v,o1,ho1,hd1⟩:=I.cell x c e
  subst z
  rw[p1] at ho1
  cases ho1
  exact p5 v hd1
 exact I2.pins_of fun p hp=>by
  rcases List.mem_append.mp hp with z | z
  ·exact I2.pin p (aA _ z)
  ·have e:p=(b,o'):=by simpa using z
   subst e
   exact⟨ho,p2,p3,p4,hd⟩
theorem Inv.newpin{b:Addr}{o:Obj}(I:Inv X pins σ H s)(hf:wa X pins H b)(ho:s.heap.get? b=some o)(hd:∀ v,o.data≠.cell v):Inv X (pins ++ [(b,o)]) σ H s :=
 I.pins_of fun p hp=>by
  rcases List.mem_append.mp hp with z | z
  ·exact I.pin p (aA _ z)
  ·have e:p=(b,o):=by simpa using z
   subst e
   exact⟨ho,hf.1,hf.2.1,hf.2.2.1,hd⟩
theorem zaq(I:Inv X pins σ H s){A:Around}{b:Bool}{Q:Bool->Shared->Prop}(hu:A.units+50<cLine):∀(l m:List D) (xs ys:List V) (its its':List Value) (i:Nat),Iss X.K H l xs->Iss X.K H m ys->Vals xs its->Vals ys its'->kj l m->qb l<40 ->
  (b=true->i=0->(∃ n r,l=.int n::r)/\∃ n r,m=.int n::r)->Q (uf l m) s->PySem.W.KatLex X.prog X.w A b (decide (its.length<its'.length)) Q (its.zip its') i s
 | [],m,xs,ys,its,its',i,h1,h2,r1,r2,ok,hd,hb,q=>by
  simp only[Iss] at h1
  subst h1
  cases r1
  have e:uf [] m=decide (([]:List Value).length<its'.length):=by
   have e1:=h2.len
   have e2:=r2.length
   have e3:m.length=its'.length:=by omega
   rw[<- e3]
   cases m with
   | nil=>simp [uf]
   | cons _ _=>simp [uf]
  rw[e] at q
  rw[List.zip_nil_left]
  exact fz q
 | d::l,[],xs,ys,its,its',i,h1,h2,r1,r2,ok,hd,hb,q=>by
  simp only[Iss] at h2
  subst h2
  cases r2
  simp only[uf] at q
  rw[List.zip_nil_right]
  exact fz (by simpa using q)
 | d::l,e::m,xs,ys,its,its',i,h1,h2,r1,r2,ok,hd,hb,q=>by
  simp only[Iss] at h1 h2
  obtain⟨x,xr,rfl,hx,hxr⟩:=h1
  obtain⟨y,yr,rfl,hy,hyr⟩:=h2
  cases r1 with | cons rx rxr =>
  cases r2 with | cons ry ryr =>
  simp only[kj] at ok
  simp only[qb] at hd
  rename_i u us v vs
  rw[dg]
  refine PySem.W.kat_cons (Zv I 45 A d e x y u v (by omega) (by omega) hx hy rx ry X.prog X.w _ _ ?_)
  cases he:eqD d e with
  | true =>
   refine PySem.W.kat_yes ?_
   have:=zaq I (b:=b) hu l m xr yr us vs (i+1) hxr hyr rxr ryr ok.2 (by omega) (fun _ z=>absurd z (by omega)) (by simpa only[uf,he,if_true] using q)
   simpa using this
  | false =>
   refine PySem.W.kat_no ?_
   have q':Q (ltD d e) s:=by simpa only[uf,he,bO,if_false] using q
   by_cases hbi:(b && i == 0)=true
   ·rw[hbi]
    simp only[cE,beq_iff_eq] at hbi
    obtain⟨⟨n,r,e1⟩,n',r',e2⟩:=hb hbi.1 hbi.2
    cases e1;cases e2
    simp only[Is] at hx hy
    subst hx hy
    obtain⟨t,rfl⟩:=rx
    obtain⟨t',rfl⟩:=ry
    simp only[ltD] at q'
    exact oneLt_int q'
   ·rw[show (b && i == 0)=false by simpa using hbi]
    exact PySem.W.kat_one _ _ (Ji I 45 A d e x y u v (by omega) (by omega) ok.1 hx hy rx ry X.prog X.w _ _ q')
theorem Kx(I:Inv X pins σ H s){A:Around}{b:Bool}{Q:Bool->Shared->Prop}{E:Value->Shared->Prop}(hu:A.units+50<cLine){l m:List D}{x y:V}{u v:Value}(hx:Is X.K H (.tup l) x)(hy:Is X.K H (.tup m) y)(rx:RelV x u)(ry:RelV y v)
  (ok:kj l m) (hd:qb l<40) (hb:b=true->(∃ n r,l=.int n::r)/\∃ n r,m=.int n::r) (q:Q (uf l m) s):wpAny (model X.prog X.w) A (keyLt' (tuples' b) u v) Q E s:=by
 simp only[Is] at hx hy
 obtain⟨a,xs,rfl,h1,h2⟩:=hx
 obtain⟨c,ys,rfl,g1,g2⟩:=hy
 cases rx;cases ry
 obtain⟨its,r,⟨o,ho,hoc,n,hod⟩,_⟩:=I.tuple h1
 obtain⟨its',r',⟨o',ho',hoc',n',hod'⟩,_⟩:=I.tuple g1
 refine PySem.W.kat_lt ho hod ho' hod' ?_
 have:=zaq I (A:=A) (b:=b) (Q:=Q) hu l m xs ys its its' 0 h2 g2 r r' ok hd (fun z _=>hb z) q
 simpa using this
theorem QU{α:Type}{F:KeyFam α}(FO:F.Ok)(I:Inv X pins σ H s){M:Model}:∀(rs:List α) (acc:List V) (ks:List Value),Iss X.K H (rs.map fun a=>.tup (F.dec a)) acc->Vals acc ks ->
  ∃ fs,PySem.W.KatTups s.heap ks fs/\fs.length=rs.length/\∀ v ∈ fs,PySem.W.Looks M s.heap (typeOf v) (.type (if F.fst=true then "int" else "tuple"))
 | [],acc,ks,h,r=>by
  simp only[aN,Iss] at h
  subst h
  cases r
  exact⟨[],PySem.W.KatTups.nil,rfl,fun v hv=>by cases hv⟩
 | a::rs,acc,ks,h,r=>by
  simp only[aC,Iss] at h
  obtain⟨x,xr,rfl,hx,hxr⟩:=h
  cases r with | cons rx rxr =>
  rename_i u us
  obtain⟨fs,t1,t2,t3⟩:=QU FO I (M:=M) rs xr us hxr rxr
  simp only[Is] at hx
  obtain⟨c,xs,rfl,h1,h2⟩:=hx
  cases rx
  obtain⟨its,ri,⟨o,ho,hoc,n,hod⟩,_⟩:=I.tuple h1
  obtain⟨d,dr,ed,hsh⟩:=FO.sh a
  rw[ed] at h2
  simp only[Iss] at h2
  obtain⟨y,yr,rfl,hy,_⟩:=h2
  cases ri with | cons ry rir =>
  rename_i v vs
  refine⟨v::fs,PySem.W.KatTups.cons ho hoc hod (by simp) t1,by simp [t2],fun z hz=>?_⟩
  rcases List.mem_cons.mp hz with e | hz
  ·subst e
   rcases hsh with ⟨hf,n',rfl⟩ | ⟨hf,l,rfl⟩
   ·rw[if_pos hf]
    simp only[Is] at hy
    subst hy
    obtain⟨t,rfl⟩:=ry
    exact PySem.W.Looks.of_pure rfl
   ·rw[if_neg (by rw[hf];decide)]
    simp only[Is] at hy
    obtain⟨c',xs',rfl,g1,_⟩:=hy
    cases ry
    obtain⟨its',ri',⟨o',ho',hoc',n',hod'⟩,_⟩:=I.tuple g1
    rw[<- hoc']
    exact (PySem.W.Looks.ld ho').andThen .now
  ·exact t3 z hz
end
def Wd{α:Type}(K:oO)(F:KeyFam α)(xs:List V)(Q:VK):List V->Hp->Prop:=fun acc H'=>∃ rs:List α,Iss K H' (rs.map fun a=>.tup (F.dec a)) acc /\
 ∀ ys:List (α × V),ys.Perm (rs.zip xs)->ys.Pairwise (fun p q=>F.lt q.1 p.1=false)->∀ D,H' D=none->Q (.ref D) (upd H' D (.lst (ys.map (·.2))))
theorem VZ{β:Type}{g:β->β->Bool}{d:β}{zs:List β}{p:Array Nat}(h1:Rg zs.length p)(h2:Up (fun i j=>g (zs.getD i d) (zs.getD j d)) p zs.length) :
  (p.toList.map fun i=>zs.getD i d).Perm zs/\(p.toList.map fun i=>zs.getD i d).Pairwise fun a b=>g b a=false:=by
 have e:(aY zs.length).map (fun i=>zs.getD i d)=zs:=by
  refine List.ext_getElem (by simp) fun i a b=>?_
  have hb:i<zs.length:=by simpa using b
  simp [hb]
 refine⟨(h1.map (fun i=>zs.getD i d)).trans (by rw[e]),?_⟩
 rw[dQ,dY]
 intro i j hi hj hij
 have hs:=h1.size
 have hi':i<p.size:=by simpa using hi
 have hj':j<p.size:=by simpa using hj
 have q:=h2 i j hij (by omega)
 have ei:pg p i=p.toList[i]:=by simp [pg,eU,hi']
 have ej:pg p j=p.toList[j]:=by simp [pg,eU,hj']
 rw[ei,ej] at q
 exact q
end L3
namespace L3
section
variable{X:Cx}{pins:List (Addr × Obj)}{σ:L2.St}{H:Hp}{s:Shared}
theorem Inv.fp_of_pin{b:Addr}{o:Obj}(I:Inv X (pins ++ [(b,o)]) σ H s)(hs:X.s₀.heap.objs.size<=b)(hn:∀ p ∈ X.pn ++ pins,p.1≠b):wa X pins H b:=by
 obtain⟨p1,p2,p3,p4,p5⟩:=I.pin (b,o) (aA _ (aA _ (List.mem_singleton.mpr rfl)))
 refine⟨p2,p3,p4,.inr hs,fun x c e z=>?_,hn⟩
 obtain⟨v,o1,ho1,hd1⟩:=I.cell x c e
 subst z
 rw[p1] at ho1
 cases ho1
 exact p5 v hd1
theorem Inv.at_pin{b:Addr}{o:Obj}(I:Inv X (pins ++ [(b,o)]) σ H s):s.heap.get? b=some o:=(I.pin (b,o) (aA _ (aA _ (List.mem_singleton.mpr rfl)))).1
theorem wk{c:String}{xs:Array Value}{n:Nat}:∀ v,(seqObj c xs n).data≠.cell v:=fun v z=>by cases z
theorem Jw{D kS:Addr}{e e1:Nat}{st:SortSt}{ks out:List Value}{A:Around}{E:Value->Shared->Prop}{P:PySem.Fin->Shared->Prop}(I:Inv X ((pins ++ [(D,seqObj "list" #[] e1)]) ++ [(kS,seqObj "list" (bh ks) e)]) σ H s)
  (hD:X.s₀.heap.objs.size<=D) (hK:X.s₀.heap.objs.size<=kS) (nD:∀ p ∈ X.pn ++ pins,p.1≠D) (nK:∀ p ∈ X.pn ++ (pins ++ [(D,seqObj "list" #[] e1)]),p.1≠kS) (hkz:ks.length<64)
  (hout:(arrOf st).map (·.2)=bh out) (hoz:out.length<64) (hf:failedOf st=none) (h:∀ s' c,Inv X (pins ++ [(D,seqObj "list" (bh out) c)]) σ H s'->P (.done (.ret .none)) s') :
  wpAny (model X.prog X.w) A (ksk_tail D false e1 (.ref kS) st) P E s:=by
 have pk:=Inv.at_pin I
 have s1:=Heap.SameBut.update s.heap kS (Obj.mapSeq fun _=>(#[]:Array Value))
 obtain⟨ck,hck⟩:∃ ck,(s.heap.update kS (Obj.mapSeq fun _=>(#[]:Array Value))).get? kS=some (seqObj "list" #[] ck):=⟨_,get?_update_seq pk fun _=>#[]⟩
 have I2:=(Inv.repin I hK nK s1 hck wk).unpinned
 have pd:=Inv.at_pin I2
 have s2:=Heap.SameBut.update (s.heap.update kS (Obj.mapSeq fun _=>(#[]:Array Value))) D (Obj.mapSeq fun _=>bh out)
 obtain⟨c2,hc2⟩:∃ c2,((s.heap.update kS (Obj.mapSeq fun _=>(#[]:Array Value))).update D (Obj.mapSeq fun _=>bh out)).get? D=some (seqObj "list" (bh out) c2):=⟨_,get?_update_seq pd fun _=>bh out⟩
 have I3:=Inv.repin I2 hD nD s2 hc2 wk
 unfold ksk_tail
 (try dsimp only)
 rw[hout]
 refine oH (listUpdate_at pk rfl ?_ (by rw[ao,sizeLine_eq];omega) (aJ _))
 refine oH (wpAny_letGo ?_)
 refine oH (seqEpoch_at pd rfl ?_)
 refine oH (listUpdate_at pd rfl ?_ (aJ _) (by simp only[bO,if_false];rw[ao,sizeLine_eq];omega))
 rw[hf]
 simp only[bne_self_eq_false,bO,if_false]
 exact oJ (h _ c2 I3)
theorem zbS{α:Type}{F:KeyFam α}(FO:F.Ok){D kS:Addr}{e e1:Nat}{ks its:List Value}{acc xs:List V}{rs:List α}{A:Around}{E:Value->Shared->Prop}{P:PySem.Fin->Shared->Prop}(hu:A.units+50<cLine)
  (I:Inv X ((pins ++ [(D,seqObj "list" #[] e1)]) ++ [(kS,seqObj "list" (bh ks) e)]) σ H s)
  (hD:X.s₀.heap.objs.size<=D) (hK:X.s₀.heap.objs.size<=kS) (nD:∀ p ∈ X.pn ++ pins,p.1≠D) (nK:∀ p ∈ X.pn ++ (pins ++ [(D,seqObj "list" #[] e1)]),p.1≠kS)
  (rk:Vals acc ks) (rv:Vals xs its) (hl:ks.length=its.length) (hz:its.length<64) (hR:Iss X.K H (rs.map fun a=>.tup (F.dec a)) acc)
  (h:∀ s' (ys:List (α × V)) (out:List Value) c,ys.Perm (rs.zip xs)->ys.Pairwise (fun p q=>F.lt q.1 p.1=false)->Vals (ys.map (·.2)) out->out.length<64->Inv X (pins ++ [(D,seqObj "list" (bh out) c)]) σ H s'->P (.done (.ret .none)) s') :
  wpAny (model X.prog X.w) A (ksk_end D false its.toArray e1 (.ref kS) (bh ks)) P E s:=by
 have L1:=hR.len
 have L2:=rk.length
 have L3:=rv.length
 rw[ae] at L1
 have lz:(rs.zip xs).length=its.length:=by rw[List.length_zip];omega
 unfold ksk_end
 simp only[bO,if_false]
 by_cases h2:its.toArray.size<2
 ·rw[if_pos h2,if_pos h2]
  refine oH (oJ ?_)
  rw[StateT.run_pure]
  refine oH (oJ ?_)
  (try dsimp only)
  refine Jw (out:=its) I hD hK nD nK (by omega) ?_ hz rfl fun s' c I'=>h s' (rs.zip xs) its c (List.Perm.refl _) ?_ ?_ hz I'
  ·show ((bh ks).zip its.toArray).map (·.2)=_
   apply Array.toList_inj.mp
   rw[Array.toList_map,ksk_zip]
   exact List.map_snd_zip (by simp;omega)
  ·rw[ao] at h2
   match rs.zip xs,lz with
   | [],_=>exact List.Pairwise.nil
   | [a],_=>exact eh _ _
   | _::_::_,lz=>exact absurd lz (by simp only[aM];omega)
  ·rw[List.map_snd_zip (by omega)]
   exact rv
 ·rw[if_neg h2,if_neg h2]
  rw[ao] at h2
  obtain⟨fs,t1,t2,t3⟩:=QU FO I (M:=model X.prog X.w) rs acc ks hR rk
  refine oH (PySem.W.kat_kind t1 (by omega) t3 (by simp) ?_)
  have hfst:((Value.type (if F.fst=true then "int" else "tuple"):Value) != Value.type "tuple")=F.fst:=by
   cases hF:F.fst with
   | true=>rfl
   | false=>rfl
  rw[hfst]
  have W:Wk (fun i j=>F.lt (rs.getD i F.d0) (rs.getD j F.d0)):=⟨fun a b=>FO.w.asym _ _,fun a b c=>FO.w.ntr _ _ _⟩
  have ok:=Kq (n:=its.length) W (by omega)
  have lt_eq:(fun i j=>F.lt (rs.getD i F.d0) (rs.getD j F.d0))=(fun i j=>(fun(p q:α × V)=>F.lt p.1 q.1) ((rs.zip xs).getD i (F.d0,.non)) ((rs.zip xs).getD j (F.d0,.non))):=by
   have one:∀ i,((rs.zip xs).getD i (F.d0,V.non)).1=rs.getD i F.d0:=fun i=>by
    by_cases hi:i<its.length
    ·have a1:i<rs.length:=by omega
     have a2:i<xs.length:=by omega
     rw[ac,ac,al (by omega),al a1]
     simp
    ·rw[ac,ac,bz (by omega),bz (by omega)]
     rfl
   funext i j
   simp only[one]
  have wp:=Kok.wp (n:=its.length) (cmp:=fA X.prog X.w A (tuples' F.fst) ks) (I:=fun s'=>Inv X ((pins ++ [(D,seqObj "list" #[] e1)]) ++ [(kS,seqObj "list" (bh ks) e)]) σ H s')
   (R:=fun p s'=>(Rg its.length p/\Up (fun i j=>F.lt (rs.getD i F.d0) (rs.getD j F.d0)) p its.length)/\Inv X ((pins ++ [(D,seqObj "list" #[] e1)]) ++ [(kS,seqObj "list" (bh ks) e)]) σ H s')
   (fun i j C s' hi hj I' hC=>?_) (fun p s' hp I'=>⟨hp,I'⟩) _ s I ok
  ·have run:=PySem.W.kat_run (E:=E) (vs:=its) (ks:=ks) (Q:=fun st' s'=>∃ p:Array Nat,p.size=its.length/\arrOf st'=p.map (PySem.W.kas_item (ks.toArray.zip its.toArray))/\failedOf st'=none/\_) hl (by omega) hz (fun p' st' s' a1 a2 a3 a4=>⟨p',a1,a2,a3,a4⟩) wp
   refine oH (wpAny_mono run ?_ fun _ _ e=>e)
   rintro⟨⟨⟩,st'⟩ s' ⟨p,hp,har,hf,⟨hR1,hU⟩,I'⟩
   (try dsimp only)
   have hout:=PySem.W.kat_snds (ks:=ks) (vs:=its) hl har
   have hR2:Rg (rs.zip xs).length p:=by rw[lz];exact hR1
   rw[lt_eq,<- lz] at hU
   obtain⟨g1,g2⟩:=VZ (g:=fun(p q:α × V)=>F.lt p.1 q.1) hR2 hU
   have olen:(p.toList.map fun i=>its.getD i Value.none).length=its.length:=by rw[ae,dC,hp]
   refine Jw (out:=p.toList.map fun i=>its.getD i Value.none) I' hD hK nD nK (by omega) hout (by omega) hf fun s2 c I2=>h s2 _ _ c g1 g2 ?_ (by omega) I2
   rw[dw]
   have all:∀(js:List Nat),(∀ j ∈ js,j<its.length)->Vals (js.map ((fun x:α × V=>x.2) ∘ fun i=>(rs.zip xs).getD i (F.d0,.non))) (js.map fun i=>its.getD i Value.none):=by
    intro js
    induction js with
    | nil=>intro _;exact .nil
    | cons j js ih =>
     intro hj
     refine .cons ?_ (ih fun i hi=>hj i (aw _ hi))
     have hjl:=hj j az
     have a1:j<xs.length:=by omega
     obtain⟨u,hu1,ru⟩:=xX rv (j:=j) (x:=xs[j]) (al a1)
     have e1:((rs.zip xs).getD j (F.d0,V.non)).2=xs[j]:=by
      rw[ac,al (by omega)]
      simp
     have e2:its.getD j Value.none=u:=by rw[ac,hu1];rfl
     show RelV ((rs.zip xs).getD j (F.d0,V.non)).2 (its.getD j Value.none)
     rw[e1,e2]
     exact ru
   exact all p.toList fun j hj=>List.mem_range.mp (hR1.mem_iff.mp hj)
  ·have a1:i<rs.length:=by omega
   have a2:j<rs.length:=by omega
   have gi:(rs.map fun a=>_root_.L3.D.tup (F.dec a))[i]? = some (.tup (F.dec rs[i])):=by rw[aG,al a1];rfl
   have gj:(rs.map fun a=>_root_.L3.D.tup (F.dec a))[j]? = some (.tup (F.dec rs[j])):=by rw[aG,al a2];rfl
   obtain⟨x,hx,ix⟩:=hR.at gi
   obtain⟨y,hy,iy⟩:=hR.at gj
   obtain⟨u,hu1,ru⟩:=xX rk hx
   obtain⟨v,hv1,rv1⟩:=xX rk hy
   have e1:ks.getD i Value.none=u:=by rw[ac,hu1];rfl
   have e2:ks.getD j Value.none=v:=by rw[ac,hv1];rfl
   have e3:rs.getD i F.d0=rs[i]:=by rw[ac,al a1];rfl
   have e4:rs.getD j F.d0=rs[j]:=by rw[ac,al a2];rfl
   unfold fA
   rw[e1,e2]
   refine Kx I' hu ix iy ru rv1 (FO.ok _ _) (FO.dp _) (fun hb=>?_) ?_
   ·obtain⟨d,r,ed,hd⟩:=FO.sh rs[i]
    obtain⟨d',r',ed',hd'⟩:=FO.sh rs[j]
    rcases hd with ⟨_,n,rfl⟩ | ⟨z,_⟩
    ·rcases hd' with ⟨_,n',rfl⟩ | ⟨z,_⟩
     ·exact⟨⟨n,r,ed⟩,n',r',ed'⟩
     ·rw[hb] at z;cases z
    ·rw[hb] at z;cases z
   ·rw[FO.eq,<- e3,<- e4]
    exact hC s' I'
end
end L3
namespace L3
def uI(kc:V->Hp->VK->Prop):List V->List V->Hp->(List V->Hp->Prop)->Prop
 | [],acc,H,Q=>Q acc H
 | x::xs,acc,H,Q=>kc x H (fun k H'=>uI kc xs (acc ++ [k]) H' Q)
section
variable{X:Cx}{pins:List (Addr × Obj)}{σ:L2.St}{H:Hp}{s:Shared}
theorem JP{α:Type}{F:KeyFam α}(FO:F.Ok){k:Nat}{q:Addr}{kc:V->Hp->VK->Prop}(hr:Room (k+2) X.A)
  (hkc:∀(pins':List (Addr × Obj)) (s:Shared) (H:Hp) (x:V) (u:Value) (Q:VK),Inv X pins' σ H s->RelV x u->kc x H Q->wpAny (model X.prog X.w) X.A.in1.in1 (call (.ref q) [u]) (EP X pins' σ Q) (fun _ _=>False) s)
  {D kS:Addr} {e1:Nat} {its:List Value} {xs:List V} {E:Value->Shared->Prop} {P:PySem.Fin->Shared->Prop} {Q:VK}
  (I:Inv X ((pins ++ [(D,seqObj "list" #[] e1)]) ++ [(kS,seqObj "list" #[] 0)]) σ H s)
  (hD:X.s₀.heap.objs.size<=D) (hK:X.s₀.heap.objs.size<=kS) (nD:∀ p ∈ X.pn ++ pins,p.1≠D) (nK:∀ p ∈ X.pn ++ (pins ++ [(D,seqObj "list" #[] e1)]),p.1≠kS)
  (rv:Vals xs its) (hz:its.length<64)
  (ht:uI kc xs [] H (Wd X.K F xs Q))
  (hP:∀ s',EP X pins σ Q (.ref D) s'->P (.done (.ret .none)) s') :
  wpAny (model X.prog X.w) X.A.in1.in1 (ksk_rest D (.ref q) false its.toArray e1 (.ref kS)) P E s:=by
 unfold ksk_rest
 refine oH (wpAny_rule ?_)
 rw[List.forIn_toArray]
 refine oH (ksk_fold (fun j s'=>∃ acc ks e H',Inv X ((pins ++ [(D,seqObj "list" #[] e1)]) ++ [(kS,seqObj "list" (bh ks) e)]) σ H' s'/\Vals acc ks/\ks.length=j/\uI kc (xs.drop j) acc H' (Wd X.K F xs Q))
  its 0 s ⟨[],[],0,H,I,.nil,rfl,ht⟩ (fun j x s1 hx hJ=>?_) fun s1 hJ=>?_)
 ·obtain⟨acc,ks,e,H1,I1,rk,hkl,tk⟩:=hJ
  rw[d9] at hkl tk
  have hjl:j<its.length:=(List.getElem?_eq_some_iff.mp hx).1
  have L3:=rv.length
  obtain⟨u,hu,ru⟩:=xX rv (j:=j) (x:=xs[j]) (al (by omega))
  rw[hx] at hu
  cases hu
  rw[aV (by omega)] at tk
  refine oH (wpAny_attempt (wpAny_mono (hkc _ _ _ _ _ _ I1 ru tk) (fun kv s2 hk=>?_) fun _ _ z=>z.elim))
  obtain⟨v,H2,I2,rv2,tk2⟩:=hk
  have pk:=Inv.at_pin I2
  have sb:=Heap.SameBut.update s2.heap kS (Obj.mapSeq (·.push kv))
  have ea:(bh ks).push kv=bh (ks ++ [kv]):=by simp
  obtain⟨c2,hc2⟩:∃ c2,(s2.heap.update kS (Obj.mapSeq (·.push kv))).get? kS=some (seqObj "list" (bh (ks ++ [kv])) c2):=⟨_,by rw[<- ea];exact get?_update_seq pk (·.push kv)⟩
  have I3:=Inv.repin I2 hK nK sb hc2 wk
  (try dsimp only)
  refine oH (listUpdate_at pk rfl ?_ (by rw[ao,sizeLine_eq];omega) (by rw[Array.size_push,ao,sizeLine_eq];omega))
  refine oJ ⟨rfl,acc ++ [v],ks ++ [kv],c2,H2,I3,rk.append (.cons rv2 .nil),by rw[am,cu,hkl];omega,?_⟩
  rw[d9]
  exact tk2
 ·obtain⟨acc,ks,e,H1,I1,rk,hkl,tk⟩:=hJ
  rw[d9] at hkl tk
  have L3:=rv.length
  rw[<- L3,d6] at tk
  obtain⟨rs,hR,hq⟩:=tk
  (try dsimp only)
  refine oH (listItems_at (Inv.at_pin I1) rfl ?_)
  refine zbS FO (by have:=hr.in1.in1.un;omega) I1 hD hK nD nK rk rv hkl hz hR fun s' ys out c p1 p2 p3 p4 I'=>hP s' ?_
  have fp:=Inv.fp_of_pin I' hD nD
  refine⟨.ref D,_,Inv.track I'.unpinned (a:=D) (o:=.lst (ys.map (·.2))) fp ⟨?_,out,c,p3,Inv.at_pin I'⟩,rfl,hq ys p1 p2 D fp.1⟩
  rw[p3.length,sizeLine_eq]
  omega
theorem Vu{α:Type}{F:KeyFam α}(FO:F.Ok){k:Nat}{q l:Addr}{xs:List V}{kc:V->Hp->VK->Prop}{Q:VK}(hr:Room (k+2) X.A)
  (hkc:∀(pins':List (Addr × Obj)) (s:Shared) (H:Hp) (x:V) (u:Value) (Q:VK),Inv X pins' σ H s->RelV x u->kc x H Q->wpAny (model X.prog X.w) X.A.in1.in1 (call (.ref q) [u]) (EP X pins' σ Q) (fun _ _=>False) s)
  (I:Inv X pins σ H s) (hS:SqL X.K H l xs) (hz:xs.length<64) (ht:uI kc xs [] H (Wd X.K F xs Q)) :
  wpAny (model X.prog X.w) X.A (call (.builtin "sorted") [.ref l] [(bG "key",.ref q)]) (EP X pins σ Q) X.xe s:=by
 obtain⟨its,rv,pl,_⟩:=I.list hS
 have hlen:=rv.length
 refine call_function_entry_kw kind_sorted plain_sorted entry_sorted (ksk_s1 _ _) ?_
 unfold Builtin.«sorted»
 refine oH (m:=checkCount "sorted" 1 1 _) (oJ ?_)
 refine oH (collect_list pl.isList ?_ (by rw[sizeLine_eq];omega))
 refine oH (wpAny_newList ?_ (by rw[sizeLine_eq];omega))
 generalize hh1:((s.heap.push (seqObj "list" #[] 0)).update s.heap.objs.size (Obj.mapSeq (· ++ its.toArray)))=h1
 have sz1:h1.objs.size=s.heap.objs.size+1:=by rw[<- hh1,dn,size_push']
 have kp1:∀ b o,s.heap.get? b=some o->h1.get? b=some o:=fun b o e=>by
  have hlt:b<s.heap.objs.size:=ay e
  rw[<- hh1,Heap.get?_update_ne _ _ _ _ (aE hlt),Heap.get?_push_ne _ _ _ (aE hlt)]
  exact e
 have hoL:(h1.push (seqObj "list" its.toArray 0)).get? h1.objs.size=some (seqObj "list" its.toArray 0):=aI _ rfl
 show wpAny _ _ _ _ _ { s with heap:=h1.push (seqObj "list" its.toArray 0) }
 refine oH (wpAny_holding (wpAny_call_entry_kw slot_list_sort ⟨_,hoL,rfl⟩ entry_list_sort ?body (ksk_l1 _ _)))
 show wpAny _ _ (Builtin.«list.sort» ⟨[.ref h1.objs.size],[(bG "key",.ref q)]⟩) _ _ _
 rw[ksk_t1]
 generalize hh2:h1.push (seqObj "list" its.toArray 0)=h2 at hoL
 have sz2:h2.objs.size=h1.objs.size+1:=by rw[<- hh2,size_push']
 have kp2:∀ b o,s.heap.get? b=some o->h2.get? b=some o:=fun b o e=>by rw[<- hh2];exact aa _ (kp1 b o e)
 generalize hDD:h1.objs.size=D at hoL
 obtain⟨e1,ho1⟩:∃ e1,(h2.update D (Obj.mapSeq fun _=>(#[]:Array Value))).get? D=some (seqObj "list" #[] e1):=⟨_,get?_update_seq hoL fun _=>#[]⟩
 have hDs:s.heap.objs.size<=D:=by rw[<- hDD,sz1];exact cC _
 have sb:=Heap.SameBut.update h2 D (Obj.mapSeq fun _=>(#[]:Array Value))
 unfold ksk_tree
 refine oH (listItems_at hoL rfl ?_)
 refine oH (listUpdate_at hoL rfl ?_ (by rw[ao,sizeLine_eq];omega) (aJ _))
 refine oH (seqEpoch_at ho1 rfl ?_)
 refine oH (wpAny_newTuple ?_ (by show its.length<=_;rw[sizeLine_eq];omega))
 refine oH (wpAny_newList ?_ (aJ _))
 refine wpAny_holding ?_
 generalize hh3:(h2.update D (Obj.mapSeq fun _=>(#[]:Array Value))).push (seqObj "tuple" its.toArray 0)=h3
 have sz3:h3.objs.size=s.heap.objs.size+3:=by rw[<- hh3,size_push',dn,sz2,sz1]
 have hoK:(h3.push (seqObj "list" #[] 0)).get? h3.objs.size=some (seqObj "list" #[] 0):=aI _ rfl
 have hoD:(h3.push (seqObj "list" #[] 0)).get? D=some (seqObj "list" #[] e1):=aa _ (by rw[<- hh3];exact aa _ ho1)
 have kp3:∀ b o,s.heap.get? b=some o->(h3.push (seqObj "list" #[] 0)).get? b=some o:=fun b o e=>by
  have hlt:b<s.heap.objs.size:=ay e
  refine aa _ ?_
  rw[<- hh3]
  exact aa _ ((sb.2 b (aE (aD hlt hDs))).trans (kp2 b o e))
 have I1:Inv X pins σ H { s with heap:=h3.push (seqObj "list" #[] 0) }:=I.kept (t':=s.toks) kp3
 have fD:wa X pins H D:=I.fpOk (by omega) (I.hok.fresh (by omega))
 have fK:wa X pins H h3.objs.size:=I.fpOk (by omega) (I.hok.fresh (by omega))
 have I2:=Inv.newpin I1 fD hoD wk
 have nK:∀ p ∈ X.pn ++ (pins ++ [(D,seqObj "list" #[] e1)]),p.1≠h3.objs.size:=fun p hp=>by
  rcases List.mem_append.mp hp with z | z
  ·exact fK.2.2.2.2.2 p (aR _ z)
  ·rcases List.mem_append.mp z with z | z
   ·exact fK.2.2.2.2.2 p (aA _ z)
   ·have e:p=(D,seqObj "list" #[] e1):=by simpa using z
    subst e
    show D≠_
    omega
 have I3:=Inv.newpin I2 (b:=h3.objs.size) ⟨fK.1,fK.2.1,fK.2.2.1,fK.2.2.2.1,fK.2.2.2.2.1,nK⟩ hoK wk
 have hsz:=I.sz
 have hK0:X.s₀.heap.objs.size<=h3.objs.size:=by omega
 exact JP FO hr hkc I3 (by omega) hK0 fD.2.2.2.2.2 nK rv (by omega) ht fun s' hE=>⟨_,rfl,oJ ⟨_,rfl,hE⟩⟩
end
end L3
namespace L3
def VL(X:Cx)(N:List Str)(s:Shared)(H:Hp)(qual:Str)(scope:Scope)(f:Addr)(cd:Value)(cl:List (Str × Addr)):Cx where
 prog:=X.prog
 w:=X.w
 K:=X.K
 mg:=X.mg
 base:=X.base
 A:=X.A.in1.in1.deeper (ee qual scope s.heap.objs.size f cd cl)
 N:=N
 s₀:=s
 H₀:=H
 env:=ee qual scope s.heap.objs.size f cd cl
 outer:=X.stack
 stack:=ee qual scope s.heap.objs.size f cd cl::X.stack
 ex:=[]
 calm:=true
 fn:=fun _=>false
 pn:=[]
 xe:=fun _ _=>False
structure JK(p y:Str)(scope:Scope):Prop where
 kind:scope.kind=.function
 co:scope.isCoroutine=false
 gen:scope.isGenerator=false
 nocell:∀ z ∈ scope.names,z.2≠.cell
 par:scope.names.lookup p=some .local
 fre:scope.names.lookup y=some .free
 one:∀ q ∈ scope.names,q.2=.free->q.1=y
 ne:p≠y
section
variable{X:Cx}{pins:List (Addr × Obj)}{σ:L2.St}{H:Hp}{s:Shared}{p y name qual:Str}{scope:Scope}{params:Arguments}{body:Expr}{f c' c:Addr}{pm ctv cv:Value}{k iy:Nat}{vy x:V}{u:Value}{Q:VK}{t:TE}
theorem Kz(S:JK p y scope)(hd:X.A.in1.in1.handled=none)(I:Inv X pins σ H s)(hy:X.N[iy]? = some y)(hσ:σ[iy]? = some (some vy))(hvis:X.env.scope.names.lookup y=some .cell)(hc:X.env.cells.lookup y=some c)(rx:RelV x u){h₁:Heap}{tk:Nat}
  (hns:h₁.Ns s.heap.objs.size (fun z=>[(p,u)].reverse.lookup z)) (hk₁:∀ b o,s.heap.get? b=some o->h₁.get? b=some o) :
  Inv (VL X [p,y] s H qual scope f cv [(y,c)]) [] [some x,some vy] H { s with heap:=h₁,toks:=tk }:=by
 obtain⟨m,hn,hl⟩:=I.loc
 obtain⟨uy,ry,lk⟩:=hl iy y vy hy hσ (.inr (.inl hvis))
 have hcell:s.heap.IsCell c (some uy):=by
  rcases lk with ⟨z,_⟩ | ⟨_,c2,e2,z⟩
  ·have z':X.env.scope.names.lookup y=some .local:=z
   rw[hvis] at z'
   cases z'
  ·rw[hc] at e2
   cases e2
   exact z
 have hcell':h₁.IsCell c (some uy):=by
  obtain⟨o,e,d⟩:=hcell
  exact⟨o,hk₁ _ _ e,d⟩
 have e0:=I.env0
 have noA:∀ b:Addr,b ∉ (VL X [p,y] s H qual scope f cv [(y,c)]).ex:=fun b z=>absurd (show b ∈ ([]:List Addr) from z) (by simp)
 have lkc:∀ z d,bq z [(y,c)]=some d->z=y/\d=c:=fun z d h=>by
  rw[aW] at h
  by_cases hz:(z == y)=true
  ·rw[hz] at h
   cases h
   exact⟨by simpa using hz,rfl⟩
  ·rw[show (z == y)=false by simpa using hz] at h
   cases h
 have lky:bq y [(y,c)]=some c:=by rw[aW];simp
 refine⟨⟨e0.mod,S.kind,rfl,rfl,au _,fun z z' d h1 h2=>?_,fun z hz=>?_,fun z d h _=>?_,fun _=>hd,Around.frames_deeper e0.frames,.inr ⟨rfl,rfl⟩,fun b z=>absurd z (noA b),e0.bs,e0.bsz,fun b _ _=>noA b,fun b z=>absurd z (noA b),e0.funs,e0.frf⟩,
  rfl,e0.bare,Un.kept hk₁,⟨_,hns,fun i z v h1 h2 h3=>?_⟩,fun z d h=>?_,e0.hok.fresh (au _),fun z d h=>?_,fun q hq=>absurd (show q ∈ ([]:List (Addr × Obj)) from hq) (by simp),e0.hok.kept hk₁,rfl⟩
 ·rw[(lkc _ _ h1).1,(lkc _ _ h2).1]
 ·have hz':scope.names.lookup z=some .cell\/scope.names.lookup z=some .free:=hz
  rcases hz' with hz' | hz'
  ·exact absurd rfl (S.nocell _ (bR hz'))
  ·rw[show z=y from S.one _ (bR hz') rfl]
   exact⟨c,lky⟩
 ·exact absurd (show (false:Bool)=true from h) (by decide)
 ·match i,h1,h2 with
  | 0,h1,h2 =>
   cases h1
   cases h2
   refine⟨u,rx,.inl ⟨S.par,?_⟩⟩
   show bq p [(p,u)].reverse=some u
   simp [bq]
  | 1,h1,h2 =>
   cases h1
   cases h2
   exact⟨uy,ry,.inr ⟨.inr S.fre,c,lky,hcell'⟩⟩
  | i+2,h1,h2=>simp at h2
 ·obtain⟨_,rfl⟩:=lkc z d h
  exact⟨_,hcell'⟩
 ·obtain⟨_,rfl⟩:=lkc z d h
  exact I.freeC y _ hc
theorem QF(S:JK p y scope)(hr:Room (k+3) X.A)(hbind:bindArgs (bX name qual params body scope [(y,c)] pm cv ctv) ⟨[u],[]⟩=pure [(p,u)])(I:Inv X pins σ H s)
  (ho:s.heap.get? f=some { cls:=.type "function",data:=.func (bX name qual params body scope [(y,c)] pm cv ctv) }) (hcd:s.heap.CodeRec cv qual) (hy:X.N[iy]? = some y) (hσ:σ[iy]? = some (some vy)) (hvis:X.env.scope.names.lookup y=some .cell) (hc:X.env.cells.lookup y=some c)
  (rx:RelV x u) (hb:PE (VL X [p,y] s H qual scope f cv [(y,c)]) body t) (h:t [some x,some vy] H Q) :
  wpAny (model X.prog X.w) X.A.in1.in1 (call (.ref f) [u]) (EP X pins σ Q) (fun _ _=>False) s:=by
 have hr2:Room (k+1) X.A.in1.in1:=hr.in1.in1
 refine wpAny_call (PySem.W.kla_callFunE hr2.depth ho rfl S.co S.gen rfl hcd ?_)
 rw[hbind]
 refine oJ (wpAny_newFunctionEnv S.nocell (fun z hz=>?_) (fun h₁ hns hsb=>?_) S.kind)
 ·have e:z=(p,u):=by simpa using hz
  subst e
  exact S.par
 have hk₁:∀ b o,s.heap.get? b=some o->h₁.get? b=some o:=fun b o e=>hsb.extBut b o (aE (ay e)) (aa _ e)
 refine⟨I.nolimit.keeps hk₁,?_⟩
 have I1:=Kz (qual:=qual) (f:=f) (cv:=cv) (tk:=s.toks+1) S hr2.hd I hy hσ hvis hc rx hns hk₁
 show codeAny _ _ (.expr body (ee qual scope s.heap.objs.size f cv [(y,c)])) _ _
 refine PySem.W.kla_codeExpr (wpAny_mono (hb [] _ _ H Q I1 h) (fun v s' hv=>?_) fun _ _ z=>False.elim z)
 obtain⟨w',H',J,rw',q⟩:=hv
 exact I.after ⟨w',H',J.os,J.bare,J.base,J.hok,rw',q⟩
end
end L3
namespace L3
def cdE(c':Addr)(q:Str):HO:=.ext fun h=>h.CodeRec (.ref c') q
def fnE(f:Addr)(o:Obj):HO:=.ext fun h=>h.get? f=some o
def TabOk(H:Hp)(P:Addr)(pos:Pos)(q:Str):Prop :=
 ∃ ps:Array Value,H P=some (.tbl ps)/\TriplesOk ps.toList/\(codeAmong pos ps.toList=none\/∃ c',codeAmong pos ps.toList=some (.ref c')/\H c'=some (cdE c' q))
def SamT(P:Addr)(H H':Hp):Prop:=∀ b o,b≠P->H b=some o->H' b=some o
def LamAt(H:Hp)(f:Addr)(name qual:Str)(params:Arguments)(body:Expr)(scope:Scope)(cl:List (Str × Addr)):Prop :=
 ∃(c':Addr) (pm ctv:Value),H c'=some (cdE c' qual)/\H f=some (fnE f { cls:=.type "function",data:=.func (bX name qual params body scope cl pm (.ref c') ctv) })
theorem zas{P:Program}{w:World}{H:Hp}{h:Heap}{c':Addr}{q:Str}(x:h.CodeRec (.ref c') q):ObjOk P w H h c' (cdE c' q):=by
 refine⟨x,?_,fun h1 h2 a k=>?_⟩
 ·obtain⟨c,o,vs,t,e,g,_⟩:=x
  cases e
  exact⟨o,g⟩
 ·obtain⟨c,o,vs,t,e,g,r⟩:=a
  cases e
  exact⟨_,o,vs,t,rfl,k o g,r⟩
theorem Jp{P:Program}{w:World}{H:Hp}{h:Heap}{f:Addr}{o:Obj}(x:h.get? f=some o):ObjOk P w H h f (fnE f o) :=
 ⟨x,⟨o,x⟩,fun h1 h2 a k=>k o a⟩
section
variable{X:Cx}{pins:List (Addr × Obj)}{σ:L2.St}{H:Hp}{s:Shared}
theorem Inv.grow{P c' f:Addr}{ps more:Array Value}{o:Obj}{q:Str}{h':Heap}{tk:Nat}(I:Inv X pins σ H s)(hP:H P=some (.tbl ps))(hk:∀ b u,b≠P->s.heap.get? b=some u->h'.get? b=some u)(hP':h'.get? P=some { cls:=.none,data:=.fields (ps ++ more) })
  (hc:s.heap.objs.size<=c') (hf:s.heap.objs.size<=f) (hcf:c'≠f) (hcr:h'.CodeRec (.ref c') q) (hfo:h'.get? f=some o) :
  Inv X pins σ (upd (upd (upd H P (.tbl (ps ++ more))) c' (cdE c' q)) f (fnE f o)) { s with heap:=h',toks:=tk }:=by
 have Pl:P<s.heap.objs.size:=I.hok.lt hP
 have hPc:P≠c':=aE (aD Pl hc)
 have hPf:P≠f:=aE (aD Pl hf)
 have old:∀ b,b<s.heap.objs.size->b≠P->(upd (upd (upd H P (.tbl (ps ++ more))) c' (cdE c' q)) f (fnE f o)) b=H b:=fun b hb hbP=>by
  rw[zo (aE (aD hb hf)),zo (aE (aD hb hc)),zo hbP]
 have atP:(upd (upd (upd H P (.tbl (ps ++ more))) c' (cdE c' q)) f (fnE f o)) P=some (.tbl (ps ++ more)):=by
  rw[zo hPf,zo hPc,zf]
 have neP:∀ b,H b=none->b≠P:=fun b e z=>by rw[z,hP] at e;cases e
 refine I.un ⟨fun b u e n _ _=>hk b u (neP b n) e,fun b u e n _ _=>⟨u.slots,hk b u (neP b n) e⟩,fun b u e n _=>?_,fun b u e _=>?_,fun b xs e=>?_,fun b ob u e=>?_,fun b qs e=>?_⟩ fun b u e=>?_
 ·rw[old b (ay e) (neP b n)]
  exact n
 ·by_cases hb:b=P
  ·subst hb;exact⟨_,hP'⟩
  ·exact⟨u,hk b u hb e⟩
 ·rw[old b (I.hok.lt e) (fun z=>by rw[z,hP] at e;cases e)]
  exact e
 ·rw[old b (I.hok.lt e) (fun z=>by rw[z,hP] at e;cases e)]
  exact e
 ·by_cases hb:b=P
  ·subst hb
   rw[hP] at e
   cases e
   exact⟨more,atP⟩
  ·rw[old b (I.hok.lt e) hb]
   exact⟨#[],by rw[e];simp⟩
 ·by_cases hbf:b=f
  ·subst hbf
   rw[zf] at e
   cases e
   exact Jp hfo
  ·rw[zo hbf] at e
   by_cases hbc:b=c'
   ·subst hbc
    rw[zf] at e
    cases e
    exact zas hcr
   ·rw[zo hbc] at e
    by_cases hbP:b=P
    ·subst hbP
     rw[zf] at e
     cases e
     exact hP'
    ·rw[zo hbP] at e
     refine (I.hok b u e).stay (fun d v hd g=>hk d v ?_ g) (fun d g=>?_) fun d xs g=>?_
     ·rcases hd with z | z
      ·rw[z];exact hbP
      ·intro z';rw[z',hP] at z;cases z
     ·rw[old d (I.hok.lt g) (fun z=>by rw[z,hP] at g;cases g)]
      exact g
     ·rw[old d (I.hok.lt g) (fun z=>by rw[z,hP] at g;cases g)]
      exact g
end
end L3
namespace L3
theorem uH{a b:Int}{v:Value}:∀(l:List Value),TriplesOk l->TriplesOk (l ++ [rawInt a,rawInt b,v])
 | [],_=>trivial
 | .int _ _::.int _ _::_::rest,h=>uH rest h
theorem Zu{h h':Heap}{mg:Str->Option Value}{T:Addr}(x:h.BuiltinsAt mg T)(k:∀ b o,h.get? b=some o->h'.get? b=some o):h'.BuiltinsAt mg T:=by
 obtain⟨bm,o,b1,b2,b3,b4,b5,b6⟩:=x
 exact⟨bm,o,b1,b2,b3,b4,k _ _ b5,b6⟩
section
variable{X:Cx}{pins:List (Addr × Obj)}{σ:L2.St}{H:Hp}{s:Shared}{cc P c:Addr}{y:Str}{params:Arguments}{body:Expr}{scope:Scope}{pos:Pos}{Q:VK}
theorem QJ(hcode:X.env.code=.ref cc)(hC:PySem.W.CodeHd X.base cc P)(hB:X.base.BuiltinsAt X.mg P)(hgP:oK≠P)(hcl:closureFor scope X.env=pure [(y,c)])(hdef:defaultsOf params X.env=([],[]))(I:Inv X pins σ H s)
  (hT:TabOk H P pos (X.env.qual ++ "<lambda>"))
  (h:∀ f H',H f=none->LamAt H' f "<lambda>" (X.env.qual ++ "<lambda>") params body scope [(y,c)]->TabOk H' P pos (X.env.qual ++ "<lambda>")->SamT P H H'->Q (.ref f) H') :
  wpAny (model X.prog X.w) X.A (eval (.Lambda params body scope pos) X.env) (EP X pins σ Q) X.xe s:=by
 refine PySem.W.kla_eval hdef ?_
 obtain⟨ps,hP,ht,hh⟩:=hT
 have hPo:s.heap.get? P=some (PySem.W.tabObj ps):=I.hok _ _ hP
 have hg:=I.mod.glob.keeps I.bk
 have Pl:P<s.heap.objs.size:=I.hok.lt hP
 rcases hh with hn | ⟨c',hit,hc'⟩
 ·refine PySem.W.kla_makeFunction (mg:=X.mg) hcl I.ok.glob hg hcode (hC.keeps I.bk) hPo ht hn hgP (Zu hB I.bk) fun c' ctv h' tk hx hge hlt hrec htb=>?_
  have hsz:s.heap.objs.size<=h'.objs.size:=de (cp hge hlt)
  have I1:=Inv.grow (P:=P) (c':=c') (f:=h'.objs.size) (more:=#[rawInt pos.line,rawInt pos.col,.ref c']) (tk:=tk) (o:={ cls:=.type "function",data:=.func (bX "<lambda>" (X.env.qual ++ "<lambda>") params body scope [(y,c)] ((X.mg "__name__").getD .none) (.ref c') ctv) }) I hP
   (fun b u hb e=>aa _ (hx b u hb e)) (aa _ htb) hge hsz (aE hlt) (hrec.push _) (aI _ rfl)
  have hPc:P≠c':=aE (aD Pl hge)
  have hPf:P≠h'.objs.size:=aE (aD Pl hsz)
  have atc:(upd (upd (upd H P (.tbl (ps ++ #[rawInt pos.line,rawInt pos.col,.ref c']))) c' (cdE c' (X.env.qual ++ "<lambda>"))) h'.objs.size (fnE h'.objs.size { cls:=.type "function",data:=.func (bX "<lambda>" (X.env.qual ++ "<lambda>") params body scope [(y,c)] ((X.mg "__name__").getD .none) (.ref c') ctv) })) c'=some (cdE c' (X.env.qual ++ "<lambda>")):=by
   rw[zo (aE hlt),zf]
  refine⟨.ref h'.objs.size,_,I1,rfl,h _ _ (I.hok.fresh hsz) ⟨c',_,ctv,atc,zf⟩ ⟨ps ++ #[rawInt pos.line,rawInt pos.col,.ref c'],?_,?_,.inr ⟨c',?_,atc⟩⟩ fun b o hb e=>?_⟩
  ·rw[zo hPf,zo hPc,zf]
  ·rw[eY]
   exact uH _ ht
  ·rw[eY]
   exact codeAmong_snoc _ ht hn
  ·have hl:=I.hok.lt e
   rw[zo (aE (aD hl hsz)),zo (aE (aD hl hge)),zo hb]
   exact e
 ·refine PySem.W.kla_makeFunctionHit (mg:=X.mg) hcl I.ok.glob hg hcode (hC.keeps I.bk) hPo ht hit (Zu hB I.bk) fun ctv h' tk hk hsz=>?_
  have hfr:H h'.objs.size=none:=I.hok.fresh hsz
  have I1:=I.laid (a:=h'.objs.size) (t':=tk) (h':=h'.push { cls:=.type "function",data:=.func (bX "<lambda>" (X.env.qual ++ "<lambda>") params body scope [(y,c)] ((X.mg "__name__").getD .none) (.ref c') ctv) })
   (o:=fnE h'.objs.size { cls:=.type "function",data:=.func (bX "<lambda>" (X.env.qual ++ "<lambda>") params body scope [(y,c)] ((X.mg "__name__").getD .none) (.ref c') ctv) })
   (fun b u e=>aa _ (hk b u e)) hsz (Jp (aI _ rfl))
  have sm:=zd (o:=fnE h'.objs.size { cls:=.type "function",data:=.func (bX "<lambda>" (X.env.qual ++ "<lambda>") params body scope [(y,c)] ((X.mg "__name__").getD .none) (.ref c') ctv) }) hfr
  exact⟨.ref h'.objs.size,_,I1,rfl,h _ _ hfr ⟨c',_,ctv,sm _ _ hc',zf⟩ ⟨ps,sm _ _ hP,ht,.inr ⟨c',hit,sm _ _ hc'⟩⟩ fun b o _ e=>sm _ _ e⟩
end
end L3
namespace L3
def zb6(R:V->Hp->Prop):List V->Hp->Prop
 | [v],H=>R v H
 | _,_=>False
theorem V1{R:V->Hp->Prop}:∀{vs:List V} {H:Hp},zb6 R vs H->∃ v,vs=[v]/\R v H
 | [v],_,h=>⟨v,rfl,h⟩
def zcX(P:Addr)(pos:Pos)(q:Str)(LA:Hp->Addr->Prop):TE:=fun σ H Q=>TabOk H P pos q/\∀ f H',H f=none->LA H' f->TabOk H' P pos q->SamT P H H'->Q (.ref f) H'
def Jy{α:Type}(K:oO)(F:KeyFam α)(P:Addr)(pos:Pos)(q:Str)(LA:Hp->Addr->Prop)(iy:Nat)(te tb:TE):TE:=fun σ H Q=>te σ H fun v H1=>TabOk H1 P pos q /\
 ∀ f H2,H1 f=none->LA H2 f->TabOk H2 P pos q->SamT P H1 H2->∃ l xs vy,v=.ref l/\SqL K H2 l xs/\xs.length<64/\σ[iy]? = some (some vy)/\uI (fun x H Q=>LA H f/\tb [some x,some vy] H Q) xs [] H2 (Wd K F xs Q)
section
variable{X:Cx}{cc P c:Addr}{x p y:Str}{params:Arguments}{body e:Expr}{scope:Scope}{lpos kpos pos pp:Pos}{k iy:Nat}{te tb:TE}
theorem zbe(hcode:X.env.code=.ref cc)(hC:PySem.W.CodeHd X.base cc P)(hB:X.base.BuiltinsAt X.mg P)(hgP:oK≠P)(hcl:closureFor scope X.env=pure [(y,c)])(hdef:defaultsOf params X.env=([],[])) :
  PE X (.Lambda params body scope lpos) (zcX P lpos (X.env.qual ++ "<lambda>") fun H f=>LamAt H f "<lambda>" (X.env.qual ++ "<lambda>") params body scope [(y,c)]):=by
 intro pins s σ H Q I h
 exact QJ hcode hC hB hgP hcl hdef I h.1 h.2
theorem QR{α:Type}{F:KeyFam α}(FO:F.Ok)(S:JK p y scope)(hr:Room (k+3) X.A)(hg:Gl X x)(hm:X.mg x=none)(hv:bootBuiltins x=some (.builtin "sorted"))(ha:PA X [e] (zP te vf))
  (hcode:X.env.code=.ref cc) (hC:PySem.W.CodeHd X.base cc P) (hB:X.base.BuiltinsAt X.mg P) (hgP:oK≠P) (hcl:closureFor scope X.env=pure [(y,c)]) (hdef:defaultsOf params X.env=([],[]))
  (hbind:∀(cv pm ctv u:Value),bindArgs (bX "<lambda>" (X.env.qual ++ "<lambda>") params body scope [(y,c)] pm cv ctv) ⟨[u],[]⟩=pure [(p,u)]) (hy:X.N[iy]? = some y) (hvis:X.env.scope.names.lookup y=some .cell) (hc:X.env.cells.lookup y=some c)
  (hb:∀(s:Shared) (H:Hp) (f:Addr) (cv:Value),Room k (VL X [p,y] s H (X.env.qual ++ "<lambda>") scope f cv [(y,c)]).A->PE (VL X [p,y] s H (X.env.qual ++ "<lambda>") scope f cv [(y,c)]) body tb)
  (hn:x≠"__name__":=by decide) (hdb:(x == ("__debug__" : Str))=false:=by decide)
  (hks:(backToKw pos (keywordEach [⟨some "key",.Lambda params body scope lpos,kpos⟩] X.env)).filterMap (·.1)=[bG "key"]:=by rfl)
  (hst:backTo pos (oM [e] X.env)=(false,eval e X.env)::backTo pos (oM [] X.env):=by rfl) (hpl:(backTo pos (oM [e] X.env)).any (·.1)=false:=by rfl)
  (hall:(backToKw pos (keywordEach [⟨some "key",.Lambda params body scope lpos,kpos⟩] X.env)).all (·.1.isSome)=true:=by rfl) (hkw:(backToKw pos (keywordEach [⟨some "key",.Lambda params body scope lpos,kpos⟩] X.env)).any (·.1.isNone)=false:=by rfl) :
  PE X (.Call (.Name x pp) [e] [⟨some "key",.Lambda params body scope lpos,kpos⟩] pos) (Jy X.K F P lpos (X.env.qual ++ "<lambda>") (fun H f=>LamAt H f "<lambda>" (X.env.qual ++ "<lambda>") params body scope [(y,c)]) iy te tb):=by
 intro pins s σ H Q I h
 have hlam:PE X (.Lambda params body scope lpos) (zcX P lpos (X.env.qual ++ "<lambda>") fun H f=>LamAt H f "<lambda>" (X.env.qual ++ "<lambda>") params body scope [(y,c)]):=zbe hcode hC hB hgP hcl hdef
 refine wpAny_Call_Name_kw (vn I hg hm hv ?_ hn hdb)
 have h':(zP te vf) σ H (zb6 fun v H1=>TabOk H1 P lpos (X.env.qual ++ "<lambda>")/\∀ f H2,H1 f=none->LamAt H2 f "<lambda>" (X.env.qual ++ "<lambda>") params body scope [(y,c)]->TabOk H2 P lpos (X.env.qual ++ "<lambda>")->SamT P H1 H2 ->
   ∃ l xs vy,v=.ref l/\SqL X.K H2 l xs/\xs.length<64/\σ[iy]? = some (some vy)/\uI (fun x H Q=>LamAt H f "<lambda>" (X.env.qual ++ "<lambda>") params body scope [(y,c)]/\tb [some x,some vy] H Q) xs [] H2 (Wd X.K F xs Q)):=h
 refine callWith_kw (thn (ha pos pins s σ H _ I h') fun us s1 ⟨vs,H1,I1,r1,q1⟩=>?_) hst hpl hall hkw
 obtain⟨v,rfl,hT,q1⟩:=V1 q1
 obtain⟨u,rfl,ru⟩:=wI r1
 refine thn ((Vd hlam JB:PK X [⟨some "key",.Lambda params body scope lpos,kpos⟩] _) pos pins s1 σ H1 (zb6 fun kv H2=>∃ f,kv=.ref f/\LamAt H2 f "<lambda>" (X.env.qual ++ "<lambda>") params body scope [(y,c)] /\
   ∃ l xs vy,v=.ref l/\SqL X.K H2 l xs/\xs.length<64/\σ[iy]? = some (some vy)/\uI (fun x H Q=>LamAt H f "<lambda>" (X.env.qual ++ "<lambda>") params body scope [(y,c)]/\tb [some x,some vy] H Q) xs [] H2 (Wd X.K F xs Q)) I1 ⟨hT,fun f H2 a1 a2 a3 a4=>⟨f,rfl,a2,q1 f H2 a1 a2 a3 a4⟩⟩) fun ws s2 ⟨zs,H2,I2,r2,q2⟩=>?_
 obtain⟨kv,rfl,f,rfl,hLA,l,xs,vy,rfl,hS,hz,hσ,hk⟩:=V1 q2
 obtain⟨w',rfl,rw'⟩:=wI r2
 cases rw'
 cases ru
 rw[hks]
 show wpAny _ _ (call (.builtin "sorted") [.ref l] [(bG "key",.ref f)]) _ _ _
 refine Vu FO (k:=k+1) hr (fun pins' s3 H3 x3 u3 Q3 I3 r3 h3=>?_) I2 hS hz hk
 obtain⟨⟨c',pm,ctv,e1,e2⟩,h4⟩:=h3
 have hcd:s3.heap.CodeRec (.ref c') (X.env.qual ++ "<lambda>"):=(I3.hok _ _ e1).1
 have ho:=(I3.hok _ _ e2).1
 exact QF (k:=k) S hr (hbind _ _ _ _) I3 ho hcd hy hσ hvis hc r3 (hb s3 H3 f (.ref c') (hr.in1.in1.deeper _)) h4
end
end L3
namespace L3
section
variable{K:oO}
theorem SamT.of{T:Addr}{H H':Hp}(s:Same H H'):SamT T H H':=fun b o _ e=>s b o e
theorem SamT.trans{T:Addr}{H H' H'':Hp}(s:SamT T H H')(s':SamT T H' H''):SamT T H H'':=fun b o n e=>s' b o n (s b o n e)
theorem SamT.at{T b:Addr}{H H':Hp}{ps:Array Value}{o:HO}(s:SamT T H H')(hT:H T=some (.tbl ps))(e:H b=some o)(ho:∀ qs,o≠.tbl qs):H' b=some o:=s b o (fun z=>by rw[z,hT] at e;cases e;exact ho _ rfl) e
theorem SamT.free{T b:Addr}{H H':Hp}{o:HO}(s:SamT T H H')(hT:H' T=some o)(h:H' b=none):H b=none:=by
 cases e:H b with
 | none=>rfl
 | some u =>
  by_cases hb:b=T
  ·rw[hb,hT] at h;cases h
  ·rw[s b u hb e] at h;cases h
theorem SamT.seqL{T a:Addr}{H H':Hp}{ps:Array Value}{xs:List V}(s:SamT T H H')(hT:H T=some (.tbl ps))(h:SqL K H a xs):SqL K H' a xs:=by
 rcases h with (h | ⟨o,h⟩) | h
 ·exact .inl (.inl (s.at hT h fun _ z=>by cases z))
 ·exact .inl (.inr ⟨o,s.at hT h fun _ z=>by cases z⟩)
 ·exact .inr h
theorem SamT.seqT{T a:Addr}{H H':Hp}{ps:Array Value}{xs:List V}(s:SamT T H H')(hT:H T=some (.tbl ps))(h:SqT K H a xs):SqT K H' a xs:=by
 rcases h with (h | ⟨o,h⟩) | h
 ·exact .inl (.inl (s.at hT h fun _ z=>by cases z))
 ·exact .inl (.inr ⟨o,s.at hT h fun _ z=>by cases z⟩)
 ·exact .inr h
mutual
theorem Is.samT{T:Addr}{H H':Hp}{ps:Array Value}(s:SamT T H H')(hT:H T=some (.tbl ps)):∀(d:D) (v:V),Is K H d v->Is K H' d v
 | .non,v,h=>by simp only[Is] at h ⊢;exact h
 | .bl b,v,h=>by simp only[Is] at h ⊢;exact h
 | .int b,v,h=>by simp only[Is] at h ⊢;exact h
 | .str b,v,h=>by simp only[Is] at h ⊢;exact h
 | .lst l,v,h=>by
  simp only[Is] at h ⊢
  obtain⟨a,xs,e1,e2,e3⟩:=h
  exact⟨a,xs,e1,s.seqL hT e2,Iss.samT s hT l xs e3⟩
 | .tup l,v,h=>by
  simp only[Is] at h ⊢
  obtain⟨a,xs,e1,e2,e3⟩:=h
  exact⟨a,xs,e1,s.seqT hT e2,Iss.samT s hT l xs e3⟩
theorem Iss.samT{T:Addr}{H H':Hp}{ps:Array Value}(s:SamT T H H')(hT:H T=some (.tbl ps)):∀(l:List D) (vs:List V),Iss K H l vs->Iss K H' l vs
 | [],vs,h=>by simp only[Iss] at h ⊢;exact h
 | d::l,vs,h=>by
  simp only[Iss] at h ⊢
  obtain⟨v,r,e1,e2,e3⟩:=h
  exact⟨v,r,e1,Is.samT s hT d v e2,Iss.samT s hT l r e3⟩
end
theorem LsA.samT{T a:Addr}{H H':Hp}{ps:Array Value}{ds:List D}(h:LsA K H a ds)(s:SamT T H H')(hT:H T=some (.tbl ps)):LsA K H' a ds:=by
 obtain⟨xs,h1,h2⟩:=h
 exact⟨xs,s.at hT h1 (fun _ z=>by cases z),Iss.samT s hT _ _ h2⟩
theorem TabOk.same{H H':Hp}{T:Addr}{pos:Pos}{q:Str}(h:TabOk H T pos q)(s:Same H H'):TabOk H' T pos q:=by
 obtain⟨ps,h1,h2,h3⟩:=h
 refine⟨ps,s _ _ h1,h2,?_⟩
 rcases h3 with h3 | ⟨c',h4,h5⟩
 ·exact .inl h3
 ·exact .inr ⟨c',h4,s _ _ h5⟩
theorem LamAt.same{H H':Hp}{f:Addr}{name qual:Str}{params:Arguments}{body:Expr}{scope:Scope}{cl:List (Str × Addr)}(h:LamAt H f name qual params body scope cl)(s:Same H H'):LamAt H' f name qual params body scope cl:=by
 obtain⟨c',pm,ctv,h1,h2⟩:=h
 exact⟨c',pm,ctv,s _ _ h1,s _ _ h2⟩
end
end L3
namespace L3
section
variable{P:Program}{w:World}{K:oO}{mg mb:Str->Option Value}{CX:CXT}{k:Nat}{fa a T cc:Addr}{fd:FuncData}{x:Str}{sp:Sp}{s₁:Shared}{vs:List Value}{ns:List Int}{ps:Array Value}
theorem Zj(KX:K.In s₁.heap)(hKT:K.lookup T=none)(hT:s₁.heap.get? T=some { cls:=.none,data:=.fields ps })(hTc:isCodeTable s₁.heap T)(hns:s₁.heap.Ns oK mg)(hb:s₁.heap.Ns builtinsNs mb)(hbb:∀ x:Str,x≠"__name__"->mb x=bootBuiltins x)(hlim:s₁.heap.NoLimit)(hg:s₁.gens=#[])
  (ha:s₁.heap.get? a=some { cls:=.type "list",data:=.seq vs.toArray }) (hr:Room k callerA)
  (hbm:s₁.heap.BuiltinsAt mg T) (hcd:PySem.W.CodeHd s₁.heap cc T) (F:∀ base:Heap,K.In base->base.Ns oK mg->base.BuiltinsAt mg T->PySem.W.CodeHd base cc T->FnOk P w K mg base CX k fa fd [x] sp) (hbind:∀(s:Shared) (u:Value),BindsTo s fd ⟨[u],[]⟩ [(x,u)])
  (hCX:∀ H e s',CX [] H s₁ (fun _ _ _=>False) e s'->False) (H:Hp) (h1:H T=some (.tbl ps)) (h2:∀ b u,H b=some u->b=T\/(b=a/\K.lookup a=none/\u=.frz { cls:=.type "list",data:=.seq vs.toArray } (.lst (ns.map V.int))))
  (hok:HOk P w H s₁.heap) (hsp:sp [.ref a] H (fun v _=>v=.bl true) fun _ _ _=>False) :
  codeAny (model P w) callerA (.call (.ref fa) ⟨[.ref a],[]⟩) (fun r s'=>r=.ok (.ret (.bool true))/\OldK s₁.heap s'.heap/\s'.os=s₁.os/\AllBare s'.gens) s₁:=by
 have stay:∀ b o,s₁.heap.get? b=some o->(b≠T)->(b≠a)->(W1 s₁.heap H).get? b=some o:=fun b o e n1 n2=>Xc e (by
  cases q:H b with
  | none=>rfl
  | some u =>
   rcases h2 b u q with z | z
   ·exact absurd z n1
   ·exact absurd z.1 n2)
 have nsStay:∀(b:Addr) (m:Str->Option Value),s₁.heap.Ns b m->(W1 s₁.heap H).Ns b m:=fun b m hN=>by
  obtain⟨o,es,ep,e,d,rest⟩:=hN
  refine⟨o,es,ep,stay b o e (fun z=>?_) (fun z=>?_),d,rest⟩
  ·rw[z,hT] at e
   cases e
   cases d
  ·rw[z,ha] at e
   cases e
   cases d
 have kStay:K.In (W1 s₁.heap H):=fun b o e=>by
  have g:=KX b o e
  refine Xc g ?_
  cases q:H b with
  | none=>rfl
  | some u =>
   rcases h2 b u q with z | z
   ·rw[z,hKT] at e
    cases e
   ·rw[z.1,z.2.1] at e
    cases e
 have bStay:(W1 s₁.heap H).BuiltinsAt mg T:=by
  obtain⟨bm,o,b1,b2,b3,b4,b5,b6,b7,b8⟩:=hbm
  refine⟨bm,o,b1,b2,b3,b4,stay bm o b5 b4 (fun z=>?_),b6,b7,b8⟩
  rw[z,ha] at b5
  cases b5
  simp at b6
 have cStay:PySem.W.CodeHd (W1 s₁.heap H) cc T:=by
  obtain⟨o,vs',file,tf,flags,tg,inF,text,tt,c1,c2,c3,c4,c5,c6,c7,c8,c9,c10⟩:=hcd
  refine⟨o,vs',file,tf,flags,tg,inF,text,tt,stay cc o c1 c10 (fun z=>?_),c2,c3,c4,c5,c6,c7,c8,c9,c10⟩
  rw[z,ha] at c1
  cases c1
  simp at c2
 obtain⟨mc,l1,l2⟩:=hlim
 have M0:Mod K mg (W1 s₁.heap H):={ kin:=kStay,glob:=nsStay _ _ hns,blt:=⟨mb,nsStay _ _ hb,hbb⟩,nolimit:=⟨mc,nsStay _ _ l1,l2⟩ }
 have E0:Env0 P w K mg (W1 s₁.heap H) callerA [] s₁ H:={ frames:=rfl,mod:=M0,bs:=fun b o e=>KQ e,bsz:=Nat.le_of_eq (Vy _ _),funs:=trivial,frf:=fun b z=>(nomatch (show b ∈ ([]:List Addr) from z)),hok:=hok,bare:=.of_eq hg }
 refine codeAny_mono ((F _ kStay (nsStay _ _ hns) bStay cStay).run callerA [] s₁ H ⟨[.ref a],[]⟩ [.ref a] [.ref a] (fun v _=>v=.bl true) (fun _ _ _=>False) hr E0 (hbind s₁ (.ref a)) (.cons rfl .nil) hsp) fun r s' hq=>?_
 rcases r with e | fl
 ·exact (hCX H e s' hq).elim
 rcases fl with _ | _ | _ | u
 all_goals first | exact False.elim hq | skip
 obtain⟨v,H',e1,e2,un,hok',rv,ev⟩:=hq
 have ev':v=V.bl true:=ev
 subst ev'
 have eu:u=Value.bool true:=rv
 subst eu
 obtain⟨more,hT2⟩:=un.tbls T ps h1
 have hT3:s'.heap.get? T=some { cls:=.none,data:=.fields (ps ++ more) }:=hok' T _ hT2
 have each:∀ b o,s₁.heap.get? b=some o->b≠T->s'.heap.get? b=some o:=fun b o e n=>by
  cases q:H b with
  | none=>exact un.keep b o e q (fun z=>(nomatch (show b ∈ ([]:List Addr) from z))) (fun z=>(nomatch z))
  | some ob =>
   rcases h2 b ob q with z | ⟨z,_,zz⟩
   ·exact absurd z n
   ·subst zz
    have g:=(hok' b _ (un.frzs b _ _ q)).1
    rw[z,ha] at e
    cases e
    exact g
 refine⟨rfl,⟨fun b o e=>?_,fun b o e=>?_⟩,e1,e2⟩
 ·by_cases hbT:b=T
  ·subst hbT
   rw[hT] at e
   cases e
   exact .inr (.inl ⟨hTc,rfl,ps,more,rfl,hT3⟩)
  ·exact .inl (each b o e hbT)
 ·by_cases hbT:b=T
  ·subst hbT
   exact⟨_,hT3⟩
  ·exact⟨o,each b o e hbT⟩
theorem W9(KX:K.In s₁.heap)(hKT:K.lookup T=none)(hT:s₁.heap.get? T=some { cls:=.none,data:=.fields ps })(hTc:isCodeTable s₁.heap T)(hns:s₁.heap.Ns oK mg)(hb:s₁.heap.Ns builtinsNs mb)(hbb:∀ x:Str,x≠"__name__"->mb x=bootBuiltins x)(hlim:s₁.heap.NoLimit)(hg:s₁.gens=#[])
  (ha:s₁.heap.get? a=some { cls:=.type "list",data:=.seq vs.toArray }) (hi:IntsAre vs ns) (hl:ns.length<=oN) (hr:Room k callerA)
  (hbm:s₁.heap.BuiltinsAt mg T) (hcd:PySem.W.CodeHd s₁.heap cc T) (F:∀ base:Heap,K.In base->base.Ns oK mg->base.BuiltinsAt mg T->PySem.W.CodeHd base cc T->FnOk P w K mg base CX k fa fd [x] sp) (hbind:∀(s:Shared) (u:Value),BindsTo s fd ⟨[u],[]⟩ [(x,u)])
  (hCX:∀ H e s',CX [] H s₁ (fun _ _ _=>False) e s'->False) (hsp:∀ H:Hp,H T=some (.tbl ps)->SqL K H a (ns.map V.int)->sp [.ref a] H (fun v _=>v=.bl true) fun _ _ _=>False) :
  codeAny (model P w) callerA (.call (.ref fa) ⟨[.ref a],[]⟩) (fun r s'=>r=.ok (.ret (.bool true))/\OldK s₁.heap s'.heap/\s'.os=s₁.os/\AllBare s'.gens) s₁:=by
 have rv:=Zg hi
 have hlv:=hi.length
 have hTa:a≠T:=fun z=>by
  rw[z,hT] at ha
  cases ha
 rcases hk:K.lookup a with _ | o
 ·refine Zj (ns:=ns) KX hKT hT hTc hns hb hbb hlim hg ha hr hbm hcd F hbind hCX (upd (upd (fun _=>none) T (.tbl ps)) a (.frz { cls:=.type "list",data:=.seq vs.toArray } (.lst (ns.map V.int)))) ?_ (fun b u e=>?_) (fun b u e=>?_) ?_
  ·rw[zo (Ne.symm hTa),zf]
  ·by_cases hba:b=a
   ·subst hba
    rw[zf] at e
    cases e
    exact .inr ⟨rfl,hk,rfl⟩
   ·rw[zo hba] at e
    by_cases hbT:b=T
    ·exact .inl hbT
    ·rw[zo hbT] at e
     cases e
  ·by_cases hba:b=a
   ·subst hba
    rw[zf] at e
    cases e
    exact⟨ha,by rw[ae];exact hl,vs,_,rv,ha⟩
   ·rw[zo hba] at e
    by_cases hbT:b=T
    ·subst hbT
     rw[zf] at e
     cases e
     exact hT
    ·rw[zo hbT] at e
     cases e
  ·exact hsp _ (by rw[zo (Ne.symm hTa),zf]) (.inl (.inr ⟨_,zf⟩))
 ·have e:=KX a o hk
  rw[ha] at e
  cases e
  refine Zj (ns:=ns) KX hKT hT hTc hns hb hbb hlim hg ha hr hbm hcd F hbind hCX (upd (fun _=>none) T (.tbl ps)) zf (fun b u e=>?_) (fun b u e=>?_) (hsp _ zf (.inr ⟨_,vs.toArray,_,hk,rfl,rfl,rfl,by rw[ao,hlv];exact hl,by simpa using rv⟩))
  ·by_cases hbT:b=T
   ·exact .inl hbT
   ·rw[zo hbT] at e
    cases e
  ·by_cases hbT:b=T
   ·subst hbT
    rw[zf] at e
    cases e
    exact hT
   ·rw[zo hbT] at e
    cases e
end
def K4(K:oO):Bool:=K.all fun p=>match p.2 with
 | ⟨.none,_,.fields _,_⟩=>false
 | _=>true
theorem Xg{T:Addr}{o:Obj}:∀{K:oO},K.lookup T=some o->(T,o) ∈ K
 | [],h=>by cases h
 | p::K,h=>by
  rw[aW] at h
  by_cases hp:T=p.1
  ·rw[show (T == p.1)=true by simpa using hp] at h
   cases h
   rw[hp]
   exact az
  ·rw[show (T == p.1)=false by simpa using hp] at h
   exact aw _ (Xg h)
theorem Qv{K:oO}{T:Addr}{ps:Array Value}{h:Heap}(e:K4 K=true)(X:K.In h)(hT:h.get? T=some { cls:=.none,data:=.fields ps }):K.lookup T=none:=by
 cases q:K.lookup T with
 | none=>rfl
 | some o =>
  have g:=X _ _ q
  rw[hT] at g
  cases g
  have:=List.all_eq_true.mp e _ (Xg q)
  simp at this
theorem walk_ofT{l:PySem.W.OpenLaw}{n k:Nat}{q:Program}{loose:List Str}{XP:(Str->Option Value)->Heap->Prop}{YP:World->Heap->Prop}{d din:DefRec}{K:Params->oO}{CX:World->CXT}{sp:World->Addr->Sp}{x:Str}
  (hn:l.most=some n) (hn2:n<=oN) (hdf:d.params.defaults=[]) (hr:Room k callerA) (hdin:din ∈ recsOf q)
  (hY:∀(w:World) (h:Heap),YP w h->(K w.params).In h) (hno:∀ w:World,K4 (K w.params)=true)
  (F:∀(w:World) (mg:Str->Option Value) (fa:Addr) (h:Heap) (cc T:Addr),(K w.params).In h->h.Ns oK mg->mg d.name=some (.ref fa)->(∃ a o fd,mg din.name=some (.ref a)/\h.get? a=some o/\o.data=.func fd/\fd.code=.ref cc)->oK≠T ->
   ∃ fd:FuncData,(∀(s:Shared) (u:Value),BindsTo s fd ⟨[u],[]⟩ [(x,u)]) /\
    ∀ base:Heap,(K w.params).In base->base.Ns oK mg->base.BuiltinsAt mg T->PySem.W.CodeHd base cc T->FnOk l.prog w (K w.params) mg base (CX w) k fa fd [x] (sp w T))
  (hsp:∀(w:World) (H:Hp) (a:Addr) (ns:List Int) (T:Addr),ns.length<=n->(∀ z ∈ ns,uq z)->H T=some (.tbl #[])->SqL (K w.params) H a (ns.map V.int)->sp w T [.ref a] H (fun v _=>v=.bl true) fun _ _ _=>False)
  (hCX:∀(w:World) (H:Hp) (s:Shared) (e:Value) (s':Shared),CX w [] H s (fun _ _ _=>False) e s'->False) :
  PySem.W.WalkO q loose XP YP l.row.toRowW d [] (fun f vs=>fw f vs):=by
 refine ZD hn hdf fun w s₀ s₁ mg mb fa o pm cd doc a vs ns G Y ho hd hcd hmg hobj hints hlen hb' hg=>?_
 have X0:=hY w _ Y
 obtain⟨ai,oi,fdi,cc,T,m1,m2,m3,m4,m5,m6⟩:=G.T.tab din hdin
 have hcd':PySem.W.CodeHd s₁.heap cc T:=PySem.W.CodeHd.of m5 m6
 have hTo:s₁.heap.get? T=some { cls:=.none,data:=.fields #[] }:=m6.2
 have hTc:isCodeTable s₁.heap T:=m6.isCodeTable
 have hgT:oK≠T:=fun z=>by
  obtain⟨o,es,ep,e,hd',_⟩:=G.T.g
  rw[z,hTo] at e
  cases e
  cases hd'
 have hbm:s₁.heap.BuiltinsAt mg T:=by
  obtain⟨bm,ob,b1,b2,b3,b4,b5,b6⟩:=G.T.bmain
  refine⟨bm,ob,b1,b2,fun z=>?_,fun z=>?_,b3,b4,b5,b6⟩
  ·obtain⟨o,es,ep,e,hd',_⟩:=G.T.g
   rw[z,e] at b3
   cases b3
   rw[hd'] at b6
   cases b6
  ·rw[z,hTo] at b3
   cases b3
   cases b4
 obtain⟨fd,hbd,hF⟩:=F w mg fa _ cc T X0 G.T.g hmg ⟨ai,oi,fdi,m1,m2,m3,m4⟩ hgT
 exact W9 (T:=T) (ps:=#[]) X0 (Qv (hno w) X0 hTo) hTo hTc G.T.g G.T.b G.T.builtins G.T.nolimit hg hobj hints (aO hlen hn2) hr hbm hcd' hF hbd (fun H e s'=>hCX w H s₁ e s') fun H h1 h2=>hsp w H a ns T hlen hb' h1 h2
theorem KK{P:Program}{w:World}{K:oO}{mg:Str->Option Value}{base:Heap}{x qual:Str}{st:Stmt}{f cc:Addr}{fd:FuncData}{N ps:List Str}{k:Nat}{sp:Sp}(F:Fun K x qual st f fd)(hcc:fd.code=.ref cc)(S:zq N ps (zb st))(len:∀ vs H Q E,sp vs H Q E->vs.length=ps.length)
  (hbody:∀(A:Around) (outer:List Env) (s:Shared) (H:Hp) (vs:List V) (Q:VK) (E:XK),Room k (A.deeper (envOfC qual (zb st) s.heap.objs.size f (.ref cc)))->sp vs H Q E ->
   ∃ t,PSs (qg CX0 P w K mg base N qual (zb st) f (.ref cc) A outer s H E).nox (zk st) t/\t { nx:=fun _ H'=>Q .non H',rt:=Q } (start N vs) H):FnOk P w K mg base CX0 (k+1) f fd ps sp:=by
 obtain⟨oc,od,kV,doc,pm,an,cdv,ct,osl,rfl,lk,hcd⟩:=F.ex
 have e:cdv=.ref cc:=hcc
 subst e
 refine QG lk hcd S len fun A outer s H vs Q E hr hsp=>?_
 obtain⟨t,h,q⟩:=hbody A outer s H vs Q E hr hsp
 exact⟨t,h.nox,q⟩
end L3
namespace PySem
namespace F
end F
section
variable{prog:Program}{w:World}{A:Around}{E:Value->Shared->Prop}{s:Shared}
def Heap.IsRevS(h:Heap)(a:Addr)(x:Str)(t:Tok)(i:Int):Prop:=∃ o,h.get? a=some o/\o.cls=.type "reversed"/\o.data=.fields #[.str x t,rawInt i]
theorem Heap.IsRevS.typeIs{a:Addr}{x:Str}{t:Tok}{i:Int}(z:s.heap.IsRevS a x t i):s.TypeIs (.ref a) "reversed":=let ⟨o,ho,hc,_⟩:=z; ⟨o,ho,hc⟩
theorem Heap.IsRevS.at{h h':Heap}{a:Addr}{x:Str}{t:Tok}{i:Int}(z:h.IsRevS a x t i)(e:∀ o,h.get? a=some o->h'.get? a=some o):h'.IsRevS a x t i:=let ⟨o,ho,r⟩:=z; ⟨o,e _ ho,r⟩
end
section
variable{prog:Program}{w:World}{A:Around}{E:Value->Shared->Prop}{s:Shared}
end
end PySem
namespace L3
section
variable{X:Cx}{o a:Expr}{to:TE}{ta:TA}{apos cpos p pos2:Pos}
end
end L3
namespace L2
section
variable{X:Cx}{tg:Expr}
end
end L2
namespace L3
open PySem L2
section
variable{g:TG}{tt:TT}{te:TE}{own:Nat}{ix:List Nat}{σ:L2.St}{H1:Hp}{Q:VK}{D:Addr}
end
end L3
namespace L3
open PySem.AutoSeq1 (wpAny_loadPart')
open MeetsSeq MeetsSeq2 MeetsSeq3 SeqRoads2 SeqAt
section
variable{X:Cx}{pins:List (Addr × Obj)}{σ:St}{H:Hp}{s:Shared}
end
end L3
namespace L3
section
variable{prog:Program}{w:World}{A:Around}{R:Result->Shared->Prop}{I:Addr}{fp wr:List Addr}{G:Array GenState->Array GenState->Prop}{n:Nat}{P:Nat->Value->Prop}{St:Nat->Shared->Prop}
end
section
variable{prog:Program}{w:World}{A:Around}{E:Value->Shared->Prop}{s:Shared}
end
end L3
namespace L3
section
variable{X:Cx}
end
end L3
namespace L3
section
variable{g:TG}{tt:TT}{te:TE}{own:Nat}{ix:List Nat}{σ:L2.St}{H1:Hp}{Q:VK}{D:Addr}
end
end L3
namespace L3
theorem Xx{α:Type}[DecidableEq α](k:α)(v:Value)(x:α):∀ kvs:List (α × Value),(kvs.map fun kv=>if kv.1=k then (kv.1,v) else kv).find? (fun kv=>kv.1=x)=(kvs.find? fun kv=>kv.1=x).map fun kv=>if kv.1=k then (kv.1,v) else kv
 | []=>rfl
 | p::kvs=>by
  have e:(if p.1=k then (p.1,v) else p).1=p.1:=by split <;> rfl
  rw[aC,List.find?_cons,List.find?_cons,Xx k v x kvs]
  simp only[e]
  by_cases h:p.1=x
  ·simp [h]
  ·simp [h]
theorem X6{α:Type}[DecidableEq α](kvs:List (α × Value))(k:α)(v:Value)(x:α):valueAt (stored kvs k v) x=if x=k then some v else valueAt kvs x:=by
 unfold stored valueAt
 split
 ·rename_i h
  rw[Xx]
  by_cases e:x=k
  ·subst e
   rw[if_pos rfl]
   obtain⟨p,hp,hk⟩:=List.any_eq_true.mp h
   cases hf:kvs.find? fun kv=>kv.1=x with
   | none =>
    have:=List.find?_eq_none.mp hf p hp
    exact absurd hk this
   | some q =>
    have hq:=dz hf
    have hq':q.1=x:=by simpa using hq
    simp [hq']
  ·rw[if_neg e]
   cases hf:kvs.find? fun kv=>kv.1=x with
   | none=>rfl
   | some q =>
    have hq:=dz hf
    have hq':q.1=x:=by simpa using hq
    have:¬ q.1=k:=fun z=>e (hq'.symm.trans z)
    simp [this]
 ·rename_i h
  rw[List.find?_append]
  by_cases e:x=k
  ·subst e
   rw[if_pos rfl]
   have:kvs.find? (fun kv=>kv.1=x)=none:=by
    rw[List.find?_eq_none]
    intro p hp hk
    exact h (List.any_eq_true.mpr ⟨p,hp,hk⟩)
   rw[this]
   simp
  ·have e':¬ k=x:=fun z=>e z.symm
   rw[if_neg e]
   simp [e']
section
variable{X:Cx}{pos:Pos}
end
end L3
namespace L3
def jp(P:Program)(w:World)(a:Addr)(m:Str->Option V)(n:Nat):HO:=.ext fun h=>(a == sysModules)=false/\∃ kvs:List (Str × Value),h.DictOf (cU P w) a kvs/\kvs.length<=n/\∀ k,RelO (m k) (valueAt kvs k)
theorem WD{P:Program}{w:World}{H:Hp}{h:Heap}{a:Addr}{m:Str->Option V}{n:Nat}{kvs:List (Str × Value)}(hs:(a == sysModules)=false)(d:h.DictOf (cU P w) a kvs)(hl:kvs.length<=n)(r:∀ k,RelO (m k) (valueAt kvs k)):ObjOk P w H h a (jp P w a m n) :=
 ⟨⟨hs,kvs,d,hl,r⟩,(let ⟨o,es,ep,ho,_⟩:=d; ⟨o,ho⟩),fun h1 h2 ⟨hs,kvs,⟨o,es,ep,ho,rest⟩,z⟩ k=>⟨hs,kvs,⟨o,es,ep,k _ ho,rest⟩,z⟩⟩
section
variable{X:Cx}{pos:Pos}
theorem Inv.beyond{pins:List (Addr × Obj)}{σ:L2.St}{H:Hp}{s:Shared}(I:Inv X pins σ H s):(s.heap.objs.size == sysModules)=false:=by
 obtain⟨o,es,ep,e,_⟩:=I.ok.mod.glob
 have h1:=ay e
 have h2:=I.ok.bsz
 have h3:=I.sz
 have h4:1<=oK:=by decide
 have h5:1<s.heap.objs.size:=aD (cp h4 h1) (aO h2 h3)
 rw[beq_eq_false_iff_ne]
 intro z
 exact cb h5 z
def zaD(P:Program)(w:World):TE:=fun _ H Q=>∀ p,H p=none->Q (.ref p) (upd H p (jp P w p (fun _=>none) 0))
theorem KR:PE X (.Dict [] [] pos) (zaD X.prog X.w):=fun pins s σ H Q I h =>
 wpAny_Dict_empty ⟨.ref s.heap.objs.size,_,I.laid (a:=s.heap.objs.size) (t':=s.toks) (fun _ _ q=>aa _ q) (au _) (WD (m:=fun _=>none) (Inv.beyond I) (Heap.DictOf.new s.heap) (au _) fun _=>trivial),rfl,h _ (I.hok.fresh (au _))⟩
theorem Inv.tdic{pins:List (Addr × Obj)}{σ:L2.St}{H:Hp}{s:Shared}{a:Addr}{m:Str->Option V}{n:Nat}(I:Inv X pins σ H s)(h:H a=some (jp X.prog X.w a m n)):(a == sysModules)=false/\∃ kvs:List (Str × Value),s.heap.DictOf (cU X.prog X.w) a kvs/\kvs.length<=n/\∀ k,RelO (m k) (valueAt kvs k):=(I.hok _ _ h).1
def zbL(P:Program)(w:World):R2:=fun x y H Q=>∃ a m n k v,x=.ref a/\y=.str k/\H a=some (jp P w a m n)/\m k=some v/\Q v H
theorem Kg:IxR X (zbL X.prog X.w):=by
 intro value slice pins s σ H x y v u Q I rx ry h hs
 obtain⟨a,m,n,k,z,rfl,rfl,ha,hk,q⟩:=h
 cases rx
 obtain⟨t,rfl⟩:=ry
 obtain⟨_,kvs,dd,hl,r⟩:=Inv.tdic I ha
 obtain⟨w',hw,rw'⟩:=RelO.some_of (v:=z) (o:=valueAt kvs k) (by rw[<- hk];exact r k)
 exact tail_any dd.typeIs slot_dict_getitem.lookup (wpAny_getItem_of (knd:=cU X.prog X.w) (strKind_is _ _ _ _) dd.mapOf hw ⟨z,H,I.tok _,rw',q⟩) hs
def zan(P:Program)(w:World):V->V->V->Hp->(Hp->Prop)->Prop:=fun o i v H Q=>∃ a m n k,o=.ref a/\i=.str k/\H a=some (jp P w a m n)/\n<=100000/\Q (upd H a (jp P w a (fun x=>if x=k then some v else m x) (n+1)))
theorem U6:zc0 X (zan X.prog X.w):=by
 intro pins s σ H o i v ov iv u Q I ro ri rv h
 obtain⟨a,m,n,k,rfl,rfl,ha,hn,q⟩:=h
 cases ro
 obtain⟨t,rfl⟩:=ri
 obtain⟨hsm,kvs,dd,hl,r⟩:=Inv.tdic I ha
 have s16:=ym
 refine wpAny_setItem_pairs (knd:=cU X.prog X.w) (hsz:=by omega) (strKind_is _ _ _ _) dd fun h' dd' hs=>⟨_,?_,q⟩
 have he:∃ q,h'.get? a=some q:=let ⟨q,_,_,hq,_⟩:=dd'; ⟨q,hq⟩
 refine I.write (x:=a) (e:=a) (by rw[ha];exact True.intro) (.inl rfl) (fun b q hb z=>(hs.2 b hb).trans z) he (WD hsm dd' (aO (stored_length_le _ _ _) (by omega)) fun x=>?_)
 rw[X6]
 by_cases e:x=k
 ·rw[if_pos e,if_pos e]
  exact rv
 ·rw[if_neg e,if_neg e]
  exact r x
def zbr(P:Program)(w:World):R2:=fun x y H Q=>∃ a m n k,x=.str k/\y=.ref a/\H a=some (jp P w a m n)/\Q (.bl (m k).isNone) H
theorem QA:OpR X (compareOp .NotIn) (zbr X.prog X.w):=by
 intro pins s σ H x y v u Q I rx ry h
 obtain⟨a,m,n,k,rfl,rfl,ha,q⟩:=h
 obtain⟨t,rfl⟩:=rx
 cases ry
 obtain⟨hsm,kvs,dd,hl,r⟩:=Inv.tdic I ha
 refine wpAny_notIn_of (knd:=cU X.prog X.w) (strKind_is _ _ _ _) hsm dd.mapOf ?_
 have e:(!(valueAt kvs k).isSome)=(m k).isNone:=by
  have:=r k
  cases hm:m k with
  | none =>
   cases hv:valueAt kvs k with
   | none=>rfl
   | some z=>rw[hm,hv] at this;exact this.elim
  | some z0 =>
   cases hv:valueAt kvs k with
   | none=>rw[hm,hv] at this;exact this.elim
   | some z=>rfl
 rw[e]
 exact⟨.bl _,H,I.tok _,rfl,q⟩
end
end L3
namespace L3
section
variable{X:Cx}{scope:Scope}{own caps:List Str}{ix:List Nat}{elt tg iter:Expr}{ifs:List Expr}{pos:Pos}{wi:TI}{g:TG}{tt:TT}{te:TE}
theorem ZO{EX:XK}(hc:X.calm=true)(S:qO X scope own caps ix)
  (hg:∀ cl C pins s3 H3 fp,PG (yf X scope cl C (own ++ caps) pins s3 H3 fp fun _ _=>False) tg g)
  (ht:∀ cl C pins s3 H3 fp xe,XE (yf X scope cl C (own ++ caps) pins s3 H3 fp xe) EX->PTs (yf X scope cl C (own ++ caps) pins s3 H3 fp xe) ifs tt)
  (hst:X.stack=X.env::X.outer/\X.env.frame=some X.env.locals) (hxe:XE X EX) (he:∀ cl C pins s3 H3 fp xe,XE (yf X scope cl C (own ++ caps) pins s3 H3 fp xe) EX->PE (yf X scope cl C (own ++ caps) pins s3 H3 fp xe) elt te)
  {cl:List (Str × Addr)} (hc1:∀ y c,cl.lookup y=some c->X.env.cells.lookup y=some c) (hc2:∀ y,(y,NameKind.free) ∈ scope.names->∃ c,cl.lookup y=some c)
  {pins:List (Addr × Obj)} {σ:St} {H2:Hp} {s2:Shared} {Q:VK} {it:Addr} {fp:List Addr} {tn:Nat->Heap->Prop} {J:It} (I2:Inv X pins σ H2 s2) (T:UB X.prog X.w X.K tg J fp it tn) (st2:tn 0 s2.heap) (f2:∀ b ∈ fp,wa X pins H2 b)
  (q:∀ D,H2 D=none->∃ W:Nat->Nat->List V->Hp->Prop,(∃ m,W 0 m [] (upd H2 D (.lst []))) /\
   ∀ i m acc H',W i m acc H'->(J.stop i H'/\Q (.ref D) H')\/(J.go i H'/\∀ x H2,J.yld i H' x H2->g x (vj σ own.length ix) H2 fun σ3 H3=>xu (vj σ own.length ix) σ3/\tt σ3 H3 fun b H4=>if b=true then
    te σ3 H4 fun v H5=>H5 D=some (.lst acc)/\acc.length<oN/\∃ m',m'<m/\W (i+1) m' (acc ++ [v]) (upd H5 D (.lst (acc ++ [v])))
    else ∃ m',m'<m/\W (i+1) m' acc H4))
  {RR:Value->Addr->Result->Shared->Prop} {E:Value->Shared->Prop}
  (hRR:∀ D C m s' H',H2 D=none->s'.heap.Ns C m->wa X pins H' C->Inv X pins σ H' s'->Q (.ref D) H'->RR (.ref D) C (.ok .next) s')
  (hRE:∀ D C m s' x,s'.heap.Ns C m->(∀ h',Heap.SameBut C s'.heap h'->∀ cenv:Env,cenv.locals=C->wpAny (model X.prog X.w) X.A (e8 "comprehension.variables-let-go" x cenv:Sem Value) (fun _ _=>False) X.xe { s' with heap:=h' })->RR (.ref D) C (.error x) s') :
  wpAny (model X.prog X.w) X.A (newList []) (fun acc s3=>wpAny (model X.prog X.w) X.A (newFunctionEnv scope X.env.globals cl [] X.env.qual none .none (some X.env)) (fun cenv s4 =>
   codeAny (model X.prog X.w) X.A (.compStart (.ListComp elt [⟨tg,iter,ifs,0⟩] scope pos) 0 (.ref it) acc { cenv with scope:=relabel scope X.env }) (RR acc cenv.locals) s4) E s3) E s2:=by
 have hD:H2 s2.heap.objs.size=none:=I2.hok.fresh (au _)
 obtain⟨W,⟨m0,w0⟩,turn⟩:=q _ hD
 refine wpAny_newObj_type (wpAny_newFunctionEnv S.nocell (by intro y hy;simp at hy) (fun h1 hns1 hsb1=>?_) S.kind)
 dsimp only at hns1 hsb1 ⊢
 have I3:Inv X pins σ (upd H2 s2.heap.objs.size (.lst [])) { s2 with heap:=s2.heap.push { cls:=.type "list",dict:=none,data:=.seq ([]:List Value).toArray } } :=
  I2.lnew (its:=[]) (t':=s2.toks) .nil (aJ _)
 generalize hs3:({ s2 with heap:=s2.heap.push { cls:=.type "list",dict:=none,data:=.seq ([]:List Value).toArray } }:Shared)=s3 at I3
 have e3:s2.heap.push { cls:=.type "list",dict:=none,data:=.seq ([]:List Value).toArray }=s3.heap:=by rw[<- hs3]
 rw[e3] at hns1 hsb1 ⊢
 have k1:∀ b o,s3.heap.get? b=some o->h1.get? b=some o:=fun b o e=>(hsb1.2 b (aE (ay e))).trans (aa _ e)
 have k23:∀ b o,s2.heap.get? b=some o->s3.heap.get? b=some o:=fun b o e=>by rw[<- e3];exact aa _ e
 have hz:s3.heap.objs.size=s2.heap.objs.size+1:=by rw[<- e3,bH]
 have fpObj:∀ b ∈ fp,∃ o,s2.heap.get? b=some o:=fun b hb=>let ⟨o,e,_⟩:=T.obj 0 _ st2 b hb; ⟨o,e⟩
 have fplt:∀ b ∈ fp,b<s2.heap.objs.size:=fun b hb=>let ⟨o,e⟩:=fpObj b hb;ay e
 have f3:∀ b ∈ fp,wa X pins (upd H2 s2.heap.objs.size (.lst [])) b:=fun b hb=>⟨by rw[zo (aE (fplt b hb))];exact (f2 b hb).1,(f2 b hb).2⟩
 have I4:Inv (yf X scope cl s3.heap.objs.size (own ++ caps) pins s3 (upd H2 s2.heap.objs.size (.lst [])) fp fun _ _=>False) [] (vj σ own.length ix) (upd H2 s2.heap.objs.size (.lst [])) { s3 with heap:=h1,toks:=s3.toks+([]:List (Str × Value)).length } :=
  jU S hc1 hc2 I3 f3 (fun b hb=>by rw[hz];exact ci (fplt b hb)) hns1 k1
 have st4:tn 0 h1:=T.keep 0 _ _ st2 fun b hb o e=>k1 b o (k23 b o e)
 generalize hs4:({ s3 with heap:=h1,toks:=s3.toks+([]:List (Str × Value)).length }:Shared)=s4 at I4
 have es4:({ s2 with heap:=h1,toks:=s2.toks+([]:List (Str × Value)).length }:Shared)=s4:=by rw[<- hs4,<- hs3]
 have e4:h1=s4.heap:=by rw[<- hs4]
 have loop:codeAny (model X.prog X.w) X.A (.compLoop (.ListComp elt [⟨tg,iter,ifs,0⟩] scope pos) 0 (.ref it) (.ref s2.heap.objs.size) (compEnvC scope cl s3.heap.objs.size X.env)) (RR (.ref s2.heap.objs.size) s3.heap.objs.size) s4:=by
  let X':=yf X scope cl s3.heap.objs.size (own ++ caps) pins s3 (upd H2 s2.heap.objs.size (.lst [])) fp fun _ _=>False
  have fp':∀{H':Hp},(∀ b ∈ fp,H' b=none)->∀ b ∈ fp,wa X' [] H' b:=fun {H'} hn b hb=>by
   obtain⟨_,a1,a2,a3,a4,a5⟩:=f3 b hb
   refine⟨hn b hb,aE (show b<s3.heap.objs.size from by rw[hz];exact ci (fplt b hb)),fun z=>?_,.inl hb,fun x c e=>a4 x c (hc1 x c e),fun p hp=>?_⟩
   ·rcases List.mem_cons.mp (I3.stkSub b z) with e | e
    ·exact a1 e
    ·exact a2 e
   ·have:p ∈ (X.pn ++ pins) ++ []:=hp
    rw[aS] at this
    exact a5 p this
  refine ZE (fun n s'=>∃ i acc H',Inv X' [] (vj σ own.length ix) H' s'/\tn i s'.heap/\(∀ b ∈ fp,H' b=none)/\W i n acc H') rfl ?_ m0 ⟨0,[],_,I4,by rw[<- e4];exact st4,fun b hb=>(f3 b hb).1,w0⟩
  rintro n s5 ⟨i,acc,H5,I5,st5,fr5,w5⟩
  refine wpAny_noRaise ?_
  rcases turn i n acc H5 w5 with ⟨stop,qn⟩ | ⟨go,step⟩
  ·refine thn (T.done X' rfl rfl rfl hc i [] s5 _ H5 _ I5 (fp' fr5) st5 stop) fun r s6 ⟨hr,I6⟩=>?_
   subst hr
   obtain⟨m,hm,_⟩:=I6.loc
   refine hRR _ _ m s6 H5 hD hm (I3.fpOk (au _) I6.free) (I3.call' (s':=s6) I6.os I6.base I6.hok I6.bare fun b hb=>?_) qn
   obtain⟨_,a1,a2,a3,a4,a5⟩:=f3 b hb
   exact⟨a3,a1,a4,a5⟩
  ·refine thn (T.item X' rfl rfl rfl hc i [] s5 _ H5 (fun _ _=>False) I5 (fp' fr5) st5 go) fun r s6 ⟨u,hr,h6⟩=>?_
   subst hr
   refine wpAny_noRaise (thn h6 fun _ s7 ⟨x,H7,I7,r7,y7,st7,fr7⟩=>?_)
   have I7':=I7.pinned (fp' fr7) (T.obj _ _ st7)
   refine wpAny_noRaise (thn (hg _ _ _ _ _ _ _ s7 _ H7 x u _ I7' r7 (step x H7 y7)) fun _ s8 ⟨σ8,H8,I8,ks,q8⟩=>?_)
   refine thn (ht cl _ pins s3 (upd H2 s2.heap.objs.size (.lst [])) fp _ (fun e s hfl=>Vv (RE:=fun e s'=>RR (.ref s2.heap.objs.size) s3.heap.objs.size (.error e) s') hst hxe hc1 I3 f3 hfl fun m s' x a b=>hRE _ _ m s' x a b) _ s8 σ8 H8 _ (I8.wish _) q8) fun b s9 ⟨H9,I9',q9⟩=>?_
   have I9:=Inv.unwish (X:=X') I9'
   have back:∀{s':Shared} {H':Hp} {acc':List V} {m':Nat},Inv X' ([] ++ jE fp s7.heap) σ8 H' s'->m'<n->W (i+1) m' acc' H'->∃ m,m<n/\∃ i acc H',Inv X' [] (vj σ own.length ix) H' s'/\tn i s'.heap/\(∀ b ∈ fp,H' b=none)/\W i m acc H':=fun {s' H' acc' m'} J' hm w'=>by
    refine⟨m',hm,i+1,acc',H',(J'.unpinned).weak ks.1 ks.2,T.keep _ _ _ st7 fun b hb o e=>(J'.pin (b,o) (aA _ (aA _ (xG hb e)))).1,fun b hb=>?_,w'⟩
    obtain⟨o,e,d⟩:=T.obj _ _ st7 b hb
    exact (J'.pin (b,o) (aA _ (aA _ (xG hb e)))).2.1
   cases b with
   | false =>
    rw[if_neg aF] at q9 ⊢
    obtain⟨m',hm,w'⟩:=q9
    exact back I9 hm w'
   | true =>
    rw[if_pos rfl] at q9 ⊢
    refine thn (he cl _ pins s3 (upd H2 s2.heap.objs.size (.lst [])) fp _ (fun e s hfl=>Vv (RE:=fun e s'=>RR (.ref s2.heap.objs.size) s3.heap.objs.size (.error e) s') hst hxe hc1 I3 f3 hfl fun m s' x a b=>hRE _ _ m s' x a b) _ s9 σ8 H9 _ (I9.wish _) q9) fun v s10 ⟨y,H10,I10',r10,hD10,hsz,m',hm,w'⟩=>?_
    have I10:=Inv.unwish (X:=X') I10'
    refine wpAny_noRaise ?_
    have:=yW (X:=X') _ s10 σ8 H10 (.ref s2.heap.objs.size) [y] (.ref s2.heap.objs.size) [v] (fun _ H'=>H'=upd H10 s2.heap.objs.size (.lst (acc ++ [y]))) I10 rfl (.cons r10 .nil) ⟨_,acc,y,rfl,rfl,hD10,hsz,rfl⟩
    refine thn this fun _ s11 ⟨_,H11,I11,_,eH⟩=>?_
    subst eH
    exact back I11 hm w'
 have goal:codeAny (model X.prog X.w) X.A (.compStart (.ListComp elt [⟨tg,iter,ifs,0⟩] scope pos) 0 (.ref it) (.ref s2.heap.objs.size) (compEnvC scope cl s3.heap.objs.size X.env)) (RR (.ref s2.heap.objs.size) s3.heap.objs.size) s4 :=
  codeAny_compStart_list loop (T.self _ 0 s4 _ _ (by rw[<- e4];exact st4) loop)
 rw[<- es4] at goal
 exact goal
theorem W6{EX:XK}(hc:X.calm=true)(S:qO X scope own caps ix)(hst:X.stack=X.env::X.outer/\X.env.frame=some X.env.locals)(hxe:XE X EX)(hi:PI X tg iter wi)
  (hg:∀ cl C pins s3 H3 fp,PG (yf X scope cl C (own ++ caps) pins s3 H3 fp fun _ _=>False) tg g)
  (ht:∀ cl C pins s3 H3 fp xe,XE (yf X scope cl C (own ++ caps) pins s3 H3 fp xe) EX->PTs (yf X scope cl C (own ++ caps) pins s3 H3 fp xe) ifs tt)
  (he:∀ cl C pins s3 H3 fp xe,XE (yf X scope cl C (own ++ caps) pins s3 H3 fp xe) EX->PE (yf X scope cl C (own ++ caps) pins s3 H3 fp xe) elt te)
  (hs:∀ x,foldedSetIterable iter X.env x=pure x:=by intro _;rfl) :
  PE X (.ListComp elt [⟨tg,iter,ifs,0⟩] scope pos) (j9 wi g tt te own.length ix):=by
 intro pins s σ H Q I h
 obtain⟨cl,hclos,hc1,hc2⟩:=wu (scope:=scope) (env:=X.env) fun y hy=>I.ok.has y (.inl (S.free y hy))
 rw[eval_ListComp]
 refine wpAny_comprehension_free (use:=none) rfl hs hclos S.kind S.names (thn (hi pins s σ H _ I h) fun v s1 h1=>thn h1 fun itv s2 h2=>?_)
 obtain⟨it,fp,tn,J,H2,e,I2,T,st2,f2,q⟩:=h2
 subst e
 refine ZO (RR:=fun acc C=>compPost (model X.prog X.w) X.A X.xe none (EP X pins σ Q) acc C) hc S hg ht hst hxe he hc1 hc2 I2 T st2 f2 q ?_ ?_
 ·intro D C m s' H' _ hn fc I' qn
  obtain⟨a0,a1,a2,a3,a4,a5⟩:=fc
  exact⟨m,hn,fun h' sb=>⟨.ref D,H',I'.turned (t':=s'.toks) (fun b o hb e=>(sb.2 b hb).trans e) a0 a1 a3 a4 a5,rfl,qn⟩⟩
 ·intro D C m s' x hn hp
  exact⟨m,hn,hp⟩
end
end L3
namespace L3
section
variable{X:Cx}{scope:Scope}{own caps:List Str}{ix:List Nat}{cl:List (Str × Addr)}{pins:List (Addr × Obj)}{σ:St}{H:Hp}{s:Shared}{fp:List Addr}{E:Value->Shared->Prop}
end
section
variable{X:Cx}{scope:Scope}{own caps:List Str}{ix:List Nat}{elt tg iter:Expr}{ifs:List Expr}{pos:Pos}{wi:TI}{g:TG}{tt:TT}{te:TE}
end
end L3
namespace L3
section
variable{X:Cx}
end
end L3
namespace LL
open PySem L2 L3
def top(i:Nat):Stmt:=PySem.Challenge.pw_letterlaw_k57_whole_only_one_list.main.body.getD i (.Pass ⟨0,0,0,0⟩)
abbrev yN:Stmt:=xw (top 5) 0
abbrev zY:Stmt:=xw (top 6) 0
abbrev zU:Stmt:=top 10
abbrev yP:Stmt:=top 11
abbrev xg:Stmt:=top 12
abbrev Wo:Stmt:=top 13
abbrev yw:Stmt:=top 16
abbrev yR:Stmt:=top 17
abbrev vk:Stmt:=top 18
abbrev yE:Stmt:=xw (top 19) 0
abbrev zO:Stmt:=xw (top 19) 1
abbrev ug:Stmt:=top 21
abbrev xF:Stmt:=top 22
abbrev jB:Stmt:=top 23
abbrev wb:Stmt:=top 24
abbrev ve:Stmt:=top 25
abbrev x0:Stmt:=top 26
abbrev qr:Stmt:=top 28
abbrev vq:Stmt:=top 29
abbrev xE:Stmt:=top 35
abbrev y0:Stmt:=top 36
abbrev xl:Stmt:=top 37
abbrev wf:Stmt:=top 38
abbrev yK:Stmt:=top 39
abbrev yv:Stmt:=top 40
abbrev yg:Stmt:=top 41
abbrev yO:Stmt:=top 42
abbrev we:Stmt:=top 43
abbrev zV:Stmt:=top 49
abbrev yI:Stmt:=top 50
abbrev zZ:Stmt:=top 51
abbrev yu:Stmt:=top 52
abbrev xB:Stmt:=top 53
abbrev yJ:Stmt:=top 54
abbrev yM:Stmt:=xw (top 57) 0
abbrev yq:Stmt:=xw (top 57) 1
abbrev yL:Stmt:=xw (top 57) 2
abbrev yD:Stmt:=xw (top 57) 3
abbrev yt:Stmt:=xw (top 57) 4
abbrev z6:Stmt:=xw (top 58) 0
abbrev z7:Stmt:=xw (top 59) 0
abbrev zM:Stmt:=xw (top 59) 1
abbrev jH:Stmt:=top 61
abbrev vW:Stmt:=top 62
abbrev wd:Stmt:=top 63
abbrev jJ:Stmt:=top 64
abbrev jz:Stmt:=top 65
abbrev jW:Stmt:=top 66
abbrev uo:Stmt:=top 67
abbrev uc:Stmt:=top 68
abbrev jK:Stmt:=top 69
abbrev jF:Stmt:=top 70
abbrev uj:Stmt:=top 71
abbrev Wg:Stmt:=top 72
abbrev ux:Stmt:=top 73
abbrev wj:Stmt:=top 74
abbrev jy:Stmt:=top 75
abbrev vb:Stmt:=top 76
abbrev uJ:Stmt:=top 77
section
variable{P:Program}{w:World}{K:oO}{mg:Str->Option Value}{base:Heap}
seal L2.PE L2.PS L2.PA L2.PT L2.PSs L2.PI L2.PG L2.PW L2.PGs
local macro_rules | `(tactic| rfl')=>`(tactic| simp only[zcN,WO,zdf,vj,Option.join_some,Option.join_none,rU,Xy,zaZ,zbT,zbN,zax,zbA,zcZ,KG,tOp,tUn,xx,tC,jt,zP,vf,tCB,zcu,xA,zaW,zbx,zcW,tOr,zbi,zdt,JY,VP,tIf,rI,rI0,UL,K5,zcE,zc2,zbU,rEq,rNe,rIx,zbE,uO,zcg,zcM,zco,zcC,zcp,tSl,WY,zaH,zc7,zdp,zcJ,zaU,KI,rGe,zcB,decide_false,decide_true,Prod.mk.injEq,zae,zcf,zb9,Vj,zcs,VY,tyV,tBM,zdq,if_true,if_false,bO,decide_eq_true_eq,decide_eq_false_iff_not,Bool.not_eq_true',Bool.not_true,Bool.not_false,lt1,Uz,zcq,K8,km,zad,za6,zb3,zcy,Ue,Vc,zdw,tHs,zac,zbG,zca,zb0,zb2,zbW,Value.ref.injEq,L2.start,zbM,zb7,zdg,zc6,zdh,zce,zdb,zcn,zch,zdk,zdd,KL,zcr,zal,zc1,ZV,Qx,ZR,ZN,XL,ye,zdv,zbf,zcb,cxK,cxP,cxW,aC,aN,aM,cw,cX,List.replicate_zero,Nat.reduceAdd,Nat.reduceSub,and_assoc,zbF,exists_eq,exists_eq',exists_eq_left',exists_eq_left,exists_eq_right,exists_eq_right',exists_and_left,exists_and_right,V.int.injEq,V.ref.injEq,V.str.injEq,V.bl.injEq,V.ty.injEq,reduceCtorEq,false_and,and_false,true_and,and_true,or_false,false_or,exists_false,exists_const,em,List.getElem?_cons_succ,Option.some.injEq,bi,bj,List.cons.injEq,aS,bv,bF])
theorem xe0{X:Cx}:XE X E0:=fun e s h=>by
 obtain⟨_,_,_,_,_,_,_,_,_,_,_,_,_,_,h⟩:=h
 exact h.elim
def YE(l:List Nat):Prop:=∀ c ∈ l,97<=c/\c<=122
instance (l:List Nat):Decidable (YE l):=by unfold YE;infer_instance
def j4(l:List Nat):Bool:=decide (1<=l.length/\l.length<=6/\YE l/\l.Nodup)
def uT:Sp:=fun vs H Q _=>∃ c:Nat,vs=[.str (tx [c])]/\Q (.bl (decide (97<=c/\c<=122))) H
theorem U8:zq ["sign"] ["sign"] (zb zU):=⟨rfl,rfl,rfl,by decide +kernel,rfl,by decide +kernel,by decide +kernel⟩
theorem Qu{f:Addr}{fd:FuncData}(F:Fun K "is_small_letter" "is_small_letter" zU f fd):FnOk P w K mg base CX0 1 f fd ["sign"] uT:=by
 refine F.ok U8 (fun vs H Q E h=>?_) (fun cdv A outer s H vs Q E hr h=>?_)
 ·obtain⟨a,rfl,_⟩:=h
  rfl
 ·obtain⟨c,rfl,q⟩:=h
  refine⟨_,(zh (zx (Qj vF vF xT (pv 0) xT))),?_⟩
  have ea:cs (("a" : Str))=[97]:=rfl
  have ez:cs (("z" : Str))=[122]:=rfl
  rfl'
  simp only[ea,ez,XL,lt1]
  refine xj (fun h=>?_) fun h=>?_
  ·have e:decide (97<=c/\c<=122)=!decide (122<c):=by
    by_cases h2:122<c
    ·rw[decide_eq_true h2,decide_eq_false (by omega)];rfl
    ·rw[decide_eq_false h2,decide_eq_true (by omega)];rfl
   rw[e] at q
   exact q
  ·rw[decide_eq_false (by omega)] at q
   exact q
structure zcL(K:oO)(mg:Str->Option Value)(C:Addr):Prop where
 xi:XI K C
 ini:ah K (.ref C) "__init__" = some (some (.builtin "ValueError.__init__"))
 g:mg "NoLetters" = some (.ref C)
 most:∃ t,mg "MOST_LETTERS" = some (.int 6 t)
def ww(C:Addr):Sp:=fun vs H Q E=>∃ l:List Nat,vs=[.str (tx l)]/\l.length<=1000/\(j4 l=true->Q (.str (tx l)) H)/\(j4 l=false->E (.ref C) none H)
theorem md:zq ["text","sign"] ["text"] (zb yP):=⟨rfl,rfl,rfl,by decide +kernel,rfl,by decide +kernel,by decide +kernel⟩
theorem ko{f C:Addr}{fd:FuncData}(B:Bt mg)(T:zcL K mg C)(F:Fun K "letters_of" "letters_of" yP f fd)(Ds:Df P w K mg base CX0 1 "is_small_letter" ["sign"] [] uT):FnOk P w K mg base (CXx P w) 2 f fd ["text"] (ww C):=by
 refine Fun.okX F md (fun vs H Q E h=>?_) (fun cdv A outer s H vs Q E hr hx h=>?_)
 ·obtain⟨a,rfl,_⟩:=h
  rfl
 ·obtain⟨l,rfl,hl,q1,q2⟩:=h
  obtain⟨t6,g6⟩:=T.most
  refine⟨_,(zN (ya (yn (kW vF vF zg (zp zX rfl B.len aB (za (pv 0) ze)) (xh (v:=.int 6) rfl g6 ⟨t6,rfl⟩)))
    (zh (yU hx rfl T.xi.toXC T.ini rfl T.g (za xT ze)))
    zD)
   (zN (yF PassesOwn.leaving rfl (Jk (pv 0)) (zC (i:=1) md.nd rfl (Or.inl rfl))
    (zN (ya (yn (YQ (cl0 Ds hr .nil rfl (za (pv 1) ze)) (fun _=>rfl)))
     (zh (yU hx rfl T.xi.toXC T.ini rfl T.g (za xT ze)))
     zD)
    (zh (ya (zI qx (vR cP eL eM WE (pv 0) (za (pv 1) ze)) zg (zK _))
     (zh (yU hx rfl T.xi.toXC T.ini rfl T.g (za xT ze)))
     zD))))
   (zh (zx (pv 0))))),?_⟩
  have s16:=ym
  rfl'
  have bad:(¬ (1<=l.length/\l.length<=6/\YE l/\l.Nodup))->∀ H':Hp,H'=H->E (.ref C) none H':=fun h H' e=>by
   rw[e]
   exact q2 (decide_eq_false h)
  refine⟨by omega,xj (fun c=>xj (fun c2=>⟨by omega,bad (fun h=>by have:=h.2.1;omega) H rfl⟩) (fun c2=>?_)) (fun c=>⟨by omega,bad (fun h=>by have:=h.1;omega) H rfl⟩)⟩
  refine ForS.by (fun i σ H'=>H'=H/\∃ v,σ=[some (.str (tx l)),v]/\YE (l.take i)/\∀ c ∈ l.take i,l.count c<=1) ⟨rfl,none,rfl,fun c h=>absurd h (by simp),fun c h=>absurd h (by simp)⟩ ?_ ?_
  ·rintro i c σ H' hg ⟨eH,v,rfl,hs,hn⟩
   have hc:=af hg
   rfl'
   simp only[uT]
   rfl'
   refine xj (fun h=>⟨by omega,bad (fun z=>by have:=z.2.2.1 c hc;omega) _ eH⟩) (fun h=>xj (fun h2=>⟨by omega,bad (fun z=>?_) _ eH⟩) (fun h2=>⟨eH,?_,?_⟩))
   ·have:=List.nodup_iff_count.mp z.2.2.2 c
    omega
   ·rw[zW hg]
    intro x hx
    rcases List.mem_append.mp hx with q | q
    ·exact hs x q
    ·have:x=c:=by simpa using q
     subst this
     omega
   ·rw[zW hg]
    intro x hx
    rcases List.mem_append.mp hx with q | q
    ·exact hn x q
    ·have:x=c:=by simpa using q
     subst this
     omega
  ·rintro σ H' ⟨eH,v,rfl,hs,hn⟩
   rw[aQ] at hs hn
   rfl'
   rw[eH]
   refine q1 (decide_eq_true ⟨by omega,by omega,hs,List.nodup_iff_count.mpr fun c=>?_⟩)
   by_cases hc:c ∈ l
   ·exact hn c hc
   ·rw[List.count_eq_zero.mpr hc];omega
def zu(l:List Nat)(k:Int)(p:List Nat):Bool:=decide (0<=k/\k+p.length<=l.length/\(l.drop k.toNat).take p.length=p)
def xW:Sp:=fun vs H Q _=>∃(l p:List Nat) (k:Int),vs=[.str (tx l),.int k,.str (tx p)]/\l.length<=10000/\p.length<=10000/\Q (.bl (zu l k p)) H
theorem kh{l p:List Nat}{k:Int}{H:Hp}{Q:VK}{E:XK}(h1:l.length<=10000)(h2:p.length<=10000)(h:Q (.bl (zu l k p)) H):xW [.str (tx l),.int k,.str (tx p)] H Q E:=⟨l,p,k,rfl,h1,h2,h⟩
theorem ZU:zq ["word","place","part"] ["word","place","part"] (zb xg):=⟨rfl,rfl,rfl,by decide +kernel,rfl,by decide +kernel,by decide +kernel⟩
theorem Z2{f:Addr}{fd:FuncData}(B:Bt mg)(F:Fun K "stands_at" "stands_at" xg f fd):FnOk P w K mg base CX0 1 f fd ["word","place","part"] xW:=by
 refine F.ok ZU (fun vs H Q E h=>?_) (fun cdv A outer s H vs Q E hr h=>?_)
 ·obtain⟨l,p,k,rfl,_⟩:=h
  rfl
 ·obtain⟨l,p,k,rfl,hl,hp,q⟩:=h
  refine⟨_,(zN (ya (yn (kW vF vF zg (pv 1) (zB qv (zp zX rfl B.len aB (za (pv 0) ze)) (zp zX rfl B.len aB (za (pv 2) ze)))))
    (zh (zx xM))
    zD)
   (zh (zx (ui qT (yl uF (pv 0) (yh (pv 1)) (yh (zB op_add (pv 1) (zp zX rfl B.len aB (za (pv 2) ze))))) (pv 2) (zK _))))),?_⟩
  have s16:=ym
  rfl'
  have no:¬ (0<=k/\k+p.length<=l.length/\(l.drop k.toNat).take p.length=p)->Q (.bl false) H:=fun h=>by
   have e:zu l k p=false:=decide_eq_false h
   rw[e] at q
   exact q
  refine xj (fun h0=>⟨by omega,by omega,xj (fun h1=>no fun h=>absurd h.2.1 (by omega)) fun h1=>⟨by omega,by omega,?_⟩⟩) fun h0=>no fun h=>h0 h.1
  rw[kL _ h0 (by omega) (by omega)]
  have e:(k+(p.length:Int) - k).toNat=p.length:=by omega
  rw[e]
  have e2:zu l k p=decide ((l.drop k.toNat).take p.length=p):=by
   unfold zu
   exact decide_eq_decide.mpr ⟨fun h=>h.2.2,fun h=>⟨h0,by omega,h⟩⟩
  rw[<- e2]
  exact q
def yS(l:List Nat)(k:Int)(o n:List Nat):List Nat:=l.take k.toNat ++ n ++ l.drop (k.toNat+o.length)
theorem xm{l o:List Nat}{k:Int}(h:zu l k o=true):l.take k.toNat ++ o ++ l.drop (k.toNat+o.length)=l/\(l.take k.toNat).length=k.toNat/\0<=k/\k+o.length<=l.length:=by
 unfold zu at h
 rw[decide_eq_true_eq] at h
 obtain⟨h0,h1,h2⟩:=h
 refine⟨?_,by rw[aK];omega,h0,h1⟩
 have e:l.drop k.toNat=o ++ l.drop (k.toNat+o.length):=by
  have:=bK o.length (l.drop k.toNat)
  rw[h2,dJ] at this
  exact this.symm
 rw[ax,<- e,bK]
theorem Xq{l o:List Nat}{k:Int}(n:List Nat)(h:zu l k o=true):zu (yS l k o n) k n=true/\yS (yS l k o n) k n o=l:=by
 obtain⟨e,hl,h0,h1⟩:=xm h
 have e1:(yS l k o n).take k.toNat=l.take k.toNat:=by
  unfold yS
  rw[ax,aU (by omega),bf (by omega)]
 have e2:(yS l k o n).drop k.toNat=n ++ l.drop (k.toNat+o.length):=by
  unfold yS
  rw[ax,bM (by omega),aZ (by omega),bv]
 have e3:(yS l k o n).length=l.length - o.length+n.length:=by
  unfold yS
  simp only[am,br,hl]
  omega
 refine⟨?_,?_⟩
 ·unfold zu
  refine decide_eq_true ⟨h0,by omega,?_⟩
  rw[e2,aU (by omega),bf (by omega)]
 ·show (yS l k o n).take k.toNat ++ o ++ (yS l k o n).drop (k.toNat+n.length)=l
  rw[e1,<- dJ,e2,bM (by omega),aZ (by omega),bv]
  exact e
theorem KM{l o n:List Nat}{k:Int}(h0:0<=k):cut l none (some k) ++ n ++ cut l (some (k + ↑o.length)) none=yS l k o n:=by
 rw[ZJ _ h0,qj _ (by omega)]
 have:(k+(o.length:Int)).toNat=k.toNat+o.length:=by omega
 rw[this]
 rfl
structure TNU(K:oO)(mg:Str->Option Value)(C:Addr):Prop where
 xi:XI K C
 g:mg "NoUse" = some (.ref C)
 na:NoAttr K C "at"
theorem Zd:zq ["self","at"] ["self","at"] (zb yN):=⟨rfl,rfl,rfl,by decide +kernel,rfl,by decide +kernel,by decide +kernel⟩
theorem kN{f C:Addr}{fd:FuncData}(T:TNU K mg C)(F:Fun K "__init__" "NoUse.__init__" yN f fd):FnOk P w K mg base CX0 1 f fd ["self","at"] (vE C "at"):=by
 refine F.ok Zd (fun vs H Q E h=>?_) (fun cdv A outer s H vs Q E hr h=>?_)
 ·obtain⟨x,v,rfl,_⟩:=h
  rfl
 ·obtain⟨x,v,rfl,hx,q⟩:=h
  refine⟨_,(zh (Uq (pv 0) (pv 1) rfl)),?_⟩
  simp only[K2]
  rfl'
  exact⟨C,hx,T.xi.toXC,T.na,q⟩
structure DNU(P:Program)(w:World)(K:oO)(mg:Str->Option Value)(base:Heap)(C:Addr):Prop extends TNU K mg C where
 ini:∃ f fd,ah K (.ref C) "__init__" = some (some (.ref f))/\bg K (.ref f)=true/\FnOk P w K mg base CX0 1 f fd ["self","at"] (vE C "at")/\Binds K fd ["self","at"] []
def ZF(C:Addr):Sp:=fun vs H Q E=>∃(l o n:List Nat) (k:Int),vs=[.str (tx l),.int k,.str (tx o),.str (tx n)]/\l.length<=10000/\o.length<=10000/\n.length<=10000/\(zu l k o=true->Q (.str (tx (yS l k o n))) H)/\(zu l k o=false->∀ d H',zbI H d "at" (.int 0) H'->E (.ref C) (some d) H')
theorem zbk:zq ["word","place","old","new"] ["word","place","old","new"] (zb Wo):=⟨rfl,rfl,rfl,by decide +kernel,rfl,by decide +kernel,by decide +kernel⟩
theorem zag{f C:Addr}{fd:FuncData}(B:Bt mg)(T:DNU P w K mg base C)(F:Fun K "put" "put" Wo f fd)(nS:Df P w K mg base CX0 1 "stands_at" ["word","place","part"] [] xW):FnOk P w K mg base (CXx P w) 3 f fd ["word","place","old","new"] (ZF C):=by
 obtain⟨fi,fdi,hi,hfn,Fi,Bi⟩:=T.ini
 refine Fun.okX F zbk (fun vs H Q E h=>?_) (fun cdv A outer s H vs Q E hr hx h=>?_)
 ·obtain⟨l,o,n,k,rfl,_⟩:=h
  rfl
 ·obtain⟨l,o,n,k,rfl,hl,ho,hn,q1,q2⟩:=h
  refine⟨_,(zN (ya (yn (YQ (cl0 nS hr .nil rfl (za (pv 0) (za (pv 1) (za (pv 2) ze)))) (fun _=>rfl)))
    (zh (ZT hx rfl T.xi.toXC hi hfn Fi hr Bi rfl T.g (za zg ze)))
    zD)
   (zh (zx (zB op_add_str (zB op_add_str (yl uF (pv 0) xZ (yh (pv 1))) (pv 3)) (yl uF (pv 0) (yh (zB op_add (pv 1) (zp zX rfl B.len aB (za (pv 2) ze)))) xZ))))),?_⟩
  have s16:=ym
  rfl'
  refine kh hl ho ?_
  rfl'
  refine xj (fun hb=>⟨by omega,W7 (q2 hb)⟩) fun hb=>?_
  have hb':zu l k o=true:=by simpa using hb
  obtain⟨_,_,h0,h1⟩:=xm hb'
  have c1:=wQ l none (some k)
  have c2:=wQ l (some (k + ↑o.length)) none
  refine⟨by omega,by omega,by omega,by omega,?_,?_⟩
  ·simp only[am]
   omega
  ·have e:cut l none (some k) ++ n ++ cut l (some (k + ↑o.length)) none=yS l k o n:=by
    rw[ZJ _ h0,qj _ (by omega)]
    have:(k+(o.length:Int)).toNat=k.toNat+o.length:=by omega
    rw[this]
    rfl
   rw[e]
   exact q1 hb'
structure TOrd(K:oO)(mg:Str->Option Value)(CO CR CW:Addr):Prop where
 cO:Cls K CO
 cR:Cls K CR
 cW:Cls K CW
 gO:mg "Order" = some (.ref CO)
 gR:mg "FromRight" = some (.ref CR)
 gW:mg "ByWeights" = some (.ref CW)
 lO:NoAttr K CO "letters"
 lR:NoAttr K CR "letters"
 lW:NoAttr K CW "letters"
 wW:NoAttr K CW "weights"
def OrdAt(CO CR CW:Addr)(H:Hp)(o:Addr)(k:Nat)(l:List Nat)(ns:List Int):Prop:=∃ dx,(k=0/\H o=some (.ins CO dx [("letters",.str (tx l))]))\/(k=1/\H o=some (.ins CR dx [("letters",.str (tx l))])) \/
 (k=2/\ns.length=l.length/\∃ w,H o=some (.ins CW dx [("letters",.str (tx l)),("weights",.ref w)])/\H w=some (.tup (ns.map V.int)))
theorem OrdAt.same{CO CR CW:Addr}{H H':Hp}{o:Addr}{k:Nat}{l:List Nat}{ns:List Int}(h:OrdAt CO CR CW H o k l ns)(e:Same H H'):OrdAt CO CR CW H' o k l ns:=by
 obtain⟨dx,⟨h1,h2⟩ | ⟨h1,h2⟩ | ⟨h1,h2,w,h3,h4⟩⟩:=h
 ·exact⟨dx,.inl ⟨h1,e _ _ h2⟩⟩
 ·exact⟨dx,.inr (.inl ⟨h1,e _ _ h2⟩)⟩
 ·exact⟨dx,.inr (.inr ⟨h1,h2,w,e _ _ h3,e _ _ h4⟩)⟩
def Wy(l:List Nat)(ns:List Int)(w:List Nat):Int:=((l.zip ns).map fun p=>(w.count p.1:Int) * p.2).sum
def zv(k:Nat)(l:List Nat)(ns:List Int)(w:List Nat):Int:=if k=2 then Wy l ns w else (w.length:Int)
def xH(k:Nat)(w:List Nat):List Nat:=if k=1 then w.reverse else w
def qh(K:oO):Sp:=fun vs H Q _=>∃(x C dx:Addr) (l:List Nat),vs=[.ref x,.str (tx l)]/\j4 l=true/\Cls K C/\NoAttr K C "letters"/\H x=some (.ins C dx [])/\Q .non (upd H x (.ins C dx [("letters",.str (tx l))]))
theorem jY:zq ["self","letters"] ["self","letters"] (zb yM):=⟨rfl,rfl,rfl,by decide +kernel,rfl,by decide +kernel,by decide +kernel⟩
theorem wq{f:Addr}{fd:FuncData}(B:Bt mg)(F:Fun K "__init__" "Order.__init__" yM f fd)(nL:Df P w K mg base (CXx P w) 2 "letters_of" ["text"] [] (ww C)):FnOk P w K mg base CX0 3 f fd ["self","letters"] (qh K):=by
 refine F.ok jY (fun vs H Q E h=>?_) (fun cdv A outer s H vs Q E hr h=>?_)
 ·obtain⟨x,C,dx,l,rfl,_⟩:=h
  rfl
 ·obtain⟨x,C,dx,l,rfl,hg,hC,hN,hx,q⟩:=h
  refine⟨_,(zh (Y6 (pv 0) (clP xe0 nL hr .nil rfl (za (pv 1) ze)) rfl)),?_⟩
  have s16:=ym
  rfl'
  exact⟨l,rfl,by have:=of_decide_eq_true hg;omega,fun _=>⟨_,_,_,hx,hC,hN,by decide,q⟩,fun e=>by rw[hg] at e;cases e⟩
def kO:Sp:=fun vs H Q _=>∃(o:Addr) (w:List Nat),vs=[.ref o,.str (tx w)]/\w.length<=1000/\Q (.int (w.length:Nat)) H
theorem qS:zq ["self","word"] ["self","word"] (zb yq):=⟨rfl,rfl,rfl,by decide +kernel,rfl,by decide +kernel,by decide +kernel⟩
theorem wF{f:Addr}{fd:FuncData}(B:Bt mg)(F:Fun K "weight" "Order.weight" yq f fd) : FnOk P w K mg base CX0 1 f fd ["self","word"] kO:=by
 refine F.ok qS (fun vs H Q E h=>?_) (fun cdv A outer s H vs Q E hr h=>?_)
 ·obtain⟨o,w,rfl,_⟩:=h
  rfl
 ·obtain⟨o,w,rfl,hw,q⟩:=h
  refine⟨_,(zh (zx (zp zX rfl B.len aB (za (pv 1) ze)))),?_⟩
  have s16:=ym
  rfl'
  exact⟨by omega,q⟩
def YY:Sp:=fun vs H Q _=>∃(o:Addr) (w:List Nat),vs=[.ref o,.str (tx w)]/\Q (.str (tx w)) H
theorem j0:zq ["self","word"] ["self","word"] (zb yL):=⟨rfl,rfl,rfl,by decide +kernel,rfl,by decide +kernel,by decide +kernel⟩
theorem vO{f:Addr}{fd:FuncData}(B:Bt mg)(F:Fun K "seen" "Order.seen" yL f fd) : FnOk P w K mg base CX0 1 f fd ["self","word"] YY:=by
 refine F.ok j0 (fun vs H Q E h=>?_) (fun cdv A outer s H vs Q E hr h=>?_)
 ·obtain⟨o,w,rfl,_⟩:=h
  rfl
 ·obtain⟨o,w,rfl,q⟩:=h
  refine⟨_,(zh (zx (pv 1))),?_⟩
  have s16:=ym
  rfl'
  exact q
def YF:Sp:=fun vs H Q _=>∃(o:Addr) (w:List Nat),vs=[.ref o,.str (tx w)]/\w.length<=1000/\Q (.str (tx w.reverse)) H
theorem vY:zq ["self","word"] ["self","word"] (zb z6):=⟨rfl,rfl,rfl,by decide +kernel,rfl,by decide +kernel,by decide +kernel⟩
theorem ue{f:Addr}{fd:FuncData}(B:Bt mg)(F:Fun K "seen" "FromRight.seen" z6 f fd) : FnOk P w K mg base CX0 1 f fd ["self","word"] YF:=by
 refine F.ok vY (fun vs H Q E h=>?_) (fun cdv A outer s H vs Q E hr h=>?_)
 ·obtain⟨o,w,rfl,_⟩:=h
  rfl
 ·obtain⟨o,w,rfl,hw,q⟩:=h
  refine⟨_,(zh (zx (KH (pv 1) (zbX zaS zg)))),?_⟩
  have s16:=ym
  repeat (first | rfl' | simp only[yx,zA,zJ,yz,yA,zy])
  exact⟨by omega,q⟩
structure zcF(K:oO)(mg:Str->Option Value)(C:Addr):Prop where
 xi:XI K C
 ini:ah K (.ref C) "__init__" = some (some (.builtin "ValueError.__init__"))
 g:mg "NoOrder" = some (.ref C)
 most:∃ t,mg "MOST_WEIGHT" = some (.int 1000000 t)
abbrev DOI(P:Program)(w:World)(K:oO)(mg:Str->Option Value)(base:Heap)(CO:Addr):Prop:=DC P w K mg base CX0 3 CO "__init__" ["self","letters"] (qh K)
def kT(K:oO)(CW:Addr):Sp:=fun vs H Q _=>∃(x dx a:Addr) (l:List Nat) (ns:List Int),vs=[.ref x,.str (tx l),.ref a]/\j4 l=true/\SqL K H a (ns.map V.int)/\ns.length=l.length/\(∀ n ∈ ns,1<=n/\n<=1000000)/\H x=some (.ins CW dx []) /\
 ∀ w H',H w=none->w≠x->(∀ b o,b≠x->H b=some o->H' b=some o)->H' w=some (.tup (ns.map V.int))->H' x=some (.ins CW dx [("letters",.str (tx l)),("weights",.ref w)])->Q .non H'
theorem iZ:zq ["self","letters","weights","weight"] ["self","letters","weights"] (zb z7):=⟨rfl,rfl,rfl,by decide +kernel,rfl,by decide +kernel,by decide +kernel⟩
theorem uw{f CO CR CW CN:Addr}{fd:FuncData}(B:Bt mg)(T:TOrd K mg CO CR CW)(TN:zcF K mg CN)(DI:DOI P w K mg base CO)(F:Fun K "__init__" "ByWeights.__init__" z7 f fd) : FnOk P w K mg base (CXx P w) 4 f fd ["self","letters","weights"] (kT K CW):=by
 obtain⟨t6,g6⟩:=TN.most
 refine Fun.okX F iZ (fun vs H Q E h=>?_) (fun cdv A outer s H vs Q E hr hx h=>?_)
 ·obtain⟨x,dx,a,l,ns,rfl,_⟩:=h
  rfl
 ·obtain⟨x,dx,a,l,ns,rfl,hg,hS,hl,hb,hX,q⟩:=h
  refine⟨_,(zi (xJ (KO DI hr rfl T.gO (za (pv 0) (za (pv 1) ze))))
   (zi (ya (zI X7 (zp zX rfl B.len aB (za (pv 2) ze)) (zp zX rfl B.len aB (za (pv 1) ze)) (zK _))
    (zh (yU hx rfl TN.xi.toXC TN.ini rfl TN.g (za xT ze)))
    zD)
   (zi (yF PassesOwn.leaving rfl (yC (pv 2)) (zC (i:=3) iZ.nd rfl (Or.inl rfl))
    (zh (ya (yn (kW vF vF zg (pv 3) (xh (v:=.int 1000000) rfl g6 ⟨t6,rfl⟩)))
     (zh (yU hx rfl TN.xi.toXC TN.ini rfl TN.g (za xT ze)))
     zD)))
   (zh (Y6 (pv 0) (xL kX rfl B.tuple PySem.Pv.boot_tuple (za (pv 2) ze)) rfl))))),?_⟩
  have s16:=ym
  have hbx:∀ b o,b≠x->H b=some o->upd H x (.ins CW dx [("letters",.str (tx l))]) b=some o:=fun b o hb e=>by rw[zo hb];exact e
  have hS1:SqL K (upd H x (.ins CW dx [("letters",.str (tx l))])) a (ns.map V.int):=by
   rcases hS with (h | ⟨o,h⟩) | h
   ·exact .inl (.inl (hbx _ _ (fun e=>by rw[e,hX] at h;cases h) h))
   ·exact .inl (.inr ⟨o,hbx _ _ (fun e=>by rw[e,hX] at h;cases h) h⟩)
   ·exact .inr h
  refine zj (fun σ H'=>H'=upd H x (.ins CW dx [("letters",.str (tx l))])/\σ=[some (.ref x),some (.str (tx l)),some (.ref a),none]) ?_ ?_
  ·repeat (first | rfl' | simp only[yx,zA,zJ,yz,yA,zy])
   exact⟨x,CW,dx,l,rfl,hg,T.cW,T.lW,hX,rfl⟩
  rintro σ H1 ⟨rfl,rfl⟩
  refine zj (fun σ H'=>H'=upd H x (.ins CW dx [("letters",.str (tx l))])/\σ=[some (.ref x),some (.str (tx l)),some (.ref a),none]) ?_ ?_
  ·have hl6:l.length<=6:=by have:=of_decide_eq_true hg;omega
   repeat (first | rfl' | simp only[yx,zA,zJ,yz,yA,zy])
   refine⟨ns.length,.inl ⟨_,hS1,by rw[ae]⟩,by omega,xj (fun h=>absurd (by omega) h) fun _=>trivial⟩
  rintro σ H1 ⟨rfl,rfl⟩
  refine zj (fun σ H'=>H'=upd H x (.ins CW dx [("letters",.str (tx l))])/\∃ v3,σ=[some (.ref x),some (.str (tx l)),some (.ref a),v3]) ?_ ?_
  ·repeat (first | rfl' | simp only[yx,zA,zJ,yz,yA,zy])
   refine⟨⟨_,hS1⟩,ForL.by (xs:=ns.map V.int) (fun i σ H'=>H'=upd H x (.ins CW dx [("letters",.str (tx l))])/\∃ v3,σ=[some (.ref x),some (.str (tx l)),some (.ref a),v3]) ⟨rfl,none,rfl⟩ (fun i σ H' _ h=>by rw[h.1];exact hS1) ?_ fun σ H' h=>h⟩
   rintro i y σ H' hy ⟨rfl,v3,rfl⟩
   rw[aG] at hy
   obtain⟨n,hn,rfl⟩:=Option.map_eq_some_iff.mp hy
   obtain⟨n1,n2⟩:=hb n (af hn)
   repeat (first | rfl' | simp only[yx,zA,zJ,yz,yA,zy])
   exact xj (fun _=>xj (fun h=>absurd n2 h) fun _=>trivial) fun h=>absurd n1 h
  rintro σ H1 ⟨rfl,v3,rfl⟩
  repeat (first | rfl' | simp only[yx,zA,zJ,yz,yA,zy])
  refine⟨_,.inl ⟨hS1,fun w hw=>?_⟩⟩
  have hwx:w≠x:=fun e=>by rw[e,zf] at hw;cases hw
  have hwH:H w=none:=by rw[zo hwx] at hw;exact hw
  have hX2:=zd (o:=.tup (ns.map V.int)) hw _ _ (zf (H:=H) (a:=x) (o:=.ins CW dx [("letters",.str (tx l))]))
  refine⟨_,_,_,hX2,T.cW,T.wW,by show 1<1000;decide,q w _ hwH hwx (fun b o hb' e=>?_) ?_ zf⟩
  ·rw[zo hb']
   exact zd hw _ _ (hbx b o hb' e)
  ·rw[zo hwx]
   exact zf
theorem Q4{x y:V}{r:L2.St}:xu (none::none::r) (some x::some y::r):=⟨rfl,fun i v h=>by
 cases i with
 | zero=>cases h
 | succ i =>
  cases i with
  | zero=>cases h
  | succ i=>exact h⟩
def Yt(CW:Addr):Sp:=fun vs H Q _=>∃(o dx t:Addr) (w l:List Nat) (ns:List Int),vs=[.ref o,.str (tx w)]/\w.length<=1000/\l.length<=6/\ns.length=l.length/\(∀ n ∈ ns,1<=n/\n<=1000000)/\H o=some (.ins CW dx [("letters",.str (tx l)),("weights",.ref t)])/\H t=some (.tup (ns.map V.int))/\∀ H',Same H H'->Q (.int (Wy l ns w)) H'
theorem vv:zq ["self","word"] ["self","word"] (zb zM):=⟨rfl,rfl,rfl,by decide +kernel,rfl,by decide +kernel,by decide +kernel⟩
theorem vx{f CO CR CW:Addr}{fd:FuncData}(B:Bt mg)(T:TOrd K mg CO CR CW)(F:Fun K "weight" "ByWeights.weight" zM f fd) : FnOk P w K mg base CX0 1 f fd ["self","word"] (Yt CW):=by
 refine F.ok vv (fun vs H Q E h=>?_) (fun cdv A outer s H vs Q E hr h=>?_)
 ·obtain⟨o,dx,t,w,l,ns,rfl,_⟩:=h
  rfl
 ·obtain⟨o,dx,t,w,l,ns,rfl,hw,hl,hn,hb,ho,ht,q⟩:=h
  refine⟨_,(zh (zx (zp (zcd rfl) rfl B.sum PyProof.Rows.boot_sum (za (xY (g:=K8 K 2 (km (xA 0) (km (xA 1) zad))) (own:=["letter","weight"]) (caps:=["word"]) (ix:=[1]) (tt:=vT) (te:=(tOp K5 (tBM K "str" Vj (xx 2) (zP (xx 0) vf)) (xx 1))) rfl (yb (sc:=zb zM) rfl (by decide +kernel) (by decide +kernel) (by decide +kernel) rfl (by decide +kernel) (by decide +kernel) rfl) (zbn rfl B.zip (za (Xz (pv 0) rfl) (za (Xz (pv 0) rfl) ze))) (fun _ _ _ _ _ _=>uC (n:=2) rfl (z8 (zC (i:=0) (show List.Nodup [_,_,_] by decide) rfl (Or.inl rfl)) (z8 (zC (i:=1) (show List.Nodup [_,_,_] by decide) rfl (Or.inl rfl)) wT))) (fun _ _ _ _ _ _=>xv) (fun _ _ _ _ _ _=>(zB Kb (vR cP eL eM WE (pv 2) (za (pv 0) ze)) (pv 1)))) ze)))),?_⟩
  have s16:=ym
  repeat (first | rfl' | simp only[yx,zA,zJ,yz,yA,zy])
  refine⟨_,_,_,ho,T.cW,T.lW,_,rfl,_,_,_,ho,T.cW,T.wW,_,rfl,l,rfl,t,rfl,⟨_,SqT.of ht⟩,fun D hD=>CompZ.by (ys:=ns.map V.int) (fun i acc H'=>Same H H'/\H' D=some (.lst acc)/\acc=((((l.zip ns).map fun p=>(w.count p.1:Int) * p.2).take i).map V.int)) (by rw[ae];omega) ⟨zd hD,zf,rfl⟩ (fun i acc H' _ h=>SqT.of (h.1 _ _ ht)) ?_ ?_⟩
  ·rintro i c y acc H' p hc hy ⟨hs,hH,rfl⟩ hp
   have hi:=(List.getElem?_eq_some_iff.mp hc).1
   rw[aG] at hy
   obtain⟨n,hn',rfl⟩:=Option.map_eq_some_iff.mp hy
   have hz:((l.zip ns).map fun p=>(w.count p.1:Int) * p.2)[i]? = some ((w.count c:Int) * n):=by
    rw[aG,(List.getElem?_zip_eq_some (z:=(c,n))).mpr ⟨hc,hn'⟩]
    rfl
   obtain⟨n1,n2⟩:=hb n (af hn')
   have hcl:w.count c<=w.length:=List.count_le_length
   have hcn:(w.count c:Int) * n=(w.count c:Int) * n:=rfl
   simp only[vT]
   repeat (first | rfl' | simp only[yx,zA,zJ,yz,yA,zy])
   refine⟨_,SqT.of zf,rfl,_,_,rfl,_,_,rfl,rfl,Q4,_,rfl,_,rfl,?_,zd hp _ _ hH,by rw[ae,aK];omega,?_⟩
   ·exact .inr ⟨by omega,by omega⟩
   ·rw[VY]
    refine CNx.mk hi ⟨zG (hs.trans (zd hp)) hD,zf,?_⟩
    rw[zW hz,aH]
    rfl
  ·rintro acc H' ⟨hs,hH,rfl⟩
   have e:l.length=((l.zip ns).map fun p=>(w.count p.1:Int) * p.2).length:=by rw[ae,List.length_zip];omega
   refine⟨D,rfl,_,SqL.of hH,?_⟩
   rw[e,aQ]
   exact q _ hs
theorem zck(l:List Nat)(c e:Nat):StrLaws.At (tx l) (tx [c]) (tx l).length e ↔ l[e]? = some c:=by
 unfold StrLaws.At Builtin.Str.subAt
 rw[ye,ye]
 have h1:[c].length=1:=rfl
 rw[h1,beq_iff_eq]
 have e1:((tx l).cps.extract e (e+1)).toList=(l.drop e).take 1:=by
  show (l.toArray.extract e (e+1)).toList=_
  simp [dX]
 have e2:((tx l).cps.extract e (e+1)=(tx [c]).cps) ↔ (l.drop e).take 1=[c]:=by
  constructor
  ·intro h
   rw[<- e1,h]
  ·intro h
   apply Array.toList_inj.mp
   rw[e1,h]
 constructor
 ·rintro⟨h2,h3⟩
  have:=e2.mp h3
  rw[aV (by omega),dF,bA] at this
  rw[al (by omega)]
  injection this with h _
  rw[h]
 ·intro h
  obtain⟨he,hx⟩:=List.getElem?_eq_some_iff.mp h
  refine⟨by omega,e2.mpr ?_⟩
  rw[aV he,dF,bA,hx]
theorem zbg{l:List Nat}{c:Nat}(h:c ∈ l):Txt.find (tx l) (tx [c])=((l.idxOf c:Nat):Int):=by
 have hlt:=cq h
 have hg:l[l.idxOf c]? = some c:=by rw[al hlt,dL]
 rcases PyProof.Rows.find_whole (tx l) (tx [c]) with ⟨h1,h2⟩ | ⟨e,h1,h2,h3⟩
 ·exact absurd ((zck l c _).mpr hg) (h2 _)
 ·have he:=(zck l c e).mp h2
  have:e=l.idxOf c:=by
   rcases dU e (l.idxOf c) with q | q | q
   ·have:=List.not_of_lt_findIdx (p:=(· == c)) q
    obtain⟨h4,h5⟩:=List.getElem?_eq_some_iff.mp he
    simp [h5] at this
   ·exact q
   ·exact absurd ((zck l c _).mpr hg) (h3 _ q)
  rw[h1,this]
abbrev MkO(P:Program)(w:World)(K:oO)(mg:Str->Option Value)(base:Heap)(C:Addr):Prop:=DMk P w K mg base CX0 3 C ["self","letters"] (qh K)
abbrev MkW(P:Program)(w:World)(K:oO)(mg:Str->Option Value)(base:Heap)(C:Addr):Prop:=DMk P w K mg base (CXx P w) 4 C ["self","letters","weights"] (kT K C)
abbrev MW(P:Program)(w:World)(K:oO)(mg:Str->Option Value)(base:Heap)(C:Addr)(m:Str)(sp:Sp):Prop:=DM P w K mg base CX0 1 C m ["self","word"] sp
structure TWS(P:Program)(w:World)(K:oO)(mg:Str->Option Value)(base:Heap)(CO CR CW:Addr):Prop extends TOrd K mg CO CR CW where
 mO:MkO P w K mg base CO
 mR:MkO P w K mg base CR
 mW:MkW P w K mg base CW
 wO:MW P w K mg base CO "weight" kO
 wR:MW P w K mg base CR "weight" kO
 wW':MW P w K mg base CW "weight" (Yt CW)
 sO:MW P w K mg base CO "seen" YY
 sR:MW P w K mg base CR "seen" YF
 sW:MW P w K mg base CW "seen" YY
structure OG(l:List Nat)(ns:List Int)(k:Nat):Prop where
 g:j4 l=true
 k3:k<3
 nl:ns.length=l.length
 nb:∀ n ∈ ns,1<=n/\n<=1000000
def jn(l:List Nat)(w:List Nat):List Int:=w.map fun c=>((l.idxOf c:Nat):Int)
def qK(k:Nat)(l:List Nat)(w:List Nat):List Int:=jn l (xH k w)
def za7(CO CR CW:Addr):Addr->Prop:=fun C=>C=CO\/C=CR\/C=CW
theorem OrdAt.fam{CO CR CW:Addr}{H:Hp}{o:Addr}{k:Nat}{l:List Nat}{ns:List Int}(h:OrdAt CO CR CW H o k l ns):∃ C dx fs,za7 CO CR CW C/\H o=some (.ins C dx fs)/\(∀ m:Str,m≠"letters"->m≠"weights"->fs.lookup m=none)/\fs.lookup ("letters" : Str)=some (V.str (tx l)):=by
 have e1:∀ m:Str,m≠"letters"->(m == ("letters" : Str))=false:=fun m hm=>by simpa using hm
 have e2:∀ m:Str,m≠"weights"->(m == ("weights" : Str))=false:=fun m hm=>by simpa using hm
 obtain⟨dx,⟨h1,h2⟩ | ⟨h1,h2⟩ | ⟨h1,h2,w,h3,h4⟩⟩:=h
 ·exact⟨_,_,_,.inl rfl,h2,fun m hm _=>by simp [bq,e1 m hm],rfl⟩
 ·exact⟨_,_,_,.inr (.inl rfl),h2,fun m hm _=>by simp [bq,e1 m hm],rfl⟩
 ·exact⟨_,_,_,.inr (.inr rfl),h3,fun m hm hm2=>by simp [bq,e1 m hm,e2 m hm2],rfl⟩
def qo(CO CR CW:Addr):Sp:=fun vs H Q _=>∃(o:Addr) (k:Nat) (l:List Nat) (ns:List Int) (w:List Nat),vs=[.ref o,.str (tx w)]/\OrdAt CO CR CW H o k l ns/\OG l ns k/\w.length<=1000/\(∀ c ∈ w,c ∈ l)/\∀(p q:Addr) (H':Hp),Same H H'->H' p=some (.tup [.int (zv k l ns w),.ref q])->H' q=some (.lst ((qK k l w).map V.int))->Q (.ref p) H'
theorem QC{H:Hp}{CO CR CW o D:Addr}{k:Nat}{l:List Nat}{ns:List Int}{v:List Nat}{a1:Option V}{Q:VK}(T:TOrd K mg CO CR CW)(ho:OrdAt CO CR CW H o k l ns)(hl:v.length<=1000)(hm:∀ c ∈ v,c ∈ l)(hD:H D=none)(q:∀ H',Same H H'->H' D=some (.lst ((jn l v).map V.int))->Q (.ref D) H') :
  CompS (tx v) (xA 0) vT (tBM K "str" zy (zal K (xx 1) "letters") (zP (xx 0) vf)) 1 [0] [some (.ref o),a1] H Q D:=by
 have s16:=ym
 refine CompS.by (fun i acc H'=>Same H H'/\H' D=some (.lst acc)/\acc=(jn l (v.take i)).map V.int) ⟨zd hD,zf,rfl⟩ ?_ ?_
 ·rintro i c acc H' hc ⟨hs,hH,rfl⟩
  have hci:=(List.getElem?_eq_some_iff.mp hc).1
  have hcl:=hm c (af hc)
  obtain⟨C,dx,fs,hf,ho',_,hlk⟩:=(ho.same hs).fam
  have hC:Cls K C/\NoAttr K C "letters":=by
   rcases hf with rfl | rfl | rfl
   ·exact⟨T.cO,T.lO⟩
   ·exact⟨T.cR,T.lR⟩
   ·exact⟨T.cW,T.lW⟩
  simp only[vT]
  repeat (first | rfl' | simp only[yx,zA,zJ,yz,yA,zy])
  refine⟨wD,_,_,_,ho',hC.1,hC.2,_,hlk,trivial,_,rfl,_,zbg hcl,hH,by rw[ae];unfold jn;rw[ae,aK];omega,CNx.mk hci ⟨zG hs hD,zf,?_⟩⟩
  unfold jn
  rw[zW hc,aH,aH]
  rfl
 ·rintro acc H' ⟨hs,hH,rfl⟩
  rw[aQ] at hH
  exact q H' hs hH
theorem ku:zq ["self","word"] ["self","word"] (zb yD):=⟨rfl,rfl,rfl,by decide +kernel,rfl,by decide +kernel,by decide +kernel⟩
theorem wB{f CO CR CW:Addr}{fd:FuncData}(B:Bt mg)(T:TWS P w K mg base CO CR CW)(F:Fun K "rank" "Order.rank" yD f fd) : FnOk P w K mg base CX0 2 f fd ["self","word"] (qo CO CR CW):=by
 refine F.ok ku (fun vs H Q E h=>?_) (fun cdv A outer s H vs Q E hr h=>?_)
 ·obtain⟨o,k,l,ns,w,rfl,_⟩:=h
  rfl
 ·obtain⟨o,k,l,ns,w,rfl,ho,hG,hw,hm,q⟩:=h
  refine⟨_,(zh (zx (z9 (za (zam T.wO T.wR T.wW' T.cO T.cR T.cW hr (pv 0) (za (pv 1) ze)) (za (xY (own:=["letter"]) (caps:=["self"]) (ix:=[0]) (tt:=vT) (te:=(tBM K "str" zy (zal K (xx 1) "letters") (zP (xx 0) vf))) rfl (yb (sc:=zb yD) rfl (by decide +kernel) (by decide +kernel) (by decide +kernel) rfl (by decide +kernel) (by decide +kernel) rfl) (Jk (zam T.sO T.sR T.sW T.cO T.cR T.cW hr (pv 0) (za (pv 1) ze))) (fun _ _ _ _ _ _=>zC (i:=0) (show List.Nodup [_,_] by decide) rfl (Or.inl rfl)) (fun _ _ _ _ _ _=>xv) (fun _ _ _ _ _ _=>(vR cP PySem.F.slot_str_index PySem.F.type_str_index J4 (Xz (pv 1) rfl) (za (pv 0) ze)))) ze))))),?_⟩
  have s16:=ym
  have hsl:(xH k w).length<=1000:=by
   unfold xH
   split
   ·rw[eX]
    exact hw
   ·exact hw
  have hsm:∀ c ∈ xH k w,c ∈ l:=fun c hc=>by
   unfold xH at hc
   split at hc
   ·exact hm c (List.mem_reverse.mp hc)
   ·exact hm c hc
  have l6:l.length<=6:=(of_decide_eq_true hG.g).2.1
  have fin:∀ H1,Same H H1->∀ D,H1 D=none->CompS (tx (xH k w)) (xA 0) vT (tBM K "str" zy (zal K (xx 1) "letters") (zP (xx 0) vf)) 1 [0] [some (.ref o),some (.str (tx w))] H1 (fun x5 H1=>2<=oN/\∀ p,H1 p=none->Q (.ref p) (upd H1 p (.tup [.int (zv k l ns w),x5]))) D:=fun H1 s1 D hD=>QC T.toTOrd (ho.same s1) hsl hsm hD fun H' s' hH=>⟨by omega,fun p hp=>q p D _ (s1.trans (s'.trans (zd hp))) zf (zd hp _ _ hH)⟩
  repeat (first | rfl' | simp only[yx,zA,zJ,yz,yA,zy])
  obtain⟨dx',⟨h1,h2⟩ | ⟨h1,h2⟩ | ⟨h1,h2,t',h3,h4⟩⟩:=id ho
  ·have e1:zv k l ns w=(w.length:Int):=by unfold zv;rw[if_neg (by omega)]
   have e2:xH k w=w:=by unfold xH;rw[if_neg (by omega)]
   rw[e1,e2] at fin
   exact .inl ⟨_,_,h2,rfl,o,w,rfl,hw,.inl ⟨_,_,h2,rfl,o,w,rfl,_,rfl,fin H (Same.refl _)⟩⟩
  ·have e1:zv k l ns w=(w.length:Int):=by unfold zv;rw[if_neg (by omega)]
   have e2:xH k w=w.reverse:=by unfold xH;rw[if_pos h1]
   rw[e1,e2] at fin
   exact .inr (.inl ⟨_,_,h2,rfl,o,w,rfl,hw,.inr (.inl ⟨_,_,h2,rfl,o,w,rfl,hw,_,rfl,fin H (Same.refl _)⟩)⟩)
  ·have e1:zv k l ns w=Wy l ns w:=by unfold zv;rw[if_pos h1]
   have e2:xH k w=w:=by unfold xH;rw[if_neg (by omega)]
   rw[e1,e2] at fin
   exact .inr (.inr ⟨_,_,h3,rfl,o,dx',t',w,l,ns,rfl,hw,l6,hG.nl,hG.nb,h3,h4,fun H' s'=>.inr (.inr ⟨_,_,s' _ _ h3,rfl,o,w,rfl,_,rfl,fin H' s'⟩)⟩)
def zL(k:Nat)(l:List Nat)(ns:List Int)(u v:List Nat):Bool:=if zv k l ns u=zv k l ns v then ltI (qK k l u) (qK k l v) else decide (zv k l ns u<zv k l ns v)
abbrev DR(P:Program)(w:World)(K:oO)(mg:Str->Option Value)(base:Heap)(CO CR CW:Addr):Prop:=DMF P w K mg base CX0 2 (za7 CO CR CW) "rank" ["self","word"] (fun _=>qo CO CR CW)
theorem kE{H:Hp}{p q:Addr}{z:Int}{ns:List Int}(hp:H p=some (.tup [.int z,.ref q]))(hq:H q=some (.lst (ns.map V.int))):Is K H (.tup [.int z,.lst (ns.map L3.D.int)]) (.ref p):=by
 simp only[Is,Iss]
 exact⟨p,_,rfl,SqT.of hp,_,_,rfl,rfl,_,_,rfl,⟨q,_,rfl,SqL.of hq,Iss.ints ns⟩,rfl⟩
theorem xD:∀ x:List Int,ltI x x=false
 | []=>rfl
 | a::x=>by
  rw[ltI,if_pos rfl]
  exact xD x
theorem Uw(a b:Int)(x y:List Int):ltD (.tup [.int a,.lst (x.map L3.D.int)]) (.tup [.int b,.lst (y.map L3.D.int)])=if a=b then ltI x y else decide (a<b):=by
 simp only[ltD,uf,eqD,Z3,Zk]
 by_cases h:a=b
 ·subst h
  by_cases h2:x=y
  ·subst h2
   simp [xD]
  ·simp [h2]
 ·simp [h]
def WB(CO CR CW:Addr):Sp:=fun vs H Q _=>∃(o:Addr) (k:Nat) (l:List Nat) (ns:List Int) (u v:List Nat),vs=[.ref o,.str (tx u),.str (tx v)]/\OrdAt CO CR CW H o k l ns/\OG l ns k/\u.length<=1000/\v.length<=1000/\(∀ c ∈ u,c ∈ l)/\(∀ c ∈ v,c ∈ l)/\∀ H':Hp,Same H H'->Q (.bl (zL k l ns u v)) H'
theorem qH:zq ["self","one","other"] ["self","one","other"] (zb yt):=⟨rfl,rfl,rfl,by decide +kernel,rfl,by decide +kernel,by decide +kernel⟩
theorem xN{f CO CR CW:Addr}{fd:FuncData}(B:Bt mg)(DRk:DR P w K mg base CO CR CW)(F:Fun K "before" "Order.before" yt f fd) : FnOk P w K mg base CX0 3 f fd ["self","one","other"] (WB CO CR CW):=by
 refine F.ok qH (fun vs H Q E h=>?_) (fun cdv A outer s H vs Q E hr h=>?_)
 ·obtain⟨o,k,l,ns,u,v,rfl,_⟩:=h
  rfl
 ·obtain⟨o,k,l,ns,u,v,rfl,ho,hG,hu,hv,hmu,hmv,q⟩:=h
  refine⟨_,(zh (zx (ui (zaz (Yi hr)) (zaf DRk hr (pv 0) (za (pv 1) ze)) (zaf DRk hr (pv 0) (za (pv 2) ze)) (zK _)))),?_⟩
  have s16:=ym
  repeat (first | rfl' | simp only[yx,zA,zJ,yz,yA,zy])
  obtain⟨C,dx,fs,hf,ho1,hn,_⟩:=ho.fam
  have h1:fs.lookup ("rank" : Str)=none:=hn _ (by decide) (by decide)
  refine⟨C,hf,dx,fs,ho1,h1,o,k,l,ns,u,rfl,ho,hG,hu,hmu,fun p x H1 s1 hp hx=>⟨C,hf,dx,fs,s1 _ _ ho1,h1,o,k,l,ns,v,rfl,ho.same s1,hG,hv,hmv,fun p' x' H2 s2 hp' hx'=>?_⟩⟩
  refine JN (kE (s2 _ _ hp) (s2 _ _ hx)) (kE hp' hx') (by simp only[dpD,qb,Yn];decide) (by simp only[okD,kj];exact⟨trivial,jl _ _,trivial⟩) ?_
  rw[Uw]
  exact q H2 (s1.trans s2)
abbrev DB(P:Program)(w:World)(K:oO)(mg:Str->Option Value)(base:Heap)(CO CR CW:Addr):Prop:=DMF P w K mg base CX0 3 (za7 CO CR CW) "before" ["self","one","other"] (fun _=>WB CO CR CW)
def Q5(k:Int)(ls:List Nat)(ns:List Int)(w:List Nat):Int:=(w.map fun c=>if k=2 then ns.getD (ls.idxOf c) 0 else 1).sum
theorem UN{k:Int}{ls:List Nat}{ns:List Int}{w:List Nat}(h:k≠2):Q5 k ls ns w=(w.length:Int):=by
 unfold Q5
 induction w with
 | nil=>rfl
 | cons c w ih =>
  rw[aC,bt,ih,if_neg h,aM]
  omega
theorem jc{ls:List Nat}{ns:List Int}(f g:Nat->Int):((ls.zip ns).map fun p=>(f p.1+g p.1) * p.2).sum=((ls.zip ns).map fun p=>f p.1 * p.2).sum+((ls.zip ns).map fun p=>g p.1 * p.2).sum:=by
 induction ls.zip ns with
 | nil=>rfl
 | cons p r ih =>
  rw[aC,aC,aC,bt,bt,bt,ih,Int.add_mul]
  omega
theorem V7:∀{ls:List Nat} {ns:List Int} {c:Nat},ls.Nodup->ns.length=ls.length->c ∈ ls->((ls.zip ns).map fun p=>(if p.1=c then (1:Int) else 0) * p.2).sum=ns.getD (ls.idxOf c) 0
 | [],ns,c,_,_,hc=>(nomatch hc)
 | d::ls,[],c,_,hl,_=>by cases hl
 | d::ls,n::ns,c,hn,hl,hc=>by
  rw[dg,aC,bt]
  have hnd:=List.nodup_cons.mp hn
  by_cases h:d=c
  ·subst h
   have h0:∀(l:List Nat) (m:List Int),d ∉ l->((l.zip m).map fun p=>(if p.1=d then (1:Int) else 0) * p.2).sum=0:=by
    intro l
    induction l with
    | nil=>intro m _;rfl
    | cons x l ih =>
     intro m hx
     cases m with
     | nil=>rfl
     | cons y m =>
      rw[dg,aC,bt,ih m (fun q=>hx (aw _ q)),if_neg (show ¬ x=d from fun e=>hx (by rw[e];exact az))]
      omega
   rw[h0 ls ns hnd.1,if_pos rfl,List.idxOf_cons_self]
   simp
  ·have hc':c ∈ ls:=by
    rcases List.mem_cons.mp hc with e | e
    ·exact absurd e.symm h
    ·exact e
   rw[V7 hnd.2 (by simpa using hl) hc',if_neg h,List.idxOf_cons,show (d == c)=false by simpa using h]
   simp
theorem XJ{ls:List Nat}{ns:List Int}(hn:ls.Nodup)(hl:ns.length=ls.length):∀{w:List Nat},(∀ x ∈ w,x ∈ ls)->Q5 2 ls ns w=Wy ls ns w
 | [],_=>by
  have h0:∀ r:List (Nat × Int),(r.map fun p=>((([]:List Nat).count p.1:Nat):Int) * p.2).sum=0:=by
   intro r
   induction r with
   | nil=>rfl
   | cons p r ih=>rw[aC,bt,ih];simp
  exact (h0 _).symm
 | c::w,h=>by
  have ih:=XJ hn hl (w:=w) fun x hx=>h x (aw _ hx)
  have e1:Q5 2 ls ns (c::w)=ns.getD (ls.idxOf c) 0+Q5 2 ls ns w:=by
   unfold Q5
   rw[aC,bt,if_pos rfl]
  rw[e1,ih,<- V7 hn hl (h c az)]
  unfold Wy
  rw[<- jc (fun x=>if x=c then 1 else 0) (fun x=>(w.count x:Int))]
  refine congrArg List.sum (cF fun p _=>?_)
  rw[List.count_cons]
  by_cases e:c=p.1
  ·rw[if_pos e.symm,if_pos (by simpa using e)]
   simp [Int.add_comm]
  ·rw[if_neg (fun z=>e z.symm),if_neg (by simpa using e)]
   simp
def wt(k:Nat)(ns:List Int)(i:Int):Int:=if k=2 then ns.getD i.toNat 0 else 1
theorem wo{g:Int->Int}:∀{x:List Int},(∀ i ∈ x,0<g i)->0<=(x.map g).sum
 | [],_=>by simp
 | a::x,h=>by
  have h1:=h a az
  have h2:=wo (x:=x) fun i hi=>h i (aw _ hi)
  rw[aC,bt]
  omega
theorem wL:∀{x y:List Int},x≠y->ltI x y=!ltI y x
 | [],[],h=>absurd rfl h
 | [],_::_,_=>rfl
 | _::_,[],_=>rfl
 | a::x,b::y,h=>by
  rw[ltI,ltI]
  by_cases e:a=b
  ·rw[if_pos e,if_pos e.symm]
   exact wL fun q=>h (by rw[e,q])
  ·rw[if_neg e,if_neg fun q=>e q.symm]
   by_cases c:a<b
   ·rw[decide_eq_true c,decide_eq_false (by omega)]
    rfl
   ·rw[decide_eq_false c,decide_eq_true (by omega)]
    rfl
theorem qN:∀{x y z:List Int},ltI x y=true->ltI y z=true->ltI x z=true
 | [],[],_,h,_=>by cases h
 | [],_::_,[],_,h=>by cases h
 | [],_::_,_::_,_,_=>rfl
 | _::_,[],_,h,_=>by cases h
 | _::_,_::_,[],_,h=>by cases h
 | a::x,b::y,c::z,h1,h2=>by
  rw[ltI] at h1 h2 ⊢
  by_cases e:a=b
  ·subst e
   rw[if_pos rfl] at h1
   by_cases f:a=c
   ·rw[if_pos f] at h2 ⊢
    exact qN h1 h2
   ·rw[if_neg f] at h2 ⊢
    exact h2
  ·rw[if_neg e] at h1
   have h1':=of_decide_eq_true h1
   by_cases f:b=c
   ·subst f
    rw[if_neg e]
    exact h1
   ·rw[if_neg f] at h2
    have h2':=of_decide_eq_true h2
    rw[if_neg (by omega)]
    exact decide_eq_true (by omega)
theorem YA:∀(c x y:List Int),ltI (c ++ x) (c ++ y)=ltI x y
 | [],_,_=>rfl
 | a::c,x,y=>by
  rw[bF,bF,ltI,if_pos rfl]
  exact YA c x y
theorem XD{g:Int->Int}{c:List Int}:∀{x y:List Int},(∀ i ∈ x,0<g i)->(∀ i ∈ y,0<g i)->(x.map g).sum=(y.map g).sum->ltI (x ++ c) (y ++ c)=ltI x y
 | [],[],_,_,_=>xD c
 | [],b::y,_,hy,h=>by
  have h1:=hy b az
  have h2:=wo (x:=y) fun i hi=>hy i (aw _ hi)
  rw[aC,bt,aN,List.sum_nil] at h
  omega
 | a::x,[],hx,_,h=>by
  have h1:=hx a az
  have h2:=wo (x:=x) fun i hi=>hx i (aw _ hi)
  rw[aC,bt,aN,List.sum_nil] at h
  omega
 | a::x,b::y,hx,hy,h=>by
  rw[bF,bF,ltI,ltI]
  by_cases e:a=b
  ·rw[if_pos e,if_pos e]
   rw[aC,bt,aC,bt,e] at h
   exact XD (fun i hi=>hx i (aw _ hi)) (fun i hi=>hy i (aw _ hi)) (by omega)
  ·rw[if_neg e,if_neg e]
section
variable{k:Nat}{l:List Nat}{ns:List Int}{t u v:List Nat}
theorem QO(a b:List Nat):Wy l ns (a ++ b)=Wy l ns a+Wy l ns b:=by
 unfold Wy
 rw[<- jc (fun x=>(a.count x:Int)) (fun x=>(b.count x:Int))]
 refine congrArg List.sum (cF fun p _=>?_)
 rw[List.count_append]
 simp
theorem xf(a b:List Nat):zv k l ns (a ++ b)=zv k l ns a+zv k l ns b:=by
 unfold zv
 by_cases h:k=2
 ·rw[if_pos h,if_pos h,if_pos h,QO]
 ·rw[if_neg h,if_neg h,if_neg h,am]
  omega
theorem xC(G:OG l ns k):∀{w:List Nat},(∀ c ∈ w,c ∈ l)->zv k l ns w=((jn l w).map (wt k ns)).sum:=by
 intro w hm
 have hn:l.Nodup:=(of_decide_eq_true G.g).2.2.2
 have e:((jn l w).map (wt k ns)).sum=Q5 (k:Int) l ns w:=by
  unfold jn Q5
  rw[dw]
  refine congrArg List.sum (cF fun c _=>?_)
  show wt k ns _=_
  unfold wt
  by_cases h:k=2
  ·rw[if_pos h,if_pos (by omega),aX]
  ·rw[if_neg h,if_neg (by omega)]
 rw[e]
 unfold zv
 by_cases h:k=2
 ·rw[if_pos h,h]
  exact (XJ hn G.nl hm).symm
 ·rw[if_neg h,UN (by omega)]
theorem Zn(G:OG l ns k)(hm:∀ c ∈ u,c ∈ l):∀ i ∈ jn l u,0<wt k ns i:=by
 intro i hi
 obtain⟨c,hc,rfl⟩:=List.mem_map.mp hi
 have hlt:=cq (hm c hc)
 have hl:=G.nl
 unfold wt
 split
 ·rw[aX,ac,al (by omega)]
  have:=(G.nb _ (List.getElem_mem (l:=ns) (n:=l.idxOf c) (by omega))).1
  show 0<ns[l.idxOf c]
  omega
 ·decide
theorem wy(G:OG l ns k)(hm:∀ c ∈ u,c ∈ l):0<=zv k l ns u:=by
 rw[xC G hm]
 exact wo (Zn G hm)
theorem uk(G:OG l ns k)(hm:∀ c ∈ u,c ∈ l)(h:u≠[]):0<zv k l ns u:=by
 cases u with
 | nil=>exact absurd rfl h
 | cons a u =>
  have h1:=Zn G hm (l.idxOf a:Nat) (List.mem_map.mpr ⟨a,az,rfl⟩)
  have h2:0<=((jn l u).map (wt k ns)).sum:=wo (Zn (u:=u) G fun c hc=>hm c (aw _ hc))
  rw[xC G hm]
  show 0<((((l.idxOf a:Nat):Int)::jn l u).map (wt k ns)).sum
  rw[aC,bt]
  omega
theorem Zb:∀{u v:List Nat},(∀ c ∈ u,c ∈ l)->(∀ c ∈ v,c ∈ l)->jn l u=jn l v->u=v
 | [],[],_,_,_=>rfl
 | [],_::_,_,_,h=>by cases h
 | _::_,[],_,_,h=>by cases h
 | a::u,b::v,hu,hv,h=>by
  unfold jn at h
  rw[aC,aC] at h
  injection h with h1 h2
  have h3:l.idxOf a=l.idxOf b:=by omega
  have ha:=dL (cq (hu a az))
  have hb:=dL (cq (hv b az))
  have:a=b:=by
   rw[<- ha,<- hb]
   simp only[h3]
  rw[this,Zb (fun c hc=>hu c (aw _ hc)) (fun c hc=>hv c (aw _ hc)) h2]
theorem yj:zL k l ns u u=false:=by
 unfold zL
 rw[if_pos rfl,xD]
theorem Xl(hu:∀ c ∈ u,c ∈ l)(hv:∀ c ∈ v,c ∈ l)(h:qK k l u=qK k l v):u=v:=by
 unfold qK xH at h
 by_cases e:k=1
 ·rw[if_pos e,if_pos e] at h
  exact List.reverse_inj.mp (Zb (fun c hc=>hu c (List.mem_reverse.mp hc)) (fun c hc=>hv c (List.mem_reverse.mp hc)) h)
 ·rw[if_neg e,if_neg e] at h
  exact Zb hu hv h
theorem qp(hu:∀ c ∈ u,c ∈ l)(hv:∀ c ∈ v,c ∈ l)(h:u≠v):zL k l ns u v=!zL k l ns v u:=by
 unfold zL
 by_cases e:zv k l ns u=zv k l ns v
 ·rw[if_pos e,if_pos e.symm]
  exact wL fun q=>h (Xl hu hv q)
 ·rw[if_neg e,if_neg fun q=>e q.symm]
  by_cases c:zv k l ns u<zv k l ns v
  ·rw[decide_eq_true c,decide_eq_false (by omega)]
   rfl
  ·rw[decide_eq_false c,decide_eq_true (by omega)]
   rfl
theorem yH(h1:zL k l ns t u=true)(h2:zL k l ns u v=true):zL k l ns t v=true:=by
 unfold zL at h1 h2 ⊢
 generalize zv k l ns t=a at *
 generalize zv k l ns u=b at *
 generalize zv k l ns v=c at *
 by_cases e:a=b
 ·subst e
  rw[if_pos rfl] at h1
  by_cases f:a=c
  ·rw[if_pos f] at h2 ⊢
   exact qN h1 h2
  ·rw[if_neg f] at h2 ⊢
   exact h2
 ·rw[if_neg e] at h1
  have h1':=of_decide_eq_true h1
  by_cases f:b=c
  ·subst f
   rw[if_neg e]
   exact h1
  ·rw[if_neg f] at h2
   have h2':=of_decide_eq_true h2
   rw[if_neg (by omega)]
   exact decide_eq_true (by omega)
theorem YV(a b:List Nat):jn l (a ++ b)=jn l a ++ jn l b:=aH
theorem ZQ(G:OG l ns k)(hu:∀ c ∈ u,c ∈ l)(hv:∀ c ∈ v,c ∈ l)(e:zv k l ns u=zv k l ns v)(c:List Int):ltI (jn l u ++ c) (jn l v ++ c)=ltI (jn l u) (jn l v):=by
 rw[xC G hu,xC G hv] at e
 exact XD (Zn G hu) (Zn G hv) e
theorem jP(G:OG l ns k)(hu:∀ c ∈ u,c ∈ l):zv k l ns u.reverse=zv k l ns u:=by
 rw[xC G hu,xC G fun c hc=>hu c (List.mem_reverse.mp hc)]
 unfold jn
 rw[List.map_reverse,List.map_reverse,List.sum_reverse]
theorem vP(G:OG l ns k)(ht:∀ c ∈ t,c ∈ l)(hu:∀ c ∈ u,c ∈ l)(hv:∀ c ∈ v,c ∈ l):zL k l ns (t ++ u) (t ++ v)=zL k l ns u v/\zL k l ns (u ++ t) (v ++ t)=zL k l ns u v:=by
 have hur:∀ c ∈ u.reverse,c ∈ l:=fun c hc=>hu c (List.mem_reverse.mp hc)
 have hvr:∀ c ∈ v.reverse,c ∈ l:=fun c hc=>hv c (List.mem_reverse.mp hc)
 unfold zL
 rw[xf,xf,xf,xf]
 by_cases e:zv k l ns u=zv k l ns v
 ·rw[if_pos (by omega),if_pos e,if_pos (by omega)]
  unfold qK xH
  by_cases f:k=1
  ·simp only[if_pos f,List.reverse_append,YV]
   exact⟨ZQ G hur hvr (by rw[jP G hu,jP G hv,e]) _,YA _ _ _⟩
  ·simp only[if_neg f,YV]
   exact⟨YA _ _ _,ZQ G hu hv e _⟩
 ·rw[if_neg (by omega),if_neg e,if_neg (by omega)]
  exact⟨by congr 1;exact propext (by omega),by congr 1;exact propext (by omega)⟩
theorem QM(G:OG l ns k)(ht:∀ c ∈ t,c ∈ l)(hu:∀ c ∈ u,c ∈ l)(hv:∀ c ∈ v,c ∈ l)(h:t ++ u ++ v≠u):zL k l ns u (t ++ u ++ v)=true/\zL k l ns (t ++ u ++ v) u=false:=by
 have h0:0<zv k l ns t+zv k l ns v:=by
  have h1:=wy G ht
  have h2:=wy G hv
  by_cases e:t=[]
  ·by_cases f:v=[]
   ·subst e f
    simp at h
   ·have:=uk G hv f
    omega
  ·have:=uk G ht e
   omega
 unfold zL
 rw[xf,xf,if_neg (by omega),if_neg (by omega)]
 exact⟨decide_eq_true (by omega),decide_eq_false (by omega)⟩
end
theorem Z1:∀ x y:List Int,ltI x y=true->ltI y x=false
 | [],[],h=>by cases h
 | [],_::_,_=>rfl
 | _::_,[],h=>by cases h
 | a::x,b::y,h=>by
  rw[ltI] at h ⊢
  by_cases e:a=b
  ·rw[if_pos e] at h
   rw[if_pos e.symm]
   exact Z1 x y h
  ·rw[if_neg e] at h
   rw[if_neg (fun q=>e q.symm)]
   have:=of_decide_eq_true h
   exact decide_eq_false (by omega)
theorem Yv{k:Nat}{l:List Nat}{ns:List Int}{u v:List Nat}(h:zL k l ns u v=true):zL k l ns v u=false:=by
 unfold zL at h ⊢
 by_cases e:zv k l ns u=zv k l ns v
 ·rw[if_pos e] at h
  rw[if_pos e.symm]
  exact Z1 _ _ h
 ·rw[if_neg e] at h
  rw[if_neg (fun q=>e q.symm)]
  have:=of_decide_eq_true h
  exact decide_eq_false (by omega)
def stJ(l:List Nat)(ps:List zr)(q j:Nat):Bool:=((ps[j]?).map fun p=>zu l (q:Int) p.1).getD false
theorem jD{l:List Nat}{ps:List zr}{q j:Nat}{p:zr}(h:ps[j]? = some p):stJ l ps q j=zu l (q:Int) p.1:=by
 unfold stJ
 rw[h]
 rfl
theorem wG{l:List Nat}{ps:List zr}{q j:Nat}(h:stJ l ps q j=true):j<ps.length/\∃ p,ps[j]? = some p/\zu l (q:Int) p.1=true:=by
 unfold stJ at h
 cases e:ps[j]? with
 | none=>rw[e] at h;cases h
 | some p =>
  rw[e] at h
  exact⟨(List.getElem?_eq_some_iff.mp e).1,p,rfl,h⟩
def qJ(l:List Nat)(ps:List zr)(q i:Nat):List (Nat × Nat):=((aY i).filter (stJ l ps q)).map fun j=>(j,q)
def xQ(l:List Nat)(ps:List zr)(k:Nat):List (Nat × Nat):=(aY k).flatMap fun q=>qJ l ps q ps.length
theorem Wb(l:List Nat)(ps:List zr)(q i:Nat):qJ l ps q (i+1)=qJ l ps q i ++ (if stJ l ps q i=true then [(i,q)] else []):=by
 unfold qJ
 rw[cM,cN,aH]
 congr 1
 by_cases h:stJ l ps q i=true
 ·rw[if_pos h,eC h]
  rfl
 ·rw[if_neg h,eD h]
  rfl
theorem jV(l:List Nat)(ps:List zr)(k:Nat):xQ l ps (k+1)=xQ l ps k ++ qJ l ps k ps.length:=by
 unfold xQ
 rw[cM,cY]
 simp
theorem Vh(l:List Nat)(ps:List zr)(q i:Nat):(qJ l ps q i).length<=i:=by
 unfold qJ
 rw[ae]
 have:=cQ (stJ l ps q) (aY i)
 rw[dj] at this
 exact this
theorem Uj(l:List Nat)(ps:List zr):∀ k,(xQ l ps k).length<=k * ps.length
 | 0=>by simp [xQ]
 | k+1=>by
  rw[jV,am,d5]
  have:=Uj l ps k
  have:=Vh l ps k ps.length
  omega
theorem usesN_mem{l:List Nat}{ps:List zr}{q i:Nat}{u:Nat × Nat}:u ∈ qJ l ps q i ↔ u.2=q/\u.1<i/\stJ l ps q u.1=true:=by
 unfold qJ
 rw[List.mem_map]
 constructor
 ·rintro⟨j,hj,rfl⟩
  rw[List.mem_filter,eP] at hj
  exact⟨rfl,hj.1,hj.2⟩
 ·rintro⟨h1,h2,h3⟩
  exact⟨u.1,List.mem_filter.mpr ⟨List.mem_range.mpr h2,h3⟩,by rw[<- h1]⟩
theorem usesK_mem{l:List Nat}{ps:List zr}{k:Nat}{u:Nat × Nat}:u ∈ xQ l ps k ↔ u.2<k/\stJ l ps u.2 u.1=true:=by
 unfold xQ
 rw[List.mem_flatMap]
 constructor
 ·rintro⟨q,hq,hu⟩
  obtain⟨h1,h2,h3⟩:=usesN_mem.mp hu
  rw[eP] at hq
  rw[h1]
  exact⟨hq,h3⟩
 ·rintro⟨h1,h2⟩
  exact⟨u.2,List.mem_range.mpr h1,usesN_mem.mpr ⟨rfl,(wG h2).1,h2⟩⟩
def uLt(a b:Nat × Nat):Prop:=a.2<b.2\/(a.2=b.2/\a.1<b.1)
theorem uB(l:List Nat)(ps:List zr)(q:Nat):∀ i,(qJ l ps q i).Pairwise uLt
 | 0=>by simp [qJ]
 | i+1=>by
  rw[Wb]
  refine List.pairwise_append.mpr ⟨uB l ps q i,?_,fun a ha b hb=>?_⟩
  ·split
   ·exact eh _ _
   ·exact List.Pairwise.nil
  ·obtain⟨h1,h2,_⟩:=usesN_mem.mp ha
   split at hb
   ·rw[List.mem_singleton.mp hb]
    exact .inr ⟨h1,h2⟩
   ·cases hb
theorem wK(l:List Nat)(ps:List zr):∀ k,(xQ l ps k).Pairwise uLt
 | 0=>by simp [xQ]
 | k+1=>by
  rw[jV]
  refine List.pairwise_append.mpr ⟨wK l ps k,uB l ps k _,fun a ha b hb=>?_⟩
  have h1:=(usesK_mem.mp ha).1
  have h2:=(usesN_mem.mp hb).1
  exact .inl (by omega)
def FirstN(l:List Nat)(ps:List zr)(lo hi n:Nat)(r:Option (Nat × Nat)):Prop :=
 (r=none/\∀ j q,j<n->lo<=q->q<hi->stJ l ps q j=false) \/
 ∃ n0 q0,r=some (n0,q0)/\n0<n/\lo<=q0/\q0<hi/\stJ l ps q0 n0=true/\∀ j q,j<n->lo<=q->stJ l ps q j=true->q0<q\/(q0=q/\n0<=j)
theorem FirstN.uniq{l:List Nat}{ps:List zr}{lo hi n:Nat}{r r':Option (Nat × Nat)}(h:FirstN l ps lo hi n r)(h':FirstN l ps lo hi n r'):r=r':=by
 rcases h with ⟨rfl,h⟩ | ⟨n0,q0,rfl,a1,a2,a3,a4,a5⟩
 ·rcases h' with ⟨rfl,_⟩ | ⟨n0,q0,rfl,a1,a2,a3,a4,a5⟩
  ·rfl
  ·rw[h n0 q0 a1 a2 a3] at a4
   cases a4
 ·rcases h' with ⟨rfl,h⟩ | ⟨n1,q1,rfl,b1,b2,b3,b4,b5⟩
  ·rw[h n0 q0 a1 a2 a3] at a4
   cases a4
  ·have x1:=a5 n1 q1 b1 b2 b4
   have x2:=b5 n0 q0 a1 a2 a4
   have e1:q0=q1:=by omega
   have e2:n0=n1:=by omega
   rw[e1,e2]
theorem X8{l:List Nat}{ps:List zr}{r:Option (Nat × Nat)}(h:FirstN l ps 0 l.length ps.length r):r=(xQ l ps l.length).head?:=by
 have hs:=wK l ps l.length
 refine h.uniq ?_
 cases e:xQ l ps l.length with
 | nil =>
  refine .inl ⟨rfl,fun j q _ _ hq=>?_⟩
  cases hb:stJ l ps q j with
  | false=>rfl
  | true =>
   have:(j,q) ∈ xQ l ps l.length:=usesK_mem.mpr ⟨hq,hb⟩
   rw[e] at this
   cases this
 | cons u us =>
  rw[e] at hs
  have hu:u ∈ xQ l ps l.length:=by rw[e];exact az
  obtain⟨h1,h2⟩:=usesK_mem.mp hu
  refine .inr ⟨u.1,u.2,rfl,(wG h2).1,aJ _,h1,h2,fun j q hj _ hb=>?_⟩
  by_cases hq:q<l.length
  ·have:(j,q) ∈ xQ l ps l.length:=usesK_mem.mpr ⟨hq,hb⟩
   rw[e] at this
   rcases List.mem_cons.mp this with e2 | e2
   ·rw[<- e2]
    exact .inr ⟨rfl,au _⟩
   ·rcases (List.pairwise_cons.mp hs).1 _ e2 with h | ⟨h,h'⟩
    ·exact .inl h
    ·exact .inr ⟨h,de h'⟩
  ·exact .inl (by omega)
theorem qE{l p:List Nat}{q:Nat}(hp:p≠[])(h:zu l (q:Int) p=true):q<l.length:=by
 obtain⟨h0,h1,_⟩:=of_decide_eq_true h
 have:0<p.length:=List.length_pos_iff.mpr hp
 omega
theorem FirstN.keep{l:List Nat}{ps:List zr}{lo hi n:Nat}{r:Option (Nat × Nat)}{p:zr}(h:FirstN l ps lo hi n r)(hp:ps[n]? = some p)(hn:∀ q:Nat,lo<=q->q<(r.map Prod.snd).getD hi->zu l (q:Int) p.1=false):FirstN l ps lo hi (n+1) r:=by
 rcases h with ⟨rfl,h⟩ | ⟨n0,q0,rfl,a1,a2,a3,a4,a5⟩
 ·refine .inl ⟨rfl,fun j q hj h1 h2=>?_⟩
  by_cases e:j<n
  ·exact h j q e h1 h2
  ·have:j=n:=by omega
   subst this
   rw[jD hp]
   exact hn q h1 h2
 ·refine .inr ⟨n0,q0,rfl,by omega,a2,a3,a4,fun j q hj h1 h2=>?_⟩
  by_cases e:j<n
  ·exact a5 j q e h1 h2
  ·have:j=n:=by omega
   subst this
   rw[jD hp] at h2
   by_cases hq:q<q0
   ·rw[hn q h1 hq] at h2
    cases h2
   ·omega
theorem FirstN.take{l:List Nat}{ps:List zr}{lo hi n k:Nat}{r:Option (Nat × Nat)}{p:zr}(h:FirstN l ps lo hi n r)(hp:ps[n]? = some p)(h1:lo<=k)(h2:k<(r.map Prod.snd).getD hi)(h3:zu l (k:Int) p.1=true)(hn:∀ q:Nat,lo<=q->q<k->zu l (q:Int) p.1=false):FirstN l ps lo hi (n+1) (some (n,k)):=by
 have hk:k<hi/\∀ j q,j<n->lo<=q->stJ l ps q j=true->k<q:=by
  rcases h with ⟨rfl,h⟩ | ⟨n0,q0,rfl,a1,a2,a3,a4,a5⟩
  ·refine⟨h2,fun j q hj hl hb=>?_⟩
   by_cases hq:q<hi
   ·rw[h j q hj hl hq] at hb
    cases hb
   ·have h2':k<hi:=h2
    omega
  ·have h2':k<q0:=h2
   refine⟨by omega,fun j q hj hl hb=>?_⟩
   have:=a5 j q hj hl hb
   omega
 refine .inr ⟨n,k,rfl,by omega,h1,hk.1,by rw[jD hp];exact h3,fun j q hj hl hb=>?_⟩
 by_cases e:j<n
 ·exact .inl (hk.2 j q e hl hb)
 ·have:j=n:=by omega
  subst this
  rw[jD hp] at hb
  by_cases hq:q<k
  ·rw[hn q hl hq] at hb
   cases hb
  ·omega
theorem FirstN.window{l:List Nat}{ps:List zr}{lo mid hi n:Nat}{r:Option (Nat × Nat)}(h0:FirstN l ps lo mid n none)(hm:lo<=mid)(h:FirstN l ps mid hi n r):FirstN l ps lo hi n r:=by
 have h0':∀ j q,j<n->lo<=q->q<mid->stJ l ps q j=false:=by
  rcases h0 with ⟨_,h⟩ | ⟨_,_,h,_⟩
  ·exact h
  ·cases h
 rcases h with ⟨rfl,h⟩ | ⟨n0,q0,rfl,a1,a2,a3,a4,a5⟩
 ·refine .inl ⟨rfl,fun j q hj h1 h2=>?_⟩
  by_cases e:q<mid
  ·exact h0' j q hj h1 e
  ·exact h j q hj (by omega) h2
 ·refine .inr ⟨n0,q0,rfl,a1,by omega,a3,a4,fun j q hj h1 h2=>?_⟩
  by_cases e:q<mid
  ·rw[h0' j q hj h1 e] at h2
   cases h2
  ·exact a5 j q hj (by omega) h2
def NeL(ps:List zr):Prop:=∀ p ∈ ps,p.1≠[]
theorem FirstN.toEnd{l:List Nat}{ps:List zr}{lo hi n:Nat}{r:Option (Nat × Nat)}(hN:NeL ps)(h:FirstN l ps lo hi n r)(hl:r=none->l.length<=hi):FirstN l ps lo l.length n r:=by
 have hlt:∀ j q,stJ l ps q j=true->q<l.length:=fun j q hb=>by
  obtain⟨_,p,hp,hs⟩:=wG hb
  exact qE (hN p (af hp)) hs
 rcases h with ⟨rfl,h⟩ | ⟨n0,q0,rfl,a1,a2,a3,a4,a5⟩
 ·exact .inl ⟨rfl,fun j q hj h1 h2=>h j q hj h1 (by have:=hl rfl;omega)⟩
 ·exact .inr ⟨n0,q0,rfl,a1,a2,hlt _ _ a4,a4,a5⟩
def zF(l:List Nat)(ps:List zr):Option (Nat × Nat):=(xQ l ps l.length).head?
theorem Y4{l:List Nat}{ps:List zr}{r:Option (Nat × Nat)}(h:FirstN l ps 0 l.length ps.length r):r=zF l ps:=X8 h
theorem YW(l:List Nat)(ps:List zr)(hN:NeL ps):FirstN l ps 0 l.length ps.length (zF l ps):=by
 have hs:=wK l ps l.length
 unfold zF
 cases e:xQ l ps l.length with
 | nil =>
  refine .inl ⟨rfl,fun j q _ _ hq=>?_⟩
  cases hb:stJ l ps q j with
  | false=>rfl
  | true =>
   have:(j,q) ∈ xQ l ps l.length:=usesK_mem.mpr ⟨hq,hb⟩
   rw[e] at this
   cases this
 | cons u us =>
  rw[e] at hs
  have hu:u ∈ xQ l ps l.length:=by rw[e];exact az
  obtain⟨h1,h2⟩:=usesK_mem.mp hu
  refine .inr ⟨u.1,u.2,rfl,(wG h2).1,aJ _,h1,h2,fun j q hj _ hb=>?_⟩
  have hq:q<l.length:=by
   obtain⟨_,p,hp,hs⟩:=wG hb
   exact qE (hN p (af hp)) hs
  have:(j,q) ∈ xQ l ps l.length:=usesK_mem.mpr ⟨hq,hb⟩
  rw[e] at this
  rcases List.mem_cons.mp this with e2 | e2
  ·rw[<- e2]
   exact .inr ⟨rfl,au _⟩
  ·rcases (List.pairwise_cons.mp hs).1 _ e2 with h | ⟨h,h'⟩
   ·exact .inl h
   ·exact .inr ⟨h,de h'⟩
def YT(ps:List zr)(n:Nat):zr:=ps.getD n ([],[])
theorem xK{ps:List zr}{n:Nat}{p:zr}(h:ps[n]? = some p):YT ps n=p:=by
 unfold YT
 rw[ac,h]
 rfl
def Z7(l:List Nat)(ps:List zr)(u:Nat × Nat):List Nat:=yS l (u.2:Int) (YT ps u.1).1 (YT ps u.1).2
def YU(ps:List zr)(l:List Nat):List Nat:=((zF l ps).map (Z7 l ps)).getD l
def wAt(ps:List zr)(l:List Nat):Nat->List Nat
 | 0=>l
 | j+1=>YU ps (wAt ps l j)
def sAt(ps:List zr)(l:List Nat)(j:Nat):List (Nat × Nat):=(aY j).map fun i=>(zF (wAt ps l i) ps).getD (0,0)
theorem YZ(ps:List zr)(l:List Nat)(j:Nat):sAt ps l (j+1)=sAt ps l j ++ [(zF (wAt ps l j) ps).getD (0,0)]:=by
 unfold sAt
 rw[cM,aH]
 rfl
theorem Yr(ps:List zr)(l:List Nat)(j:Nat):(sAt ps l j).length=j:=by
 unfold sAt
 rw[ae,dj]
theorem wv{ps:List zr}{l:List Nat}{j:Nat}{u:Nat × Nat}(h:zF (wAt ps l j) ps=some u):wAt ps l (j+1)=Z7 (wAt ps l j) ps u:=by
 show YU ps (wAt ps l j)=_
 unfold YU
 rw[h]
 rfl
def Wi(ps:List zr)(l:List Nat)(j:Nat):Prop:=∀ i,i<j->zF (wAt ps l i) ps≠none
theorem Qp{ps:List zr}{l:List Nat}{i j:Nat}(h1:Wi ps l i)(h2:zF (wAt ps l i) ps=none)(h3:Wi ps l j)(h4:zF (wAt ps l j) ps=none):i=j:=by
 rcases dU i j with h | h | h
 ·exact absurd h2 (h3 i h)
 ·exact h
 ·exact absurd h4 (h1 j h)
theorem Wf{l:List Nat}{ps:List zr}{n q M lo:Nat}(h:FirstN l ps 0 l.length ps.length (some (n,q)))(hN:NeL ps)(hM:∀ p ∈ ps,p.1.length<=M)(hlo:lo=0\/lo+M<=q+1):FirstN (Z7 l ps (n,q)) ps 0 lo ps.length none:=by
 refine .inl ⟨rfl,fun j x hj _ hx=>?_⟩
 rcases h with ⟨h,_⟩ | ⟨n0,q0,e,a1,a2,a3,a4,a5⟩
 ·cases h
 ·injection e with e
  injection e with e1 e2
  subst e1 e2
  cases hb:stJ (Z7 l ps (n,q)) ps x j with
  | false=>rfl
  | true =>
   obtain⟨_,p,hp,hs⟩:=wG hb
   have hpm:=hM p (af hp)
   have hpn:=List.length_pos_iff.mpr (hN p (af hp))
   have hxq:x+p.1.length<=q:=by omega
   obtain⟨s0,s1,s2⟩:=of_decide_eq_true hs
   rw[aX] at s2
   obtain⟨_,p2,hp2,hs2⟩:=wG a4
   obtain⟨t0,t1,t2⟩:=of_decide_eq_true hs2
   have e4:(Z7 l ps (n,q)).take q=l.take q:=by
    unfold Z7 yS
    rw[aX,ax,aU (by rw[aK];omega),eQ,e7]
   have e5:∀ z:List Nat,((z.take q).drop x).take p.1.length=(z.drop x).take p.1.length:=fun z=>by
    rw[List.drop_take,eQ]
    congr 1
    omega
   have s3:(l.drop x).take p.1.length=p.1:=by rw[<- e5,<- e4,e5,s2]
   have:stJ l ps x j=true:=by
    rw[jD hp]
    exact decide_eq_true ⟨by omega,by omega,by rw[aX];exact s3⟩
   have:=a5 j x hj (aJ _) this
   omega
theorem FirstN.lower{l:List Nat}{ps:List zr}{lo hi n:Nat}(h:FirstN l ps 0 hi n none)(hl:lo<=hi):FirstN l ps 0 lo n none:=by
 rcases h with ⟨_,h⟩ | ⟨_,_,h,_⟩
 ·exact .inl ⟨rfl,fun j q hj h1 h2=>h j q hj h1 (by omega)⟩
 ·cases h
theorem UD{l:List Nat}{ps:List zr}{n q m:Nat}(h:FirstN l ps 0 l.length ps.length (some (n,q)))(hm:∀ p ∈ ps,p.2.length<=m):(Z7 l ps (n,q)).length<=l.length+m:=by
 rcases h with ⟨h,_⟩ | ⟨n0,q0,e,a1,a2,a3,a4,a5⟩
 ·cases h
 ·injection e with e
  injection e with e1 e2
  subst e1 e2
  obtain⟨_,p,hp,hs⟩:=wG a4
  have:=hm p (af hp)
  have er:=xK hp
  unfold Z7 yS
  simp only[am,aK,br,er]
  omega
theorem qC{ps:List zr}{l:List Nat}{m:Nat}(hN:NeL ps)(hm:∀ p ∈ ps,p.2.length<=m):∀ j,(wAt ps l j).length<=l.length+j * m
 | 0=>by simp [wAt]
 | j+1=>by
  have ih:=qC (l:=l) hN hm j
  have hf:=YW (wAt ps l j) ps hN
  rw[d5]
  cases e:zF (wAt ps l j) ps with
  | none =>
   show (YU ps (wAt ps l j)).length<=_
   unfold YU
   rw[e]
   show (wAt ps l j).length<=_
   omega
  | some u =>
   rw[wv e]
   rw[e] at hf
   obtain⟨a,b⟩:=u
   have:=UD hf hm
   omega
def UseAt(H:Hp)(r:Option (Nat × Nat))(v:V):Prop:=(r=none/\v=.non)\/∃(n q:Nat) (p:Addr),r=some (n,q)/\v=.ref p/\H p=some (.tup [.int (n:Nat),.int (q:Nat)])
theorem UseAt.same{H H':Hp}{r:Option (Nat × Nat)}{v:V}(h:UseAt H r v)(s:Same H H'):UseAt H' r v:=by
 rcases h with h | ⟨n,q,p,h1,h2,h3⟩
 ·exact .inl h
 ·exact .inr ⟨n,q,p,h1,h2,s _ _ h3⟩
theorem W5{l p:List Nat}{lo hi:Int}{H:Hp}{Q:VK}(h0:0<=lo)(h1:0<=hi)(h:∀ r:Int,((r=-1/\∀ q:Nat,lo<=q->(q:Int)+p.length<=hi->zu l q p=false)\/∃ k:Nat,r=k/\lo<=k/\(k:Int)+p.length<=hi/\zu l k p=true/\∀ q:Nat,lo<=q->q<k->zu l q p=false)->Q (.int r) H):Jq (.str (tx l)) [.str (tx p),.int lo,.int hi] H Q:=by
 refine⟨l,p,lo,hi,rfl,rfl,h0,h1,fun r hr=>h r ?_⟩
 have no:∀ q:Nat,((l.drop q).take p.length≠p\/¬ q+p.length<=l.length)->zu l q p=false:=fun q hq=>decide_eq_false fun⟨_,b,c⟩=>by
  rcases hq with hq | hq
  ·exact hq c
  ·omega
 rcases hr with ⟨rfl,hn⟩ | ⟨k,rfl,k1,k2,k3,k4,hn⟩
 ·refine .inl ⟨rfl,fun q q1 q2=>no q ?_⟩
  by_cases e:q+p.length<=l.length
  ·exact .inl (hn q q1 q2 e)
  ·exact .inr e
 ·exact .inr ⟨k,rfl,k1,k2,decide_eq_true ⟨by omega,by omega,k4⟩,fun q q1 q2=>no q (.inl (hn q q1 q2))⟩
def w6(K:oO):Sp:=fun vs H Q _=>∃(a:Addr) (l:List Nat) (ps:List zr) (st en:Nat),vs=[.ref a,.str (tx l),.int (st:Nat),.int (en:Nat)]/\LsA K H a (ps.map dR)/\NeL ps/\(∀ p ∈ ps,p.1.length<=1000)/\∀(r:Option (Nat × Nat)) (v:V) (H':Hp),Same H H'->UseAt H' r v->FirstN l ps st en ps.length r->Q v H'
theorem Yu{a:Addr}{l:List Nat}{ps:List zr}{st en:Nat}{s e:Int}{H:Hp}{Q:VK}{E:XK}(hs:s=(st:Nat))(he:e=(en:Nat))(hA:LsA K H a (ps.map dR))(hN:NeL ps)(hP:∀ p ∈ ps,p.1.length<=1000)(q:∀(r:Option (Nat × Nat)) (v:V) (H':Hp),Same H H'->UseAt H' r v->FirstN l ps st en ps.length r->Q v H'):w6 K [.ref a,.str (tx l),.int s,.int e] H Q E:=by
 subst hs he
 exact⟨a,l,ps,st,en,rfl,hA,hN,hP,q⟩
theorem fN:zq ["rules","word","start","end","found","number","rule","place"] ["rules","word","start","end"] (zb yw):=⟨rfl,rfl,rfl,by decide +kernel,rfl,by decide +kernel,by decide +kernel⟩
theorem qR{f:Addr}{fd:FuncData}(B:Bt mg)(F:Fun K "first_within" "first_within" yw f fd) : FnOk P w K mg base CX0 1 f fd ["rules","word","start","end"] (w6 K):=by
 refine F.ok fN (fun vs H Q E h=>?_) (fun cdv A outer s H vs Q E hr h=>?_)
 ·obtain⟨a,l,ps,st,en,rfl,_⟩:=h
  rfl
 ·obtain⟨a,l,ps,st,en,rfl,hA,hN,hP,q⟩:=h
  refine⟨_,(zi (zt (i:=4) fN.nd rfl (Or.inl rfl) wl)
   (zi (yF PassesOwn.never rfl (w9 rfl B.enum (za (pv 0) ze)) (uC (n:=2) rfl (z8 (zC (i:=5) fN.nd rfl (Or.inl rfl)) (z8 (zC (i:=6) fN.nd rfl (Or.inl rfl)) wT)))
    (zN (zt (i:=7) fN.nd rfl (Or.inl rfl) (vR cP PySem.F.slot_str_find PySem.F.type_str_find Ke (pv 1) (za (zw ix_tup (pv 6) zg (fun _ _=>rfl)) (za (pv 2) (za (zB op_add (zB qv (pv 3) zg) (zp zX rfl B.len aB (za (zw ix_tup (pv 6) zg (fun _ _=>rfl)) ze))) ze)))))
    (zh (ya (zI op_ge' (pv 7) zg (zK _))
     (zN (zt (i:=4) fN.nd rfl (Or.inl rfl) (z9 (za (pv 5) (za (pv 7) ze))))
     (zh (zt (i:=3) fN.nd rfl (Or.inl rfl) (pv 7))))
     zD))))
   (zh (zx (pv 4))))),?_⟩
  have s16:=ym
  obtain⟨xs,hX,hI⟩:=id hA
  have hxl:=hI.len
  rw[ae] at hxl
  have s16:=ym
  refine zj (fun σ H'=>H'=H/\σ=[some (.ref a),some (.str (tx l)),some (.int (st:Nat)),some (.int (en:Nat)),some (.non),none,none,none]) ?_ ?_
  ·rfl'
  rintro σ H1 ⟨rfl,rfl⟩
  refine zj (fun σ H'=>Same H1 H'/\∃(r:Option (Nat × Nat)) (v:V) (v3 v5 v6 v7:Option V),UseAt H' r v/\FirstN l ps st en ps.length r/\σ=[some (.ref a),some (.str (tx l)),some (.int (st:Nat)),v3,some (v),v5,v6,v7]) ?_ ?_
  ·rfl'
   refine⟨⟨_,SqL.of hX⟩,ForEL.by (xs:=xs) (fun i σ H'=>Same H1 H'/\∃(r:Option (Nat × Nat)) (v:V) (v5 v6 v7:Option V),UseAt H' r v/\FirstN l ps st en i r/\σ=[some (.ref a),some (.str (tx l)),some (.int (st:Nat)),some (.int (((r.map Prod.snd).getD en:Nat):Int)),some (v),v5,v6,v7]) ⟨Same.refl _,none,.non,none,none,none,.inl ⟨rfl,rfl⟩,.inl ⟨rfl,fun j q h=>absurd h (cL j)⟩,rfl⟩ (fun i σ H' _ h=>SqL.of (h.1 _ _ hX)) ?_ ?_⟩
   ·rintro i y σ H' p hy ⟨hs,r,v,v5,v6,v7,hu,hF,rfl⟩ hpn
    obtain⟨rl,pr,hri,rfl,hqr⟩:=hI.getR hy
    have hm:=af hri
    have hne:=List.length_pos_iff.mpr (hN rl hm)
    have hrl:=hP rl hm
    have s2:=hs.trans (zd (o:=.tup [.int (i:Nat),.ref pr]) hpn)
    have hq2:=zl s2 hqr
    have hu2:=hu.same (zd (o:=.tup [.int (i:Nat),.ref pr]) hpn)
    rfl'
    refine⟨_,SqT.of zf,rfl,_,_,rfl,_,_,rfl,rfl,_,rfl,_,hq2,_,rfl,_,rfl,_,hq2,_,rfl,_,⟨by rw[ye];omega,rfl⟩,W5 (by omega) (by rw[ye];omega) fun z hz=>⟨z,rfl,?_⟩⟩
    rw[ye] at hz
    rcases hz with ⟨rfl,hn⟩ | ⟨k,rfl,k1,k2,k3,hn⟩
    ·rw[if_neg (by decide)]
     exact⟨s2,r,v,hu2,hF.keep hri fun q q1 q2=>hn q (by omega) (by omega),rfl,rfl⟩
    ·rw[if_pos (by omega)]
     refine⟨by omega,fun p2 hp2=>⟨s2.trans (zd hp2),some (i,k),.ref p2,.inr ⟨i,k,p2,rfl,rfl,zf⟩,hF.take hri (by omega) (by omega) k3 fun q q1 q2=>hn q (by omega) q2,rfl,rfl⟩⟩
   ·rintro σ H' ⟨hs,r,v,v5,v6,v7,hu,hF,rfl⟩
    rw[hxl] at hF
    exact⟨hs,r,v,hu,hF,_,_,_,_,rfl⟩
  rintro σ H2 ⟨s2,r,v,v3,v5,v6,v7,hu,hF,rfl⟩
  rfl'
  exact q r v H2 s2 hu hF
structure zcR(mg:Str->Option Value):Prop where
 g:∃ t,mg "WINDOW" = some (.int 128 t)
def uY(K:oO):Sp:=fun vs H Q _=>∃(a:Addr) (l:List Nat) (ps:List zr) (st:Nat),vs=[.ref a,.str (tx l),.int (st:Nat)]/\LsA K H a (ps.map dR)/\NeL ps/\(∀ p ∈ ps,p.1.length<=1000)/\l.length<=100000/\∀(r:Option (Nat × Nat)) (v:V) (H':Hp),Same H H'->UseAt H' r v->FirstN l ps st l.length ps.length r->Q v H'
theorem Zo{a:Addr}{l:List Nat}{ps:List zr}{st:Nat}{s:Int}{H:Hp}{Q:VK}{E:XK}(hs:s=(st:Nat))(hA:LsA K H a (ps.map dR))(hN:NeL ps)(hP:∀ p ∈ ps,p.1.length<=1000)(hl:l.length<=100000)(q:∀(r:Option (Nat × Nat)) (v:V) (H':Hp),Same H H'->UseAt H' r v->FirstN l ps st l.length ps.length r->Q v H'):uY K [.ref a,.str (tx l),.int s] H Q E:=by
 subst hs
 exact⟨a,l,ps,st,rfl,hA,hN,hP,hl,q⟩
theorem gA:zq ["rules","word","start","size","found"] ["rules","word","start"] (zb yR):=⟨rfl,rfl,rfl,by decide +kernel,rfl,by decide +kernel,by decide +kernel⟩
theorem j8{f:Addr}{fd:FuncData}(B:Bt mg)(T:zcR mg)(F:Fun K "first_from" "first_from" yR f fd)(nw:Df P w K mg base CX0 1 "first_within" ["rules","word","start","end"] [] (w6 K)):FnOk P w K mg base CX0 2 f fd ["rules","word","start"] (uY K):=by
 obtain⟨t8,g8⟩:=T.g
 refine F.ok gA (fun vs H Q E h=>?_) (fun cdv A outer s H vs Q E hr h=>?_)
 ·obtain⟨a,l,ps,st,rfl,_⟩:=h
  rfl
 ·obtain⟨a,l,ps,st,rfl,hA,hN,hP,hl,q⟩:=h
  refine⟨_,(zi (zt (i:=3) gA.nd rfl (Or.inl rfl) (xh (v:=.int 128) rfl g8 ⟨t8,rfl⟩))
   (zi (kH PassesOwn.never (zI Xb (pv 2) (zp zX rfl B.len aB (za (pv 1) ze)) (zK _))
    (zN (zt (i:=4) gA.nd rfl (Or.inl rfl) (cl0 nw hr .nil rfl (za (pv 0) (za (pv 1) (za (pv 2) (za (zB op_add (pv 2) (pv 3)) ze))))))
    (zN (ya (zI op_notN' (pv 4) wl (zK _))
     (zh (zx (pv 4)))
     zD)
    (zN (zt (i:=2) gA.nd rfl (Or.inl rfl) (zB op_add (pv 2) (pv 3)))
    (zh (zt (i:=3) gA.nd rfl (Or.inl rfl) (zB op_mul (pv 3) zg)))))))
   (zh (zx wl)))),?_⟩
  have s16:=ym
  have s16:=ym
  refine zj (fun σ H'=>H'=H/\σ=[some (.ref a),some (.str (tx l)),some (.int (st:Nat)),some (.int 128),none]) ?_ ?_
  ·rfl'
  rintro σ H1 ⟨rfl,rfl⟩
  refine zj (fun σ H'=>Same H1 H'/\FirstN l ps st l.length ps.length none) ?_ ?_
  ·unfold Y2
   refine⟨fun m σ H'=>∃(s z:Nat) (v4:Option V),m=l.length - s/\st<=s/\1<=z/\Same H1 H'/\FirstN l ps st s ps.length none/\σ=[some (.ref a),some (.str (tx l)),some (.int (s:Nat)),some (.int (z:Nat)),v4],⟨_,st,128,none,rfl,au _,by decide,Same.refl _,.inl ⟨rfl,fun j q _ h1 h2=>by omega⟩,rfl⟩,?_⟩
   rintro m σ H' ⟨s,z,v4,rfl,hs,hz,sm,hF,rfl⟩
   rfl'
   refine⟨by omega,xj (fun hlt=>?_) fun hge=>⟨sm,hF.toEnd hN fun _=>by omega⟩⟩
   refine⟨fun σ' H''=>∃ v4:Option V,Same H1 H''/\FirstN l ps st (s+z) ps.length none/\σ'=[some (.ref a),some (.str (tx l)),some (.int ((s+z:Nat):Int)),some (.int ((z * 2:Nat):Int)),v4],fun σ' H'' ⟨v4,a1,a2,a3⟩=>⟨l.length - (s+z),by omega,s+z,rfl,by omega,z * 2,by omega,a1,a2,v4,a3⟩,?_⟩
   refine Yu (en:=s+z) rfl (by omega) (hA.same sm) hN hP fun r v H2 s2 hu hF2=>?_
   rcases hu with ⟨rfl,rfl⟩ | ⟨n,qq,p,rfl,rfl,hp⟩
   ·rw[if_neg (fun h=>h rfl)]
    exact⟨.inr ⟨by decide,by decide⟩,some .non,sm.trans s2,hF.window hs hF2,by push_cast;rfl⟩
   ·rw[if_pos (by intro h;cases h)]
    exact q _ _ H2 (sm.trans s2) (.inr ⟨n,qq,p,rfl,rfl,hp⟩) ((hF.window hs hF2).toEnd hN (fun e=>by cases e))
  rintro σ H2 ⟨s2,hF⟩
  rfl'
  exact q none .non H2 s2 (.inl ⟨rfl,rfl⟩) hF
theorem LsA.pushT{H:Hp}{D p:Addr}{ds es:List L3.D}{xs vs:List V}(h1:H D=some (.lst xs))(h2:Iss K H ds xs)(hp:H p=none)(hv:Iss K H es vs)(f:zR ds)(fe:zR es):LsA K (upd (upd H p (.tup vs)) D (.lst (xs ++ [.ref p]))) D (ds ++ [.tup es]):=by
 have e:(upd H p (.tup vs)) D=some (.lst xs):=zd hp _ _ h1
 exact LsA.snoc e (Iss.same (zd hp) _ _ h2) f (by simp only[xt];exact fe) (Is.tup hp hv)
structure K7(K:oO)(mg:Str->Option Value)(C:Addr):Prop where
 xi:XI K C
 ini:ah K (.ref C) "__init__" = some (some (.builtin "ValueError.__init__"))
 g:mg "TooFar" = some (.ref C)
def dG(u:Nat × Nat):L3.D:=.tup [.int (u.1:Nat),.int (u.2:Nat),.bl true]
theorem JR(u:Nat × Nat):xt (dG u):=by simp only[dG,xt,zR,and_self]
theorem UY(us:List (Nat × Nat)):zR (us.map dG):=wM fun d h=>by obtain⟨r,_,rfl⟩:=List.mem_map.mp h;exact JR r
theorem zbJ{H:Hp}{n q:Nat}:Iss K H [.int (n:Nat),.int (q:Nat),.bl true] [.int (n:Nat),.int (q:Nat),.bl true]:=by
 simp only[Iss,Is]
 exact⟨_,_,rfl,rfl,_,_,rfl,rfl,_,_,rfl,rfl,rfl⟩
structure Rd(ps:List zr)(l:List Nat)(J:Nat):Prop where
 live:Wi ps l J
 len:∀ j,j<=J->(wAt ps l j).length<=10000
 most:J<=10000
def wU(K:oO)(CF:Addr):Sp:=fun vs H Q E=>∃(a:Addr) (l:List Nat) (ps:List zr) (m:Int) (J:Nat),vs=[.ref a,.str (tx l),.int m]/\LsA K H a (ps.map dR)/\NeL ps/\ps.length<=100/\(∀ p ∈ ps,p.1.length<=1000/\p.2.length<=1000)/\Rd ps l J /\
 ((zF (wAt ps l J) ps=none/\(J:Int)<=m/\∀(p S:Addr) (H':Hp),Same H H'->H' p=some (.tup [.ref S,.str (tx (wAt ps l J))])->LsA K H' S ((sAt ps l J).map dG)->H S=none->Q (.ref p) H') \/
  (zF (wAt ps l J) ps≠none/\(J:Int)=m/\∀ H',Same H H'->E (.ref CF) none H'))
theorem Vz{a:Addr}{ps:List zr}{σ:L2.St}{H:Hp}{Q:VK}{D:Addr}(hA:LsA K H a (ps.map dR))(hP:∀ p ∈ ps,p.1.length<=1000)(hpl:ps.length<=100)(hD:H D=none)(q:∀ H',Same H H'->H' D=some (.lst ((ps.map fun p=>(p.1.length:Int)).map V.int))->Q (.ref D) H') :
  CompL K a (xA 0) vT (tCB (zae K) (zP (tOp (uO K) (xx 0) (tC (.int 0))) vf)) 1 [] σ H Q D:=by
 have s16:=ym
 obtain⟨xs,hX,hI⟩:=hA
 have hxl:=hI.len
 rw[ae] at hxl
 refine CompL.by (xs:=xs) (fun i acc H'=>Same H H'/\H' D=some (.lst acc)/\acc=((ps.take i).map fun p=>(p.1.length:Int)).map V.int) ⟨zd hD,zf,rfl⟩ (fun i acc H' _ h=>SqL.of (h.1 _ _ hX)) ?_ ?_
 ·rintro i x acc H' hx ⟨hs,hH,rfl⟩
  have hil:=(List.getElem?_eq_some_iff.mp hx).1
  obtain⟨r,pr,hri,rfl,hqr⟩:=hI.getR hx
  have hm:=hP r (af hri)
  simp only[vT]
  rfl'
  refine⟨wD,_,zl hs hqr,_,rfl,_,⟨by rw[ye];omega,rfl⟩,hH,by rw[ae,ae,aK];omega,CNx.mk hil ⟨zG hs hD,zf,?_⟩⟩
  rw[zW hri,aH,aH,ye]
  rfl
 ·rintro acc H' ⟨hs,hH,rfl⟩
  rw[hxl,aQ] at hH
  exact q H' hs hH
theorem zbR{H:Hp}{rs:List zr}{xs:List V}{i:Nat}{r:zr}(hI:Iss K H (rs.map dR) xs)(hi:rs[i]? = some r):∃ p,atI xs (i:Int)=some (.ref p)/\SqT K H p [.str (tx r.1),.str (tx r.2)]:=by
 have hl:=hI.len
 rw[ae] at hl
 have hil:=(List.getElem?_eq_some_iff.mp hi).1
 obtain⟨v,a1,b1⟩:=vQ (xs:=xs) (i:=(i:Int)) (by omega) (by omega)
 obtain⟨r',p,h1,rfl,h3⟩:=hI.getR (j:=i) b1
 rw[hi] at h1
 cases h1
 exact⟨p,a1,h3⟩
theorem io:zq ["rules","word","most","longest","steps","use","number","place"] ["rules","word","most"] (zb vk):=⟨rfl,rfl,rfl,by decide +kernel,rfl,by decide +kernel,by decide +kernel⟩
theorem KD{f CU CF:Addr}{fd:FuncData}{dV:Value}(B:Bt mg)(T:K7 K mg CF)(TU:DNU P w K mg base CU)(F:FunD K "gone" "gone" vk dV f fd)(mi:Df P w K mg base CX0 2 "first_from" ["rules","word","start"] [] (uY K))(nJ:Df P w K mg base (CXx P w) 3 "put" ["word","place","old","new"] [] (ZF CU)):FnOk P w K mg base (CXx P w) 4 f fd ["rules","word","most"] (wU K CF):=by
 refine FunD.okX F io (fun vs H Q E h=>?_) (fun cdv A outer s H vs Q E hr hx h=>?_)
 ·obtain⟨a,l,ps,m,J,rfl,_⟩:=h
  rfl
 ·obtain⟨a,l,ps,m,J,rfl,hA,hN,hpl,hP,hR,hq⟩:=h
  refine⟨_,(zi (zt (i:=3) io.nd rfl (Or.inl rfl) (V2 (zba rfl) rfl B.max u8 (za (xY (own:=["rule"]) (caps:=[]) (ix:=[]) (tt:=vT) (te:=(tCB (zae K) (zP (tOp (uO K) (xx 0) (tC (.int 0))) vf))) rfl (yb (sc:=zb vk) rfl (by decide +kernel) (by decide +kernel) (by decide +kernel) rfl (by decide +kernel) (by decide +kernel) rfl) (yC (pv 0)) (fun _ _ _ _ _ _=>zC (i:=0) (show List.Nodup [_] by decide) rfl (Or.inl rfl)) (fun _ _ _ _ _ _=>xv) (fun _ _ _ _ _ _=>(zp zX rfl B.len aB (za (zw ix_tup (pv 0) zg (fun _ _=>rfl)) ze)))) ze) (Vd zg JB)))
   (zi (zt (i:=4) io.nd rfl (Or.inl rfl) (xR ze))
   (zi (zt (i:=5) io.nd rfl (Or.inl rfl) (cl0 mi hr .nil rfl (za (pv 0) (za (pv 1) (za zg ze)))))
   (zi (kH PassesOwn.leaving (zI op_notN' (pv 5) wl (zK _))
    (zi (ya (zI op_ge' (zp zX rfl B.len aB (za (pv 4) ze)) (pv 2) (zK _))
     (zh (yU hx rfl T.xi.toXC T.ini rfl T.g (za xT ze)))
     zD)
    (zi (zt (i:=6) io.nd rfl (Or.inl rfl) (zw ix_tup (pv 5) zg (fun _ _=>rfl)))
    (zi (zt (i:=7) io.nd rfl (Or.inl rfl) (zw ix_tup (pv 5) zg (fun _ _=>rfl)))
    (zi (zt (i:=1) io.nd rfl (Or.inl rfl) (clP hx nJ hr .nil rfl (za (pv 1) (za (pv 7) (za (zw ix_tup (zw ix_list (pv 0) (pv 6) (fun _ _=>rfl)) zg (fun _ _=>rfl)) (za (zw ix_tup (zw ix_list (pv 0) (pv 6) (fun _ _=>rfl)) zg (fun _ _=>rfl)) ze))))))
    (zi (xJ (vR bc bB bC yW (pv 4) (za (z9 (za (pv 6) (za (pv 7) (za xM ze)))) ze)))
    (zh (zt (i:=5) io.nd rfl (Or.inl rfl) (cl0 mi hr .nil rfl (za (pv 0) (za (pv 1) (za (zp (Uk rfl) rfl B.max u8 (za zg (za (zB op_add (zB qv (pv 7) (pv 3)) zg) ze))) ze))))))))))))
   (zh (zx (z9 (za (pv 4) (za (pv 1) ze))))))))),?_⟩
  have s16:=ym
  have s16:=ym
  refine zj (fun σ H'=>Same H H'/\∃ M:Int,(∀ p ∈ ps,(p.1.length:Int)<=M)/\σ=[some (.ref a),some (.str (tx l)),some (.int m),some (.int M),none,none,none,none]) ?_ ?_
  ·rfl'
   simp only[zcH]
   rfl'
   obtain⟨xs,hX,hI⟩:=id hA
   exact⟨⟨_,SqL.of hX⟩,fun D hD=>Vz hA (fun p hp=>(hP p hp).1) hpl hD fun H' s' hH=>⟨D,_,0,rfl,rfl,SqL.of hH,fun z _ hz=>⟨s',z,fun p hp=>hz _ (List.mem_map.mpr ⟨p,hp,rfl⟩),rfl⟩⟩⟩
  rintro σ H1 ⟨s1,M,hM,rfl⟩
  refine zj (fun σ H'=>Same H H'/\∃ S:Addr,H S=none/\H' S=some (.lst [])/\σ=[some (.ref a),some (.str (tx l)),some (.int m),some (.int M),some (.ref S),none,none,none]) ?_ ?_
  ·rfl'
   exact⟨by omega,fun p hp=>⟨s1.trans (zd hp),p,s1.free hp,zf,rfl⟩⟩
  rintro σ H2 ⟨s2,S,hSn,hS,rfl⟩
  refine zj (fun σ H'=>Same H H'/\H' S=some (.lst [])/\∃ uv:V,UseAt H' (zF l ps) uv/\σ=[some (.ref a),some (.str (tx l)),some (.int m),some (.int M),some (.ref S),some (uv),none,none]) ?_ ?_
  ·rfl'
   exact Zo (st:=0) rfl (hA.same s2) hN (fun p hp=>(hP p hp).1) (by have:=hR.len 0 (aJ _);exact aO this (by decide)) fun r v H' s' hu hF=>⟨s2.trans s',s' _ _ hS,(by rw[Y4 hF] at hu;exact hu)⟩
  rintro σ H3 ⟨s3,hS3,uv,hu,rfl⟩
  refine zj (fun σ H'=>Same H H'/\zF (wAt ps l J) ps=none/\LsA K H' S ((sAt ps l J).map dG)/\∃ v5 v6 v7,σ=[some (.ref a),some (.str (tx (wAt ps l J))),some (.int m),some (.int M),some (.ref S),v5,v6,v7]) ?_ ?_
  ·unfold Y2
   refine⟨fun k σ H'=>∃(j:Nat) (uv:V) (v6 v7:Option V),k=J - j/\j<=J/\Same H H'/\LsA K H' S ((sAt ps l j).map dG)/\UseAt H' (zF (wAt ps l j) ps) uv/\σ=[some (.ref a),some (.str (tx (wAt ps l j))),some (.int m),some (.int M),some (.ref S),some (uv),v6,v7],⟨_,0,uv,none,none,rfl,aJ _,s3,⟨[],hS3,by simp only[sAt,List.range_zero,aN,Iss]⟩,hu,rfl⟩,?_⟩
   rintro k σ H' ⟨j,uv,v6,v7,rfl,hj,hs,hL,hu,rfl⟩
   have hlj:=hR.len j hj
   have hRm:=hR.most
   obtain⟨xs,hX,hI⟩:=id hA
   rfl'
   refine xj (fun hne=>?_) fun hne=>?_
   ·rcases hu with ⟨_,h⟩ | ⟨n,q0,p,hf,rfl,hp⟩
    ·exact absurd h hne
    have hF:=YW (wAt ps l j) ps hN
    rw[hf] at hF
    have hjJ:j<J\/(j=J/\(J:Int)=m/\∀ H',Same H H'->E (.ref CF) none H'):=by
     by_cases e:j=J
     ·subst e
      rcases hq with ⟨h,_⟩ | ⟨_,h1,h2⟩
      ·rw[hf] at h
       cases h
      ·exact .inr ⟨rfl,h1,h2⟩
     ·exact .inl (by omega)
    have hJm:(J:Int)<=m:=by
     rcases hq with ⟨_,h,_⟩ | ⟨_,h,_⟩ <;> omega
    obtain⟨rl,hrl,hst⟩:∃ rl,ps[n]? = some rl/\zu (wAt ps l j) (q0:Int) rl.1=true:=by
     rcases hF with ⟨h,_⟩ | ⟨n0,q1,e,_,_,_,a4,_⟩
     ·cases h
     ·cases e
      exact (wG a4).2
    have hlp:=hP rl (af hrl)
    have hw:=wv hf
    obtain⟨pr,hai,hqr⟩:=zbR hI hrl
    refine⟨fun σ' H''=>∃(uv:V) (v6 v7:Option V),j<J/\Same H H''/\LsA K H'' S ((sAt ps l (j+1)).map dG)/\UseAt H'' (zF (wAt ps l (j+1)) ps) uv/\σ'=[some (.ref a),some (.str (tx (wAt ps l (j+1)))),some (.int m),some (.int M),some (.ref S),some (uv),v6,v7],fun σ' H'' ⟨uv,v6,v7,a0,a1,a2,a3,a4⟩=>⟨J - (j+1),by omega,j+1,rfl,by omega,a1,a2,uv,a3,v6,v7,a4⟩,?_⟩
    obtain⟨ys,hY,hJ2⟩:=id hL
    have hyl:=hJ2.len
    rw[ae,Yr] at hyl
    refine zj (fun σ' H''=>H''=H'/\j<J/\σ'=[some (.ref a),some (.str (tx (wAt ps l j))),some (.int m),some (.int M),some (.ref S),some (.ref p),v6,v7]) ?_ ?_
    ·rfl'
     refine⟨_,.inl ⟨_,SqL.of hY,rfl⟩,xj (fun hge=>?_) fun hge=>?_⟩
     ·rcases hjJ with h | ⟨_,_,h⟩
      ·omega
      ·exact⟨by omega,h _ hs⟩
     ·rcases hjJ with h | ⟨e,h,_⟩
      ·exact h
      ·omega
    rintro σ' G1 ⟨rfl,hlt,rfl⟩
    refine zj (fun σ' H''=>H''=G1/\σ'=[some (.ref a),some (.str (tx (wAt ps l j))),some (.int m),some (.int M),some (.ref S),some (.ref p),some (.int (n:Nat)),v7]) ?_ ?_
    ·rfl'
     exact⟨_,SqT.of hp,rfl⟩
    rintro σ' G2 ⟨rfl,rfl⟩
    refine zj (fun σ' H''=>H''=G2/\σ'=[some (.ref a),some (.str (tx (wAt ps l j))),some (.int m),some (.int M),some (.ref S),some (.ref p),some (.int (n:Nat)),some (.int (q0:Nat))]) ?_ ?_
    ·rfl'
     exact⟨_,SqT.of hp,rfl⟩
    rintro σ' G3 ⟨rfl,rfl⟩
    refine zj (fun σ' H''=>H''=G3/\σ'=[some (.ref a),some (.str (tx (wAt ps l (j+1)))),some (.int m),some (.int M),some (.ref S),some (.ref p),some (.int (n:Nat)),some (.int (q0:Nat))]) ?_ ?_
    ·rfl'
     have hq2:=zl hs hqr
     exact⟨_,SqL.of (hs _ _ hX),_,hai,_,rfl,_,hq2,_,rfl,_,SqL.of (hs _ _ hX),_,hai,_,rfl,_,hq2,_,rfl,wAt ps l j,rl.1,rl.2,(q0:Nat),rfl,hlj,by have:=hlp.1;omega,by have:=hlp.2;omega,fun _=>⟨rfl,by rw[hw];unfold Z7;rw[xK hrl]⟩,fun h=>by rw[hst] at h;cases h⟩
    rintro σ' G4 ⟨rfl,rfl⟩
    refine zj (fun σ' H''=>Same H H''/\LsA K H'' S ((sAt ps l (j+1)).map dG)/\σ'=[some (.ref a),some (.str (tx (wAt ps l (j+1)))),some (.int m),some (.int M),some (.ref S),some (.ref p),some (.int (n:Nat)),some (.int (q0:Nat))]) ?_ ?_
    ·rfl'
     refine⟨.inl ⟨_,SqL.of hY⟩,by omega,fun t ht=>⟨_,zd ht _ _ hY,by omega,zG (hs.trans (zd ht)) hSn,?_⟩⟩
     rw[YZ,hf,aH]
     exact LsA.pushT hY hJ2 ht zbJ (UY _) (by simp only[zR,xt,and_self])
    rintro σ' G5 ⟨s5,hL5,rfl⟩
    have hl1:=hR.len (j+1) hlt
    have hM0:=hM rl (af hrl)
    rfl'
    refine Zo (st:=(if (q0:Int) - M+1 > 0 then (q0:Int) - M+1 else 0).toNat) (by split <;> omega) (hA.same s5) hN (fun p hp=>(hP p hp).1) (aO hl1 (by decide)) fun r v H' s' hu hF2=>⟨hlt,s5.trans s',hL5.same s',?_⟩
    have hb:=Wf (M:=M.toNat) (lo:=(if (q0:Int) - M+1 > 0 then (q0:Int) - M+1 else 0).toNat) hF hN (fun p hp=>by have:=hM p hp;omega) (by split <;> omega)
    rw[<- hw] at hb
    rw[Y4 (hb.window (aJ _) hF2)] at hu
    exact hu
   ·have hv:uv=.non:=Decidable.not_not.mp hne
    have hf:zF (wAt ps l j) ps=none:=by
     rcases hu with ⟨h,_⟩ | ⟨_,_,_,_,h,_⟩
     ·exact h
     ·rw[hv] at h
      cases h
    have e:j=J:=by
     rcases d7 j J with h | h
     ·exact absurd hf (hR.live j h)
     ·omega
    subst e
    exact⟨hs,hf,hL,rfl⟩
  rintro σ H4 ⟨s4,hF,hL,v5,v6,v7,rfl⟩
  rfl'
  rcases hq with ⟨_,_,hq⟩ | ⟨h,_⟩
  ·exact⟨by omega,fun p hp=>hq p S _ (s4.trans (zd hp)) zf (hL.same (zd hp)) hSn⟩
  ·exact absurd hF h
abbrev Stp:=Int × Int × Bool
def dSt(t:Stp):D:=.tup [.int t.1,.int t.2.1,.bl t.2.2]
def sdl(r:zr)(f:Bool):zr:=if f=true then r else (r.2,r.1)
def yo(ps:List zr)(w:List Nat)(t:Stp):Option (List Nat) :=
 if 0<=t.1/\t.1<ps.length then (if zu w t.2.1 (sdl (ps.getD t.1.toNat ([],[])) t.2.2).1=true then some (yS w t.2.1 (sdl (ps.getD t.1.toNat ([],[])) t.2.2).1 (sdl (ps.getD t.1.toNat ([],[])) t.2.2).2) else none) else none
theorem Qo{H:Hp}{D p:Addr}{ds es:List L3.D}{xs vs:List V}(h1:H D=some (.lst xs))(h2:Iss K H ds xs)(hp:H p=none)(hv:Iss K H es vs)(f:zR ds)(fe:zR es):LsA K (upd (upd H p (.tup vs)) D (.lst (xs ++ [.ref p]))) D (ds ++ [.tup es]):=by
 have e:(upd H p (.tup vs)) D=some (.lst xs):=zd hp _ _ h1
 exact LsA.snoc e (Iss.same (zd hp) _ _ h2) f (by simp only[xt];exact fe) (Is.tup hp hv)
theorem Qa{H:Hp}{l m:List Nat}:Iss K H [dS l,dS m] [.str (tx l),.str (tx m)]:=by
 simp only[Iss,Is]
 exact⟨_,_,rfl,rfl,_,_,rfl,rfl,rfl⟩
def jb(rs:List zr):Prop:=rs.length<=30/\∀ r ∈ rs,r.1.length<=100/\r.2.length<=100
theorem Jv{H:Hp}{t:Stp}{v:V}(h:Is K H (dSt t) v):∃ p,v=.ref p/\SqT K H p [.int t.1,.int t.2.1,.bl t.2.2]:=by
 simp only[dSt,Is,Iss] at h
 obtain⟨a,xs,e,hs,v1,r1,rfl,rfl,v2,r2,rfl,rfl,v3,r3,rfl,rfl,rfl⟩:=h
 exact⟨a,e,hs⟩
theorem jL{H:Hp}{p:Addr}{t:Stp}(h:SqT K H p [.int t.1,.int t.2.1,.bl t.2.2]):Is K H (dSt t) (.ref p):=by
 simp only[dSt,Is,Iss]
 exact⟨p,_,rfl,h,_,_,rfl,rfl,_,_,rfl,rfl,_,_,rfl,rfl,rfl⟩
theorem Jr{H:Hp}{i j:Int}{b:Bool}:Iss K H [.int i,.int j,.bl b] [.int i,.int j,.bl b]:=by
 simp only[Iss,Is]
 exact⟨_,_,rfl,rfl,_,_,rfl,rfl,_,_,rfl,rfl,rfl⟩
theorem wg(rs:List Stp):zR (rs.map dSt):=wM fun d h=>by obtain⟨r,_,rfl⟩:=List.mem_map.mp h;simp only[dSt,xt,zR,and_self]
theorem vd{H:Hp}{rs:List Stp}{vs:List V}{j:Nat}{v:V}(h:Iss K H (rs.map dSt) vs)(q:vs[j]? = some v):∃ r p,rs[j]? = some r/\v=.ref p/\SqT K H p [.int r.1,.int r.2.1,.bl r.2.2]:=by
 obtain⟨d,e,i⟩:=h.get q
 rw[aG] at e
 obtain⟨r,hr,rfl⟩:=Option.map_eq_some_iff.mp e
 obtain⟨p,e1,e2⟩:=Jv i
 exact⟨r,p,hr,e1,e2⟩
theorem zaV{H:Hp}{rs:List zr}{xs:List V}{i:Int}(hI:Iss K H (rs.map dR) xs)(h0:0<=i)(hi:i<rs.length):∃ p,atI xs i=some (.ref p)/\rs[i.toNat]? = some (rs.getD i.toNat ([],[]))/\SqT K H p [.str (tx (rs.getD i.toNat ([],[])).1),.str (tx (rs.getD i.toNat ([],[])).2)]:=by
 have hl:=hI.len
 rw[ae] at hl
 obtain⟨v,a1,b1⟩:=vQ (xs:=xs) (i:=i) h0 (by omega)
 obtain⟨r,p,h1,rfl,h3⟩:=hI.getR b1
 have e:rs.getD i.toNat ([],[])=r:=by rw[ac,h1];rfl
 rw[e]
 exact⟨p,a1,h1,h3⟩
theorem Ys{rs:List zr}(h:jb rs)(i:Nat):(rs.getD i ([],[])).1.length<=100/\(rs.getD i ([],[])).2.length<=100:=by
 rw[ac]
 cases e:rs[i]? with
 | none=>exact⟨aJ _,aJ _⟩
 | some r=>exact h.2 r (af e)
theorem y8{ps:List zr}{w:List Nat}{t:Stp}(h:¬ (0<=t.1/\t.1<ps.length)):yo ps w t=none:=if_neg h
theorem yG{ps:List zr}{w:List Nat}{t:Stp}(h:0<=t.1/\t.1<ps.length):yo ps w t=if zu w t.2.1 (sdl (ps.getD t.1.toNat ([],[])) t.2.2).1=true then some (yS w t.2.1 (sdl (ps.getD t.1.toNat ([],[])) t.2.2).1 (sdl (ps.getD t.1.toNat ([],[])) t.2.2).2) else none:=if_pos h
def Ch(rs:List zr)(ws:List (List Nat))(ss:List Stp):Prop:=ws.length=ss.length+1/\∀ i s,ss[i]? = some s->∃ w w',ws[i]? = some w/\ws[i+1]? = some w'/\yo rs w s=some w'
def bk(s:Stp):Stp:=(s.1,s.2.1,!s.2.2)
def yX(ss:List Stp):List Stp:=ss.reverse.map bk
def mvL(ss:List Stp)(z:Int):List Stp:=ss.map fun s=>(s.1,s.2.1+z,s.2.2)
theorem K0(r:zr)(f:Bool):sdl r (!f)=((sdl r f).2,(sdl r f).1):=by cases f <;> rfl
theorem jx{rs:List zr}{w w':List Nat}{s:Stp}(h:yo rs w s=some w'):yo rs w' (bk s)=some w:=by
 by_cases hb:0<=s.1/\s.1<rs.length
 ·rw[yG hb] at h
  have hb':0<=(bk s).1/\(bk s).1<rs.length:=hb
  rw[yG hb']
  simp only[bk,K0]
  generalize sdl (rs.getD s.1.toNat ([],[])) s.2.2=r at *
  by_cases hs:zu w s.2.1 r.1=true
  ·rw[if_pos hs] at h
   cases h
   obtain⟨e1,e2⟩:=Xq r.2 hs
   rw[if_pos e1,e2]
  ·rw[if_neg hs] at h
   cases h
 ·rw[y8 hb] at h
  cases h
theorem Ch.back{rs:List zr}{ws:List (List Nat)}{ss:List Stp}(h:Ch rs ws ss):Ch rs ws.reverse (yX ss):=by
 obtain⟨hl,hs⟩:=h
 refine⟨by simp [yX,hl],fun i s hi=>?_⟩
 have hil:i<ss.length:=by have:=(List.getElem?_eq_some_iff.mp hi).1;simpa [yX] using this
 unfold yX at hi
 rw[aG,bL hil] at hi
 obtain⟨s0,h0,rfl⟩:=Option.map_eq_some_iff.mp hi
 obtain⟨w,w',e1,e2,e3⟩:=hs _ _ h0
 refine⟨w',w,?_,?_,jx e3⟩
 ·rw[bL (by omega),<- e2]
  congr 1
  omega
 ·rw[bL (by omega),<- e1]
  congr 1
  omega
theorem Xv{a w b:List Nat}{k:Nat}(h:k<=w.length):(a ++ w ++ b).drop (a.length+k)=w.drop k ++ b:=by
 rw[ax,<- dJ,cD,bM h]
theorem kD{a w b o:List Nat}{k:Int}(h:zu w k o=true):zu (a ++ w ++ b) (k+(a.length:Int)) o=true:=by
 obtain⟨_,_,h0,h1⟩:=xm h
 unfold zu at h ⊢
 rw[decide_eq_true_eq] at h ⊢
 obtain⟨_,_,h2⟩:=h
 refine⟨by omega,by simp only[am];omega,?_⟩
 rw[show (k+(a.length:Int)).toNat=a.length+k.toNat by omega,Xv (by omega),aU (by rw[br];omega),h2]
theorem XU{a w b o n:List Nat}{k:Int}(h:zu w k o=true):yS (a ++ w ++ b) (k+(a.length:Int)) o n=a ++ yS w k o n ++ b:=by
 obtain⟨_,_,h0,h1⟩:=xm h
 unfold yS
 rw[show (k+(a.length:Int)).toNat=a.length+k.toNat by omega]
 have e1:(a ++ w ++ b).take (a.length+k.toNat)=a ++ w.take k.toNat:=by
  rw[ax,List.take_length_add_append,aU (by omega)]
 have e2:(a ++ w ++ b).drop (a.length+k.toNat+o.length)=w.drop (k.toNat+o.length) ++ b:=by
  rw[Nat.add_assoc]
  exact Xv (by omega)
 rw[e1,e2]
 simp [ax]
theorem uA{rs:List zr}{w w':List Nat}{s:Stp}(a b:List Nat)(h:yo rs w s=some w'):yo rs (a ++ w ++ b) (s.1,s.2.1+(a.length:Int),s.2.2)=some (a ++ w' ++ b):=by
 by_cases hb:0<=s.1/\s.1<rs.length
 ·rw[yG hb] at h
  rw[yG (by exact hb)]
  simp only
  generalize sdl (rs.getD s.1.toNat ([],[])) s.2.2=r at *
  by_cases hs:zu w s.2.1 r.1=true
  ·rw[if_pos hs] at h
   cases h
   rw[if_pos (kD hs),XU hs]
  ·rw[if_neg hs] at h
   cases h
 ·rw[y8 hb] at h
  cases h
theorem Ch.within{rs:List zr}{ws:List (List Nat)}{ss:List Stp}(a b:List Nat)(h:Ch rs ws ss):Ch rs (ws.map fun w=>a ++ w ++ b) (mvL ss (a.length:Int)):=by
 obtain⟨hl,hs⟩:=h
 refine⟨by simp [mvL,hl],fun i s hi=>?_⟩
 unfold mvL at hi
 rw[aG] at hi
 obtain⟨s0,h0,rfl⟩:=Option.map_eq_some_iff.mp hi
 obtain⟨w,w',e1,e2,e3⟩:=hs _ _ h0
 exact⟨a ++ w ++ b,a ++ w' ++ b,by rw[aG,e1];rfl,by rw[aG,e2];rfl,uA a b e3⟩
def Fit(rs:List zr)(w:List Nat)(m:Int)(s:Stp):Prop:=∃ w',yo rs w s=some w'/\(w'.length:Int)<=m
theorem Xk{w o n:List Nat}{k:Int}(h:zu w k o=true):(yS w k o n).length+o.length=w.length+n.length:=by
 obtain⟨e,hl,h0,h1⟩:=xm h
 unfold yS
 simp only[am,br,hl]
 omega
theorem w8{H:Hp}{D p:Addr}{ds es:List L3.D}{xs vs:List V}(h1:H D=some (.lst xs))(h2:Iss K H ds xs)(hp:H p=none)(hv:Iss K H es vs)(f:zR ds)(fe:zR es):Iss K (upd (upd H p (.tup vs)) D (.lst (xs ++ [.ref p]))) (ds ++ [.tup es]) (xs ++ [.ref p]):=by
 obtain⟨ys,hy1,hy2⟩:=Qo h1 h2 hp hv f fe
 rw[zf] at hy1
 cases hy1
 exact hy2
def ub(K:oO):Sp:=fun vs H Q _=>∃(t:Addr) (ss:List Stp),vs=[.ref t]/\Is K H (.lst (ss.map dSt)) (.ref t)/\ss.length<=1000/\∀(D:Addr) (H':Hp),H D=none->Same H H'->LsA K H' D ((yX ss).map dSt)->Q (.ref D) H'
theorem ka{t:Addr}{ss:List Stp}{H:Hp}{Q:VK}{E:XK}(h1:Is K H (.lst (ss.map dSt)) (.ref t))(h2:ss.length<=1000)(h:∀(D:Addr) (H':Hp),H D=none->Same H H'->LsA K H' D ((yX ss).map dSt)->Q (.ref D) H'):ub K [.ref t] H Q E:=⟨t,ss,rfl,h1,h2,h⟩
theorem Kt{ss:List Stp}{i:Nat}{s:Stp}(h:ss.reverse[i]? = some s):(yX ss).take (i+1)=(yX ss).take i ++ [bk s]:=zW (by unfold yX;rw[aG,h];rfl)
theorem JX:zq ["steps"] ["steps"] (zb qr):=⟨rfl,rfl,rfl,by decide +kernel,rfl,by decide +kernel,by decide +kernel⟩
theorem Ko{f:Addr}{fd:FuncData}(B:Bt mg)(F:Fun K "back" "back" qr f fd) : FnOk P w K mg base CX0 1 f fd ["steps"] (ub K):=by
 refine F.ok JX (fun vs H Q E h=>?_) (fun cdv A outer s H vs Q E hr h=>?_)
 ·obtain⟨t,ss,rfl,_⟩:=h
  rfl
 ·obtain⟨t,ss,rfl,hT,hsl,q⟩:=h
  refine⟨_,(zh (zx (xY (own:=["step"]) (caps:=[]) (ix:=[]) (tt:=vT) (te:=(Uz (zP (tOp (uO K) (xx 0) (tC (.int 0))) (zP (tOp (uO K) (xx 0) (tC (.int 1))) (zP (JY (tOp (uO K) (xx 0) (tC (.int 2)))) vf))))) rfl (yb (sc:=zb qr) rfl (by decide +kernel) (by decide +kernel) (by decide +kernel) rfl (by decide +kernel) (by decide +kernel) rfl) (zaK rfl B.rev (za (pv 0) ze)) (fun _ _ _ _ _ _=>zC (i:=0) (show List.Nodup [_] by decide) rfl (Or.inl rfl)) (fun _ _ _ _ _ _=>xv) (fun _ _ _ _ _ _=>(z9 (za (zw ix_tup (pv 0) zg (fun _ _=>rfl)) (za (zw ix_tup (pv 0) zg (fun _ _=>rfl)) (za (Jj (zw ix_tup (pv 0) zg (fun _ _=>rfl))) ze)))))))),?_⟩
  have s16:=ym
  rfl'
  simp only[Is] at hT
  obtain⟨_,ts,e,hTs,hJ⟩:=hT
  cases e
  have htl:=hJ.len
  rw[ae] at htl
  have hbl:(yX ss).length=ss.length:=by simp [yX]
  refine⟨ts,hTs,fun D hD=>CompV.by (xs:=ts) (fun i acc H'=>Same H H'/\H' D=some (.lst acc)/\Iss K H' (((yX ss).take i).map dSt) acc) ⟨zd hD,zf,by simp only[bA,aN,Iss]⟩ (fun i acc H' _ h=>h.1.seq hTs) ?_ ?_⟩
  ·rintro i x acc H' hx ⟨hs,hH,hA⟩
   have hi:i<ts.length:=by have:=(List.getElem?_eq_some_iff.mp hx).1;simpa using this
   rw[bL hi] at hx
   obtain⟨s,ps,hsi,rfl,hqs⟩:=vd hJ hx
   have hsr:ss.reverse[i]? = some s:=by rw[bL (by omega),<- hsi,htl]
   have hal:=hA.len
   rw[ae,aK] at hal
   simp only[vT]
   rfl'
   refine⟨wD,_,zl hs hqs,_,rfl,_,zl hs hqs,_,rfl,_,zl hs hqs,_,rfl,_,rfl,by omega,fun p hp=>⟨zd hp _ _ hH,by omega,CNx.mk hi ⟨zG (hs.trans (zd hp)) hD,zf,?_⟩⟩⟩
   rw[Kt hsr,aH]
   exact w8 hH hA hp Jr (wg _) (by simp only[zR,xt,and_self])
  ·rintro acc H' ⟨hs,hH,hA⟩
   rw[htl,<- hbl,aQ] at hA
   exact q D H' hD hs ⟨acc,hH,hA⟩
def qi(K:oO):Sp:=fun vs H Q _=>∃(t:Addr) (ss:List Stp) (z:Int),vs=[.ref t,.int z]/\Is K H (.lst (ss.map dSt)) (.ref t)/\ss.length<=1000/\∀(D:Addr) (H':Hp),H D=none->Same H H'->LsA K H' D ((mvL ss z).map dSt)->Q (.ref D) H'
theorem Z0{t:Addr}{ss:List Stp}{z:Int}{H:Hp}{Q:VK}{E:XK}(h1:Is K H (.lst (ss.map dSt)) (.ref t))(h2:ss.length<=1000)(h:∀(D:Addr) (H':Hp),H D=none->Same H H'->LsA K H' D ((mvL ss z).map dSt)->Q (.ref D) H'):qi K [.ref t,.int z] H Q E:=⟨t,ss,z,rfl,h1,h2,h⟩
theorem QH:zq ["steps","size"] ["steps","size"] (zb vq):=⟨rfl,rfl,rfl,by decide +kernel,rfl,by decide +kernel,by decide +kernel⟩
theorem US{f:Addr}{fd:FuncData}(B:Bt mg)(F:Fun K "moved" "moved" vq f fd) : FnOk P w K mg base CX0 1 f fd ["steps","size"] (qi K):=by
 refine F.ok QH (fun vs H Q E h=>?_) (fun cdv A outer s H vs Q E hr h=>?_)
 ·obtain⟨t,ss,z,rfl,_⟩:=h
  rfl
 ·obtain⟨t,ss,z,rfl,hT,hsl,q⟩:=h
  refine⟨_,(zh (zx (xY (own:=["step"]) (caps:=["size"]) (ix:=[1]) (tt:=vT) (te:=(Uz (zP (tOp (uO K) (xx 0) (tC (.int 0))) (zP (tOp UL (tOp (uO K) (xx 0) (tC (.int 1))) (xx 1)) (zP (tOp (uO K) (xx 0) (tC (.int 2))) vf))))) rfl (yb (sc:=zb vq) rfl (by decide +kernel) (by decide +kernel) (by decide +kernel) rfl (by decide +kernel) (by decide +kernel) rfl) (yC (pv 0)) (fun _ _ _ _ _ _=>zC (i:=0) (show List.Nodup [_,_] by decide) rfl (Or.inl rfl)) (fun _ _ _ _ _ _=>xv) (fun _ _ _ _ _ _=>(z9 (za (zw ix_tup (pv 0) zg (fun _ _=>rfl)) (za (zB yB (zw ix_tup (pv 0) zg (fun _ _=>rfl)) (pv 1)) (za (zw ix_tup (pv 0) zg (fun _ _=>rfl)) ze)))))))),?_⟩
  have s16:=ym
  rfl'
  simp only[Is] at hT
  obtain⟨_,ts,e,hTs,hJ⟩:=hT
  cases e
  have htl:=hJ.len
  rw[ae] at htl
  have hbl:(mvL ss z).length=ss.length:=by simp [mvL]
  refine⟨⟨ts,hTs⟩,fun D hD=>CompL.by (xs:=ts) (fun i acc H'=>Same H H'/\H' D=some (.lst acc)/\Iss K H' (((mvL ss z).take i).map dSt) acc) ⟨zd hD,zf,by simp only[bA,aN,Iss]⟩ (fun i acc H' _ h=>h.1.seq hTs) ?_ ?_⟩
  ·rintro i x acc H' hx ⟨hs,hH,hA⟩
   have hi:=(List.getElem?_eq_some_iff.mp hx).1
   obtain⟨s,ps,hsi,rfl,hqs⟩:=vd hJ hx
   have hm:(mvL ss z)[i]? = some (s.1,s.2.1+z,s.2.2):=by unfold mvL;rw[aG,hsi];rfl
   have hal:=hA.len
   rw[ae,aK] at hal
   simp only[vT]
   rfl'
   refine⟨wD,_,zl hs hqs,_,rfl,_,zl hs hqs,_,rfl,_,rfl,_,zl hs hqs,_,rfl,by omega,fun p hp=>⟨zd hp _ _ hH,by omega,CNx.mk hi ⟨zG (hs.trans (zd hp)) hD,zf,?_⟩⟩⟩
   rw[zW hm,aH]
   exact w8 hH hA hp Jr (wg _) (by simp only[zR,xt,and_self])
  ·rintro acc H' ⟨hs,hH,hA⟩
   rw[htl,<- hbl,aQ] at hA
   exact q D H' hD hs ⟨acc,hH,hA⟩
abbrev Ent:=List Nat × List Nat × List Stp
def dE(e:Ent):L3.D:=.tup [dS e.1,dS e.2.1,.lst (e.2.2.map dSt)]
def Wv(es:List Ent)(u:Stp):List Stp:=mvL (if u.2.2=true then (es.getD u.1.toNat ([],[],[])).2.2 else yX (es.getD u.1.toNat ([],[],[])).2.2) u.2.1
def byL(es:List Ent)(us:List Stp):List Stp:=us.flatMap (Wv es)
theorem zaX{H:Hp}{e:Ent}{v:V}(h:Is K H (dE e) v):∃ p s,v=.ref p/\SqT K H p [.str (tx e.1),.str (tx e.2.1),.ref s]/\Is K H (.lst (e.2.2.map dSt)) (.ref s):=by
 simp only[dE,Is,Iss] at h
 obtain⟨a,xs,e0,hs,v1,r1,rfl,rfl,v2,r2,rfl,rfl,v3,r3,rfl,⟨s,zs,rfl,h1,h2⟩,rfl⟩:=h
 refine⟨a,s,e0,hs,?_⟩
 simp only[Is]
 exact⟨s,zs,rfl,h1,h2⟩
theorem zdi{H:Hp}{es:List Ent}{xs:List V}{i:Int}(hI:Iss K H (es.map dE) xs)(h0:0<=i)(hi:i<es.length):∃ p s,atI xs i=some (.ref p)/\es[i.toNat]? = some (es.getD i.toNat ([],[],[]))/\SqT K H p [.str (tx (es.getD i.toNat ([],[],[])).1),.str (tx (es.getD i.toNat ([],[],[])).2.1),.ref s]/\Is K H (.lst ((es.getD i.toNat ([],[],[])).2.2.map dSt)) (.ref s):=by
 have hl:=hI.len
 rw[ae] at hl
 obtain⟨v,a1,b1⟩:=vQ (xs:=xs) (i:=i) h0 (by omega)
 obtain⟨d,e,ix⟩:=hI.get b1
 rw[aG] at e
 obtain⟨r,hr,rfl⟩:=Option.map_eq_some_iff.mp e
 have e:es.getD i.toNat ([],[],[])=r:=by rw[ac,hr];rfl
 rw[e]
 obtain⟨p,s,rfl,h2,h3⟩:=zaX ix
 exact⟨p,s,a1,hr,h2,h3⟩
theorem XF(ss:List Stp)(z:Int):(mvL ss z).length=ss.length:=by simp [mvL]
theorem xV(ss:List Stp):(yX ss).length=ss.length:=by simp [yX]
def Ur(K:oO):Sp:=fun vs H Q _=>∃(a t:Addr) (es:List Ent) (us:List Stp),vs=[.ref a,.ref t]/\Is K H (.lst (es.map dE)) (.ref a)/\Is K H (.lst (us.map dSt)) (.ref t)/\us.length<=100/\(∀ e ∈ es,e.2.2.length<=600)/\(∀ u ∈ us,0<=u.1/\u.1<es.length)/\∀(D:Addr) (H':Hp),H D=none->Same H H'->LsA K H' D ((byL es us).map dSt)->Q (.ref D) H'
theorem iM:zq ["entries","steps","chain","step","own"] ["entries","steps"] (zb xE):=⟨rfl,rfl,rfl,by decide +kernel,rfl,by decide +kernel,by decide +kernel⟩
theorem Yp{f:Addr}{fd:FuncData}(B:Bt mg)(F:Fun K "by_pacts" "by_pacts" xE f fd)(oq:Df P w K mg base CX0 1 "moved" ["steps","size"] [] (qi K))(mj:Df P w K mg base CX0 1 "back" ["steps"] [] (ub K)):FnOk P w K mg base CX0 2 f fd ["entries","steps"] (Ur K):=by
 refine F.ok iM (fun vs H Q E h=>?_) (fun cdv A outer s H vs Q E hr h=>?_)
 ·obtain⟨a,t,es,us,rfl,_⟩:=h
  rfl
 ·obtain⟨a,t,es,us,rfl,hE,hU,hul,hel,hub,q⟩:=h
  refine⟨_,(zi (zt (i:=2) iM.nd rfl (Or.inl rfl) (xR ze))
   (zi (yF PassesOwn.never rfl (yC (pv 1)) (zC (i:=3) iM.nd rfl (Or.inl rfl))
    (zi (zt (i:=4) iM.nd rfl (Or.inl rfl) (zw ix_tup (zw ix_list (pv 0) (zw ix_tup (pv 3) zg (fun _ _=>rfl)) (fun _ _=>rfl)) zg (fun _ _=>rfl)))
    (zh (xJ (vR bc PySem.F.slot_list_extend PySem.F.type_list_extend WG (pv 2) (za (cl0 oq hr .nil rfl (za (kF (xz (zw ix_tup (pv 3) zg (fun _ _=>rfl)) (fun _=>rfl)) (pv 4) (cl0 mj hr .nil rfl (za (pv 4) ze))) (za (zw ix_tup (pv 3) zg (fun _ _=>rfl)) ze))) ze))))))
   (zh (zx (pv 2))))),?_⟩
  have s16:=ym
  have hE':=hE
  have hU':=hU
  simp only[Is] at hE' hU'
  obtain⟨_,xs,e,hX,hI⟩:=hE'
  cases e
  obtain⟨_,ts,e,hTs,hJ⟩:=hU'
  cases e
  have htl:=hJ.len
  rw[ae] at htl
  refine zj (fun σ H'=>∃ D,H D=none/\Same H H'/\H' D=some (.lst [])/\σ=[some (.ref a),some (.ref t),some (.ref D),none,none]) ?_ ?_
  ·rfl'
   exact⟨by omega,fun p hp=>⟨p,hp,zd hp,zf,rfl⟩⟩
  rintro σ H1 ⟨D,hD,s1,hD1,rfl⟩
  refine zj (fun σ H'=>Same H H'/\LsA K H' D ((byL es us).map dSt)/\∃ v3 v4,σ=[some (.ref a),some (.ref t),some (.ref D),v3,v4]) ?_ ?_
  ·rfl'
   refine⟨⟨_,s1.seq hTs⟩,ForL.by (xs:=ts) (fun i σ H'=>Same H H'/\LsA K H' D ((byL es (us.take i)).map dSt)/\(byL es (us.take i)).length<=i * 600/\∃ v3 v4,σ=[some (.ref a),some (.ref t),some (.ref D),v3,v4]) ⟨s1,⟨[],hD1,by simp only[bA,byL,List.flatMap_nil,aN,Iss]⟩,by simp [byL],_,_,rfl⟩ (fun i σ H' _ h=>h.1.seq hTs) ?_ ?_⟩
   ·rintro i x σ H' hx ⟨hs,hL,hl,v3,v4,rfl⟩
    obtain⟨u,pu,hui,rfl,hqu⟩:=vd hJ hx
    have hil:=(List.getElem?_eq_some_iff.mp hui).1
    obtain⟨u0,u1⟩:=hub u (af hui)
    obtain⟨pe,se,g1,g2,g3,g4⟩:=zdi hI u0 u1
    have hle:=hel _ (af g2)
    have hby:byL es (us.take (i+1))=byL es (us.take i) ++ Wv es u:=by
     unfold byL
     rw[zW hui,cY]
     simp
    simp only[xA,bj,bi]
    refine zj (fun σ H''=>H''=H'/\σ=[some (.ref a),some (.ref t),some (.ref D),some (.ref pu),some (.ref se)]) ?_ ?_
    ·rfl'
     exact⟨_,zl hs hqu,_,rfl,_,_,rfl,hs.seq hX,_,g1,_,rfl,_,zl hs g3,rfl⟩
    rintro σ G ⟨rfl,rfl⟩
    obtain⟨zs,hZ,hZI⟩:=id hL
    have hzl:=hZI.len
    rw[ae] at hzl
    have hse:=Is.same hs _ _ g4
    have fin:∀(ws:List Stp) (M:Addr) (G2:Hp),Wv es u=ws->ws.length<=600->Same G G2->LsA K G2 M (ws.map dSt)->Uv (V.ref D) [V.ref M] G2 fun x H1=>Same H H1/\LsA K H1 D ((byL es (us.take (i+1))).map dSt)/\(byL es (us.take (i+1))).length<=(i+1) * 600:=fun ws M G2 ew hwl sg hM=>by
     obtain⟨ys,hY,hYI⟩:=hM
     have hyl:=hYI.len
     rw[ae] at hyl
     have hZ2:=sg _ _ hZ
     refine⟨D,M,zs,ys,rfl,rfl,hZ2,hY,by omega,zG (hs.trans sg) hD,⟨_,zf,?_⟩,?_⟩
     ·rw[hby,ew,aH]
      exact Iss.append (Iss.updL hZ2 _ _ (wg _) (Iss.same sg _ _ hZI)) (Iss.updL hZ2 _ _ (wg _) hYI)
     ·rw[hby,ew,am]
      omega
    rfl'
    refine⟨.inl ⟨_,SqL.of hZ⟩,_,zl hs hqu,_,rfl,_,rfl,xj (fun hf=>⟨_,zl hs hqu,_,rfl,Z0 hse (by omega) fun M G2 _ sg hM=>fin _ M G2 (by unfold Wv;rw[if_pos hf]) (by rw[XF];omega) sg hM⟩) fun hf=>ka hse (by omega) fun M0 G1 _ sg0 hM0=>⟨_,zl (hs.trans sg0) hqu,_,rfl,Z0 hM0.is (by rw[xV];omega) fun M G2 _ sg hM=>fin _ M G2 (by unfold Wv;rw[if_neg hf]) (by rw[XF,xV];omega) (sg0.trans sg) hM⟩⟩
   ·rintro σ H' ⟨hs,hL,hl,v3,v4,rfl⟩
    rw[htl,aQ] at hL
    exact⟨hs,hL,_,_,rfl⟩
  rintro σ H2 ⟨s2,hL2,v3,v4,rfl⟩
  rfl'
  exact q D H2 hD s2 hL2
def yd(rs:List zr):List Nat->List Stp->Option (List Nat)
 | w,[]=>some w
 | w,s::ss=>(yo rs w s).bind fun w'=>yd rs w' ss
theorem wC(rs:List zr):∀(ss ts:List Stp) (w:List Nat),yd rs w (ss ++ ts)=(yd rs w ss).bind fun w'=>yd rs w' ts
 | [],ts,w=>rfl
 | s::ss,ts,w=>by
  simp only[bF,yd]
  cases yo rs w s with
  | none=>rfl
  | some w1=>exact wC rs ss ts w1
theorem vH{rs:List zr}{s:Stp}{ss:List Stp}{w w':List Nat}(h:yd rs w (s::ss)=some w'):∃ w1,yo rs w s=some w1/\yd rs w1 ss=some w':=by
 simp only[yd] at h
 obtain⟨w1,h1,h2⟩:=Option.bind_eq_some_iff.mp h
 exact⟨w1,h1,h2⟩
theorem qL{rs:List zr}{s:Stp}{ss:List Stp}{w w1 w2:List Nat}(h:yd rs w ss=some w1)(h2:yo rs w1 s=some w2):yd rs w (ss ++ [s])=some w2:=by
 rw[wC,h]
 simp only[yd,bU]
 rw[h2]
 rfl
theorem Ul(s:Stp)(ss:List Stp):yX (s::ss)=yX ss ++ [bk s]:=by simp [yX]
theorem vC{rs:List zr}:∀{ss:List Stp} {w w':List Nat},yd rs w ss=some w'->yd rs w' (yX ss)=some w
 | [],w,w',h=>by cases h;rfl
 | s::ss,w,w',h=>by
  obtain⟨w1,h1,h2⟩:=vH h
  rw[Ul]
  exact qL (vC h2) (jx h1)
theorem ja{rs:List zr}(a b:List Nat):∀{ss:List Stp} {w w':List Nat},yd rs w ss=some w'->yd rs (a ++ w ++ b) (mvL ss (a.length:Int))=some (a ++ w' ++ b)
 | [],w,w',h=>by cases h;rfl
 | s::ss,w,w',h=>by
  obtain⟨w1,h1,h2⟩:=vH h
  have e:mvL (s::ss) (a.length:Int)=(s.1,s.2.1+(a.length:Int),s.2.2)::mvL ss (a.length:Int):=rfl
  rw[e]
  simp only[yd]
  rw[uA a b h1]
  exact ja a b h2
def EOk(rs:List zr)(e:Ent):Prop:=yd rs e.1 e.2.2=some e.2.1
def zc(es:List Ent):List zr:=es.map fun e=>(e.1,e.2.1)
theorem UF{rs:List zr}{es:List Ent}(hE:∀ e ∈ es,EOk rs e){u:Stp}{w w':List Nat}(h:yo (zc es) w u=some w'):yd rs w (Wv es u)=some w':=by
 have hb:0<=u.1/\u.1<(zc es).length:=bw fun hb=>by rw[y8 hb] at h;cases h
 rw[yG hb] at h
 have hl:(zc es).length=es.length:=by unfold zc;rw[ae]
 rw[hl] at hb
 have hg:es[u.1.toNat]? = some (es.getD u.1.toNat ([],[],[])):=by
  rw[ac,al (by omega)]
  rfl
 have hp:(zc es).getD u.1.toNat ([],[])=((es.getD u.1.toNat ([],[],[])).1,(es.getD u.1.toNat ([],[],[])).2.1):=by
  unfold zc
  rw[ac,aG,hg]
  rfl
 rw[hp] at h
 have he:=hE _ (af hg)
 unfold Wv
 generalize es.getD u.1.toNat ([],[],[])=e at *
 have key:∀(o n:List Nat) (ss:List Stp),sdl (e.1,e.2.1) u.2.2=(o,n)->yd rs o ss=some n->yd rs w (mvL ss u.2.1)=some w':=fun o n ss hs hw=>by
  rw[hs] at h
  by_cases hst:zu w u.2.1 o=true
  ·rw[if_pos hst] at h
   cases h
   obtain⟨e1,e2,h0,h1⟩:=xm hst
   have:=ja (w.take u.2.1.toNat) (w.drop (u.2.1.toNat+o.length)) hw
   rw[e1,e2,show ((u.2.1.toNat:Nat):Int)=u.2.1 by omega] at this
   exact this
  ·rw[if_neg hst] at h
   cases h
 cases hf:u.2.2 with
 | true =>
  rw[if_pos rfl]
  exact key e.1 e.2.1 e.2.2 (by rw[hf];rfl) he
 | false =>
  rw[if_neg (by decide)]
  exact key e.2.1 e.1 (yX e.2.2) (by rw[hf];rfl) (vC he)
theorem kQ{rs:List zr}{es:List Ent}(hE:∀ e ∈ es,EOk rs e):∀{us:List Stp} {w w':List Nat},yd (zc es) w us=some w'->yd rs w (byL es us)=some w'
 | [],w,w',h=>by cases h;rfl
 | u::us,w,w',h=>by
  obtain⟨w1,h1,h2⟩:=vH h
  have e:byL es (u::us)=Wv es u ++ byL es us:=by simp [byL]
  rw[e,wC,UF hE h1]
  exact kQ hE h2
theorem WU{rs:List zr}(ok:jb rs){w w':List Nat}{s:Stp}(h:yo rs w s=some w'):w'.length<=w.length+100:=by
 have hb:0<=s.1/\s.1<rs.length:=bw fun hb=>by rw[y8 hb] at h;cases h
 rw[yG hb] at h
 have g:=Ys ok s.1.toNat
 generalize rs.getD s.1.toNat ([],[])=r at *
 by_cases hs:zu w s.2.1 (sdl r s.2.2).1=true
 ·rw[if_pos hs] at h
  cases h
  have:=Xk (n:=(sdl r s.2.2).2) hs
  have h2:(sdl r s.2.2).2.length<=100:=by
   cases s.2.2
   ·exact g.1
   ·exact g.2
  omega
 ·rw[if_neg hs] at h
  cases h
def ju(D:Addr)(H:Hp):Hp:=fun b=>if b=D then none else H b
theorem wJ{D b:Addr}{H:Hp}(h:b≠D):ju D H b=H b:=by unfold ju;rw[if_neg h]
theorem jg{D:Addr}{H:Hp}:ju D H D=none:=by unfold ju;rw[if_pos rfl]
theorem wX{D:Addr}{H:Hp}:Same (ju D H) H:=fun b o e=>by
 by_cases hb:b=D
 ·rw[hb,jg] at e;cases e
 ·rw[wJ hb] at e;exact e
theorem Ua{D:Addr}{H H':Hp}(hD:H D=none)(s:Same H H'):Same H (ju D H'):=fun b o e=>by
 have hb:b≠D:=fun z=>by rw[z,hD] at e;cases e
 rw[wJ hb]
 exact s _ _ e
theorem wP{D:Addr}{H H':Hp}(s:Same H H'):Same (ju D H) (ju D H'):=fun b o e=>by
 by_cases hb:b=D
 ·rw[hb,jg] at e;cases e
 ·rw[wJ hb] at e ⊢;exact s _ _ e
theorem xS{D:Addr}{H:Hp}{o:HO}:Same (ju D H) (ju D (upd H D o)):=fun b o' e=>by
 by_cases hb:b=D
 ·rw[hb,jg] at e;cases e
 ·rw[wJ hb] at e ⊢;rw[zo hb];exact e
theorem Vl{D a:Addr}{H:Hp}{xs ys:List V}(hD:H D=some (.lst ys))(h:SqT K H a xs):SqT K (ju D H) a xs:=by
 rcases h with (h | ⟨o,h⟩) | h
 ·exact .inl (.inl (by rw[wJ (fun e=>by rw[e,hD] at h;cases h)];exact h))
 ·exact .inl (.inr ⟨o,by rw[wJ (fun e=>by rw[e,hD] at h;cases h)];exact h⟩)
 ·exact .inr h
theorem Y3{D:Addr}{H:Hp}{ys:List V}(hD:H D=some (.lst ys)):∀(ss:List Stp) (vs:List V),Iss K H (ss.map dSt) vs->Iss K (ju D H) (ss.map dSt) vs
 | [],vs,h=>by simp only[aN,Iss] at h ⊢;exact h
 | s::ss,vs,h=>by
  simp only[aC,Iss] at h ⊢
  obtain⟨v,r,rfl,h1,h2⟩:=h
  obtain⟨p,rfl,h3⟩:=Jv h1
  exact⟨_,r,rfl,jL (Vl hD h3),Y3 hD ss r h2⟩
theorem zbD{H:Hp}{p s:Addr}{e:Ent}(h1:SqT K H p [.str (tx e.1),.str (tx e.2.1),.ref s])(h2:Is K H (.lst (e.2.2.map dSt)) (.ref s)):Is K H (dE e) (.ref p):=by
 simp only[dE,Is,Iss]
 simp only[Is] at h2
 exact⟨p,_,rfl,h1,_,_,rfl,rfl,_,_,rfl,rfl,_,_,rfl,h2,rfl⟩
theorem Xf{H:Hp}{es:List Ent}{vs:List V}{j:Nat}{v:V}(h:Iss K H (es.map dE) vs)(q:vs[j]? = some v):∃ e p s,es[j]? = some e/\v=.ref p/\SqT K H p [.str (tx e.1),.str (tx e.2.1),.ref s]/\Is K H (.lst (e.2.2.map dSt)) (.ref s):=by
 obtain⟨d,e,i⟩:=h.get q
 rw[aG] at e
 obtain⟨r,hr,rfl⟩:=Option.map_eq_some_iff.mp e
 obtain⟨p,s,e1,e2,e3⟩:=zaX i
 exact⟨r,p,s,hr,e1,e2,e3⟩
theorem VX{H:Hp}{d:L3.D}{v:V}(h:Is K H d v):Iss K H [d] [v]:=by
 simp only[Iss]
 exact⟨v,[],rfl,h,rfl⟩
def EnA(K:oO)(H:Hp)(e:Ent)(v:V):Prop:=∃ p s,v=.ref p/\SqT K H p [.str (tx e.1),.str (tx e.2.1),.ref s]/\LsA K H s (e.2.2.map dSt)
def EnsA(K:oO)(H:Hp):List Ent->List V->Prop
 | [],vs=>vs=[]
 | e::es,vs=>∃ v r,vs=v::r/\EnA K H e v/\EnsA K H es r
def EnsL(K:oO)(H:Hp)(a:Addr)(es:List Ent):Prop:=∃ xs,SqL K H a xs/\EnsA K H es xs
def EnsM(K:oO)(H:Hp)(a:Addr)(es:List Ent):Prop:=∃ xs,H a=some (.lst xs)/\EnsA K H es xs
theorem EnA.is{H:Hp}{e:Ent}{v:V}(h:EnA K H e v):Is K H (dE e) v:=by
 obtain⟨p,s,rfl,h1,h2⟩:=h
 exact zbD h1 h2.is
theorem EnA.same{H H':Hp}{e:Ent}{v:V}(h:EnA K H e v)(q:Same H H'):EnA K H' e v:=by
 obtain⟨p,s,e0,h1,h2⟩:=h
 exact⟨p,s,e0,zl q h1,h2.same q⟩
theorem EnsA.iss{H:Hp}:∀{es:List Ent} {vs:List V},EnsA K H es vs->Iss K H (es.map dE) vs
 | [],vs,h=>by simp only[EnsA] at h;simp only[aN,Iss];exact h
 | e::es,vs,h=>by
  simp only[EnsA] at h
  obtain⟨v,r,rfl,h1,h2⟩:=h
  simp only[aC,Iss]
  exact⟨v,r,rfl,h1.is,h2.iss⟩
theorem EnsA.len{H:Hp}{es:List Ent}{vs:List V}(h:EnsA K H es vs):vs.length=es.length:=by
 have:=h.iss.len
 rw[ae] at this
 exact this
theorem EnsA.same{H H':Hp}(q:Same H H'):∀{es:List Ent} {vs:List V},EnsA K H es vs->EnsA K H' es vs
 | [],vs,h=>by simp only[EnsA] at h ⊢;exact h
 | e::es,vs,h=>by
  simp only[EnsA] at h ⊢
  obtain⟨v,r,e0,h1,h2⟩:=h
  exact⟨v,r,e0,h1.same q,h2.same q⟩
theorem EnsA.snoc{H:Hp}{e:Ent}{v:V}(hv:EnA K H e v):∀{es:List Ent} {vs:List V},EnsA K H es vs->EnsA K H (es ++ [e]) (vs ++ [v])
 | [],vs,h=>by
  simp only[EnsA] at h
  subst h
  simp only[bv,EnsA]
  exact⟨v,[],rfl,hv,rfl⟩
 | e'::es,vs,h=>by
  simp only[EnsA] at h
  obtain⟨x,r,rfl,hx,hr⟩:=h
  simp only[bF,EnsA]
  exact⟨x,r ++ [v],rfl,hx,hr.snoc hv⟩
theorem EnsA.get{H:Hp}:∀{es:List Ent} {vs:List V} {j:Nat} {v:V},EnsA K H es vs->vs[j]? = some v->∃ e p s,es[j]? = some e/\v=.ref p/\SqT K H p [.str (tx e.1),.str (tx e.2.1),.ref s]/\LsA K H s (e.2.2.map dSt)
 | [],vs,j,v,h,q=>by
  simp only[EnsA] at h
  subst h
  simp at q
 | e::es,vs,0,v,h,q=>by
  simp only[EnsA] at h
  obtain⟨x,r,rfl,⟨p,s,rfl,h1,h2⟩,_⟩:=h
  cases q
  exact⟨e,p,s,rfl,rfl,h1,h2⟩
 | e::es,vs,j+1,v,h,q=>by
  simp only[EnsA] at h
  obtain⟨x,r,rfl,_,hr⟩:=h
  exact hr.get (j:=j) (by simpa using q)
theorem EnsL.is{H:Hp}{a:Addr}{es:List Ent}(h:EnsL K H a es):Is K H (.lst (es.map dE)) (.ref a):=by
 obtain⟨xs,h1,h2⟩:=h
 simp only[Is]
 exact⟨a,xs,rfl,h1,h2.iss⟩
theorem EnsL.same{H H':Hp}{a:Addr}{es:List Ent}(h:EnsL K H a es)(q:Same H H'):EnsL K H' a es:=by
 obtain⟨xs,h1,h2⟩:=h
 exact⟨xs,q.seq h1,h2.same q⟩
theorem EnsM.l{H:Hp}{a:Addr}{es:List Ent}(h:EnsM K H a es):EnsL K H a es:=by
 obtain⟨xs,h1,h2⟩:=h
 exact⟨xs,SqL.of h1,h2⟩
theorem EnsM.same{H H':Hp}{a:Addr}{es:List Ent}(h:EnsM K H a es)(q:Same H H'):EnsM K H' a es:=by
 obtain⟨xs,h1,h2⟩:=h
 exact⟨xs,q _ _ h1,h2.same q⟩
theorem EnA.new{D p s:Addr}{H:Hp}{e:Ent}{ys:List V}(hD:H D=some (.lst ys))(hp:H p=some (.tup [.str (tx e.1),.str (tx e.2.1),.ref s]))(hs:LsA K H s (e.2.2.map dSt))(hsD:s≠D):EnA K (ju D H) e (.ref p):=by
 obtain⟨zs,hz,hi⟩:=hs
 have hpD:p≠D:=fun z=>by rw[z,hD] at hp;cases hp
 exact⟨p,s,rfl,SqT.of (by rw[wJ hpD];exact hp),zs,by rw[wJ hsD];exact hz,Y3 hD _ _ hi⟩
theorem vM(es:List Ent):(zc es).length=es.length:=by unfold zc;rw[ae]
def wx(K:oO):Sp:=fun vs H Q _=>∃(a:Addr) (es:List Ent),vs=[.ref a]/\Is K H (.lst (es.map dE)) (.ref a)/\es.length<=1000/\∀(D:Addr) (H':Hp),H D=none->Same H H'->LsA K H' D ((zc es).map dR)->Q (.ref D) H'
theorem wN{a:Addr}{es:List Ent}{H:Hp}{Q:VK}{E:XK}(h1:Is K H (.lst (es.map dE)) (.ref a))(h2:es.length<=1000)(h:∀(D:Addr) (H':Hp),H D=none->Same H H'->LsA K H' D ((zc es).map dR)->Q (.ref D) H'):wx K [.ref a] H Q E:=⟨a,es,rfl,h1,h2,h⟩
theorem Yd:zq ["entries"] ["entries"] (zb y0):=⟨rfl,rfl,rfl,by decide +kernel,rfl,by decide +kernel,by decide +kernel⟩
theorem Yx{f:Addr}{fd:FuncData}(B:Bt mg)(F:Fun K "pairs_of" "pairs_of" y0 f fd) : FnOk P w K mg base CX0 1 f fd ["entries"] (wx K):=by
 refine F.ok Yd (fun vs H Q E h=>?_) (fun cdv A outer s H vs Q E hr h=>?_)
 ·obtain⟨a,es,rfl,_⟩:=h
  rfl
 ·obtain⟨a,es,rfl,hA,hl,q⟩:=h
  refine⟨_,(zh (zx (xY (own:=["entry"]) (caps:=[]) (ix:=[]) (tt:=vT) (te:=(Uz (zP (tOp (uO K) (xx 0) (tC (.int 0))) (zP (tOp (uO K) (xx 0) (tC (.int 1))) vf)))) rfl (yb (sc:=zb y0) rfl (by decide +kernel) (by decide +kernel) (by decide +kernel) rfl (by decide +kernel) (by decide +kernel) rfl) (yC (pv 0)) (fun _ _ _ _ _ _=>zC (i:=0) (show List.Nodup [_] by decide) rfl (Or.inl rfl)) (fun _ _ _ _ _ _=>xv) (fun _ _ _ _ _ _=>(z9 (za (zw ix_tup (pv 0) zg (fun _ _=>rfl)) (za (zw ix_tup (pv 0) zg (fun _ _=>rfl)) ze))))))),?_⟩
  have s16:=ym
  rfl'
  simp only[Is] at hA
  obtain⟨_,xs,e,hX,hI⟩:=hA
  cases e
  have hxl:=hI.len
  rw[ae] at hxl
  have hpl:=vM es
  refine⟨⟨xs,hX⟩,fun D hD=>CompL.by (xs:=xs) (fun i acc H'=>Same H H'/\H' D=some (.lst acc)/\Iss K H' (((zc es).take i).map dR) acc) ⟨zd hD,zf,by simp only[bA,aN,Iss]⟩ (fun i acc H' _ h=>h.1.seq hX) ?_ ?_⟩
  ·rintro i x acc H' hx ⟨hs,hH,hA⟩
   have hi:=(List.getElem?_eq_some_iff.mp hx).1
   obtain⟨e,pe,se,hei,rfl,hqe,_⟩:=Xf hI hx
   have hm:(zc es)[i]? = some (e.1,e.2.1):=by unfold zc;rw[aG,hei];rfl
   have hal:=hA.len
   rw[ae,aK] at hal
   simp only[vT]
   rfl'
   refine⟨wD,_,zl hs hqe,_,rfl,_,zl hs hqe,_,rfl,by omega,fun p hp=>⟨zd hp _ _ hH,by omega,CNx.mk hi ⟨zG (hs.trans (zd hp)) hD,zf,?_⟩⟩⟩
   rw[zW hm,aH]
   exact w8 hH hA hp Qa (yT _) (by simp only[zR,xt,and_self])
  ·rintro acc H' ⟨hs,hH,hA⟩
   rw[hxl,<- hpl,aQ] at hA
   exact q D H' hD hs ⟨acc,hH,hA⟩
def yy(k:Nat)(l:List Nat)(ns:List Int)(e:Ent):Ent:=if zL k l ns e.2.1 e.1=true then e else (e.2.1,e.1,yX e.2.2)
structure EB(l:List Nat)(e:Ent):Prop where
 a:e.1.length<=60
 b:e.2.1.length<=60
 s:e.2.2.length<=600
 ma:∀ c ∈ e.1,c ∈ l
 mb:∀ c ∈ e.2.1,c ∈ l
theorem EB.rule{k:Nat}{l:List Nat}{ns:List Int}{e:Ent}(h:EB l e):EB l (yy k l ns e):=by
 unfold yy
 split
 ·exact h
 ·exact⟨h.b,h.a,by rw[xV];exact h.s,h.mb,h.ma⟩
def wn(K:oO)(CO CR CW:Addr):Sp:=fun vs H Q _=>∃(o p s:Addr) (k:Nat) (l:List Nat) (ns:List Int) (e:Ent),vs=[.ref o,.ref p]/\OrdAt CO CR CW H o k l ns/\OG l ns k/\SqT K H p [.str (tx e.1),.str (tx e.2.1),.ref s]/\Is K H (.lst (e.2.2.map dSt)) (.ref s)/\EB l e /\
 (yy k l ns e=e->∀ H',Same H H'->Q (.ref p) H') /\
 (∀(p' s':Addr) (H':Hp),Same H H'->H s'=none->H' p'=some (.tup [.str (tx (yy k l ns e).1),.str (tx (yy k l ns e).2.1),.ref s'])->LsA K H' s' ((yy k l ns e).2.2.map dSt)->Q (.ref p') H')
theorem jI{CO CR CW o p s:Addr}{k:Nat}{l:List Nat}{ns:List Int}{e:Ent}{H:Hp}{Q:VK}{E:XK}(h1:OrdAt CO CR CW H o k l ns)(h2:OG l ns k)(h3:SqT K H p [.str (tx e.1),.str (tx e.2.1),.ref s])(h4:Is K H (.lst (e.2.2.map dSt)) (.ref s))(h5:EB l e)
  (h6:yy k l ns e=e->∀ H',Same H H'->Q (.ref p) H') (h7:∀(p' s':Addr) (H':Hp),Same H H'->H s'=none->H' p'=some (.tup [.str (tx (yy k l ns e).1),.str (tx (yy k l ns e).2.1),.ref s'])->LsA K H' s' ((yy k l ns e).2.2.map dSt)->Q (.ref p') H'):wn K CO CR CW [.ref o,.ref p] H Q E :=
 ⟨o,p,s,k,l,ns,e,rfl,h1,h2,h3,h4,h5,h6,h7⟩
theorem X1:zq ["order","entry"] ["order","entry"] (zb wf):=⟨rfl,rfl,rfl,by decide +kernel,rfl,by decide +kernel,by decide +kernel⟩
theorem Wp{f CO CR CW:Addr}{fd:FuncData}(B:Bt mg)(DBk:DB P w K mg base CO CR CW)(F:Fun K "as_rule" "as_rule" wf f fd)(mj:Df P w K mg base CX0 1 "back" ["steps"] [] (ub K)):FnOk P w K mg base CX0 4 f fd ["order","entry"] (wn K CO CR CW):=by
 refine F.ok X1 (fun vs H Q E h=>?_) (fun cdv A outer s H vs Q E hr h=>?_)
 ·obtain⟨o,p,s,k,l,ns,e,rfl,_⟩:=h
  rfl
 ·obtain⟨o,p,s,k,l,ns,e,rfl,ho,hG,hp,hs,hE,q1,q2⟩:=h
  refine⟨_,(zN (ya (xz (zaf DBk hr (pv 0) (za (zw ix_tup (pv 1) zg (fun _ _=>rfl)) (za (zw ix_tup (pv 1) zg (fun _ _=>rfl)) ze))) (fun _=>rfl))
    (zh (zx (pv 1)))
    zD)
   (zh (zx (z9 (za (zw ix_tup (pv 1) zg (fun _ _=>rfl)) (za (zw ix_tup (pv 1) zg (fun _ _=>rfl)) (za (cl0 mj hr .nil rfl (za (zw ix_tup (pv 1) zg (fun _ _=>rfl)) ze)) ze))))))),?_⟩
  have s16:=ym
  repeat (first | rfl' | simp only[yx,zA,zJ,yz,yA,zy])
  obtain⟨C,dx,fs,hf,ho1,hn,_⟩:=ho.fam
  have h1:fs.lookup ("before" : Str)=none:=hn _ (by decide) (by decide)
  refine⟨C,hf,dx,fs,ho1,h1,_,hp,_,rfl,_,hp,_,rfl,o,k,l,ns,e.2.1,e.1,rfl,ho,hG,by have:=hE.b;omega,by have:=hE.a;omega,hE.mb,hE.ma,fun H1 s1=>⟨_,rfl,xj (fun h=>?_) fun h=>?_⟩⟩
  ·exact q1 (by unfold yy;rw[if_pos h]) H1 s1
  ·have er:yy k l ns e=(e.2.1,e.1,yX e.2.2):=by unfold yy;rw[if_neg h]
   rw[er] at q2
   have hp1:=zl s1 hp
   refine⟨_,hp1,_,rfl,_,hp1,_,rfl,_,hp1,_,rfl,ka (Is.same s1 _ _ hs) (by have:=hE.s;omega) fun D H2 hD s2 hL=>⟨by omega,fun t ht=>?_⟩⟩
   exact q2 t D _ (s1.trans (s2.trans (zd ht))) (s1.free hD) zf (hL.same (zd ht))
theorem YC{l:List Nat}{ns:List Int}{w:List Nat}(hb:∀ n ∈ ns,1<=n/\n<=1000000):0<=Wy l ns w:=by
 unfold Wy
 have key:∀ xs:List Int,(∀ x ∈ xs,0<=x)->0<=xs.sum:=by
  intro xs
  induction xs with
  | nil=>intro _;simp
  | cons x xs ih =>
   intro h
   rw[bt]
   have h1:=h x az
   have h2:=ih fun y hy=>h y (aw _ hy)
   omega
 refine key _ fun x hx=>?_
 obtain⟨p,hp,rfl⟩:=List.mem_map.mp hx
 have h1:=(hb p.2 (da (show (p.1,p.2) ∈ l.zip ns from hp)).2).1
 exact Int.mul_nonneg (by omega) (by omega)
theorem WV{k:Nat}{l:List Nat}{ns:List Int}{u v:List Nat}(hb:∀ n ∈ ns,1<=n/\n<=1000000)(h:zL k l ns u v=true):v≠[]:=by
 intro e
 subst e
 have h0:zv k l ns []=0:=by
  unfold zv
  split
  ·unfold Wy
   have z:∀ xs:List (Nat × Int),(xs.map fun p=>(([]:List Nat).count p.1:Int) * p.2).sum=0:=by
    intro xs
    induction xs with
    | nil=>rfl
    | cons x xs ih=>rw[aC,bt,ih];simp
   exact z _
  ·rfl
 have h1:0<=zv k l ns u:=by
  unfold zv
  split
  ·exact YC hb
  ·omega
 have h2:qK k l []=[]:=by
  unfold qK xH
  split <;> rfl
 unfold zL at h
 rw[h0,h2] at h
 split at h
 ·cases hr:qK k l u with
  | nil=>rw[hr] at h;cases h
  | cons a r=>rw[hr] at h;cases h
 ·have:=of_decide_eq_true h
  omega
theorem qP{k:Nat}{l:List Nat}{ns:List Int}{e:Ent}(hE:EB l e)(hne:e.1≠e.2.1):zL k l ns (yy k l ns e).2.1 (yy k l ns e).1=true:=by
 unfold yy
 by_cases h:zL k l ns e.2.1 e.1=true
 ·rw[if_pos h]
  exact h
 ·rw[if_neg h]
  have:=qp (k:=k) (ns:=ns) hE.ma hE.mb hne
  show zL k l ns e.1 e.2.1=true
  rw[this]
  simpa using h
def qU(k:Nat)(l:List Nat)(ns:List Int)(es:List Ent):List Ent:=(es.filter fun e=>!decide (e.1=e.2.1)).map (yy k l ns)
theorem KN(k:Nat)(l:List Nat)(ns:List Int)(es fs:List Ent):qU k l ns (es ++ fs)=qU k l ns es ++ qU k l ns fs:=by
 unfold qU
 rw[cN,aH]
theorem Yg(k:Nat)(l:List Nat)(ns:List Int)(es:List Ent):(qU k l ns es).length<=es.length:=by
 unfold qU
 rw[ae]
 exact cQ _ _
def Wq(k:Nat)(l:List Nat)(ns:List Int)(a b:Ent):Bool:=if a.1=b.1 then zL k l ns a.2.1 b.2.1 else zL k l ns a.1 b.1
structure Lined(k:Nat)(l:List Nat)(ns:List Int)(es zs:List Ent):Prop where
 perm:zs.Perm (qU k l ns es)
 srt:zs.Pairwise fun a b=>Wq k l ns b a=false
structure zS(ps:List zr)(w:List Nat)(i:Nat):Prop where
 live:Wi ps w i
 end_:zF (wAt ps w i) ps=none
 most:i<=40
theorem JS(ps:List zr)(w:List Nat):(∃ i,zS ps w i)\/(Wi ps w 40/\zF (wAt ps w 40) ps≠none):=by
 have key:∀ n,n<=41->(∃ i,zS ps w i)\/Wi ps w n:=by
  intro n
  induction n with
  | zero=>intro _;exact .inr fun i h=>absurd h (cL i)
  | succ n ih =>
   intro hn
   rcases ih (by omega) with h | h
   ·exact .inl h
   ·cases e:zF (wAt ps w n) ps with
    | none=>exact .inl ⟨n,h,e,by omega⟩
    | some u =>
     refine .inr fun i hi=>?_
     by_cases hin:i=n
     ·rw[hin,e]
      intro z
      cases z
     ·exact h i (by omega)
 rcases key 41 (au _) with h | h
 ·exact .inl h
 ·exact .inr ⟨fun i hi=>h i (by omega),h 40 (by decide)⟩
def stS(us:List (Nat × Nat)):List Stp:=us.map fun u=>((u.1:Int),(u.2:Int),true)
def yY(bs:List Ent)(e:Ent)(i j:Nat):Ent:=(wAt (zc bs) e.1 i,wAt (zc bs) e.2.1 j,byL bs (yX (stS (sAt (zc bs) e.1 i))) ++ e.2.2 ++ byL bs (stS (sAt (zc bs) e.2.1 j)))
def jo(e:Ent):Prop:=240<e.2.2.length\/60<e.1.length\/60<e.2.1.length
inductive xP(k:Nat)(l:List Nat)(ns:List Int):List Ent->List Ent->Option (List Ent)->Prop where
 | nil (bs:List Ent):xP k l ns bs [] (some bs)
 | same {bs es:List Ent} {e:Ent} {i j:Nat} {r:Option (List Ent)} (h1:zS (zc bs) e.1 i) (h2:zS (zc bs) e.2.1 j) (h3:wAt (zc bs) e.1 i=wAt (zc bs) e.2.1 j) (h4:xP k l ns bs es r):xP k l ns bs (e::es) r
 | new {bs es:List Ent} {e:Ent} {i j:Nat} {r:Option (List Ent)} (h1:zS (zc bs) e.1 i) (h2:zS (zc bs) e.2.1 j) (h3:wAt (zc bs) e.1 i≠wAt (zc bs) e.2.1 j) (h4:¬ jo (yY bs e i j)) (h5:xP k l ns (bs ++ [yy k l ns (yY bs e i j)]) es r):xP k l ns bs (e::es) r
 | far {bs es:List Ent} {e:Ent} {i j:Nat} (h1:zS (zc bs) e.1 i) (h2:zS (zc bs) e.2.1 j) (h3:wAt (zc bs) e.1 i≠wAt (zc bs) e.2.1 j) (h4:jo (yY bs e i j)):xP k l ns bs (e::es) none
 | stuck {bs es:List Ent} {e:Ent} (h:(∀ i,¬ zS (zc bs) e.1 i)\/(∀ j,¬ zS (zc bs) e.2.1 j)):xP k l ns bs (e::es) none
inductive vU(k:Nat)(l:List Nat)(ns:List Int):Nat->List Ent->Option (List Ent)->Prop where
 | out (es:List Ent):vU k l ns 0 es none
 | bad {n:Nat} {es zs:List Ent} (h1:Lined k l ns es zs) (h2:xP k l ns [] zs none):vU k l ns (n+1) es none
 | done {n:Nat} {es zs bs:List Ent} (h1:Lined k l ns es zs) (h2:xP k l ns [] zs (some bs)) (h3:zc bs=zc zs):vU k l ns (n+1) es (some bs)
 | more {n:Nat} {es zs bs:List Ent} {r:Option (List Ent)} (h1:Lined k l ns es zs) (h2:xP k l ns [] zs (some bs)) (h3:zc bs≠zc zs) (h4:vU k l ns n bs r):vU k l ns (n+1) es r
theorem xn{ps:List zr}{w:List Nat}{u:Nat × Nat}(h:zF w ps=some u):∃ p,ps[u.1]? = some p/\zu w (u.2:Int) p.1=true:=by
 have hm:u ∈ xQ w ps w.length:=eR (by unfold zF at h;rw[h];rfl)
 exact (wG (usesK_mem.mp hm).2).2
theorem ud{ps:List zr}{l w:List Nat}(hw:∀ c ∈ w,c ∈ l)(hp:∀ p ∈ ps,∀ c ∈ p.2,c ∈ l):∀ j,∀ c ∈ wAt ps w j,c ∈ l
 | 0=>hw
 | j+1=>by
  have ih:=ud hw hp j
  cases e:zF (wAt ps w j) ps with
  | none =>
   show ∀ c ∈ YU ps (wAt ps w j),c ∈ l
   unfold YU
   rw[e]
   exact ih
  | some u =>
   obtain⟨p,h1,h2⟩:=xn e
   rw[wv e]
   unfold Z7 yS
   rw[xK h1]
   intro c hc
   rcases List.mem_append.mp hc with hc | hc
   ·rcases List.mem_append.mp hc with hc | hc
    ·exact ih c (bu hc)
    ·exact hp p (af h1) c hc
   ·exact ih c (cf hc)
structure Wx(R:List Nat->List Nat->Prop):Prop where
 refl:∀ u,R u u
 symm:∀{u v},R u v->R v u
 trans:∀{u v w},R u v->R v w->R u w
 ctx:∀{u v} (a b:List Nat),R u v->R (a ++ u ++ b) (a ++ v ++ b)
def vw(R:List Nat->List Nat->Prop)(es:List Ent):Prop:=∀ e ∈ es,R e.1 e.2.1
theorem KB{R:List Nat->List Nat->Prop}(hR:Wx R){ps:List zr}(hk:∀ p ∈ ps,R p.1 p.2)(w:List Nat):∀ j,R w (wAt ps w j)
 | 0=>hR.refl w
 | j+1=>by
  have ih:=KB hR hk w j
  cases e:zF (wAt ps w j) ps with
  | none =>
   show R w (YU ps (wAt ps w j))
   unfold YU
   rw[e]
   exact ih
  | some u =>
   obtain⟨p,h1,h2⟩:=xn e
   rw[wv e]
   refine hR.trans ih ?_
   obtain⟨e1,_⟩:=xm h2
   unfold Z7 yS
   rw[xK h1]
   have:=hR.ctx ((wAt ps w j).take ((u.2:Int)).toNat) ((wAt ps w j).drop (((u.2:Int)).toNat+p.1.length)) (hk p (af h1))
   rw[e1] at this
   exact this
theorem qY{R:List Nat->List Nat->Prop}{bs:List Ent}(h:vw R bs):∀ p ∈ zc bs,R p.1 p.2:=fun p hp=>by
 unfold zc at hp
 obtain⟨e,he,rfl⟩:=List.mem_map.mp hp
 exact h e he
theorem wY{R:List Nat->List Nat->Prop}(hR:Wx R){k:Nat}{l:List Nat}{ns:List Int}{e:Ent}:R (yy k l ns e).1 (yy k l ns e).2.1 ↔ R e.1 e.2.1:=by
 unfold yy
 split
 ·exact Iff.rfl
 ·exact⟨hR.symm,hR.symm⟩
theorem Vs{R:List Nat->List Nat->Prop}(hR:Wx R){bs:List Ent}{e:Ent}{i j:Nat}(h:vw R bs):R (wAt (zc bs) e.1 i) (wAt (zc bs) e.2.1 j) ↔ R e.1 e.2.1:=by
 have h1:=KB hR (qY h) e.1 i
 have h2:=KB hR (qY h) e.2.1 j
 exact⟨fun x=>hR.trans h1 (hR.trans x (hR.symm h2)),fun x=>hR.trans (hR.symm h1) (hR.trans x h2)⟩
theorem Ve{R:List Nat->List Nat->Prop}(hR:Wx R){k:Nat}{l:List Nat}{ns:List Int}{bs es:List Ent}{r:Option (List Ent)}(h:xP k l ns bs es r):∀ fs,r=some fs->(vw R fs ↔ vw R bs/\vw R es):=by
 induction h with
 | nil bs =>
  intro fs e
  cases e
  exact⟨fun h=>⟨h,fun e he=>(nomatch he)⟩,fun h=>h.1⟩
 | @same bs es e i j r h1 h2 h3 h4 ih =>
  intro fs er
  rw[ih fs er]
  refine⟨fun⟨a,b⟩=>⟨a,fun x hx=>?_⟩,fun⟨a,b⟩=>⟨a,fun x hx=>b x (aw _ hx)⟩⟩
  rcases List.mem_cons.mp hx with rfl | hx
  ·refine (Vs hR a (i:=i) (j:=j)).mp ?_
   rw[h3]
   exact hR.refl _
  ·exact b x hx
 | @new bs es e i j r h1 h2 h3 h4 h5 ih =>
  intro fs er
  rw[ih fs er]
  constructor
  ·rintro⟨a,b⟩
   have a':vw R bs:=fun x hx=>a x (aR _ hx)
   refine⟨a',fun x hx=>?_⟩
   rcases List.mem_cons.mp hx with rfl | hx
   ·have:=a _ (aA bs (List.mem_singleton.mpr rfl))
    exact (Vs hR a' (i:=i) (j:=j)).mp ((wY hR).mp this)
   ·exact b x hx
  ·rintro⟨a,b⟩
   refine⟨fun x hx=>?_,fun x hx=>b x (aw _ hx)⟩
   rcases List.mem_append.mp hx with hx | hx
   ·exact a x hx
   ·rw[List.mem_singleton.mp hx]
    exact (wY hR).mpr ((Vs hR a (i:=i) (j:=j)).mpr (b e az))
 | far=>intro fs e;cases e
 | stuck=>intro fs e;cases e
theorem WF{R:List Nat->List Nat->Prop}(hR:Wx R){k:Nat}{l:List Nat}{ns:List Int}{es zs:List Ent}(h:Lined k l ns es zs):vw R zs ↔ vw R es:=by
 have h1:vw R zs ↔ vw R (qU k l ns es):=⟨fun a x hx=>a x (h.perm.mem_iff.mpr hx),fun a x hx=>a x (h.perm.mem_iff.mp hx)⟩
 rw[h1]
 unfold qU
 constructor
 ·intro a x hx
  by_cases e:x.1=x.2.1
  ·rw[e]
   exact hR.refl _
  ·exact (wY hR).mp (a _ (List.mem_map.mpr ⟨x,List.mem_filter.mpr ⟨hx,by simpa using e⟩,rfl⟩))
 ·intro a x hx
  obtain⟨y,hy,rfl⟩:=List.mem_map.mp hx
  exact (wY hR).mpr (a y ((List.mem_filter.mp hy).1))
theorem QZ{R:List Nat->List Nat->Prop}(hR:Wx R){k n:Nat}{l:List Nat}{ns:List Int}{es:List Ent}{r:Option (List Ent)}(h:vU k l ns n es r):∀ fs,r=some fs->(vw R fs ↔ vw R es):=by
 have nilk:vw R []:=fun e he=>(nomatch he)
 induction h with
 | out=>intro fs e;cases e
 | bad=>intro fs e;cases e
 | done h1 h2 h3 =>
  intro fs e
  rw[Ve hR h2 fs e,WF hR h1]
  exact⟨fun h=>h.2,fun h=>⟨nilk,h⟩⟩
 | more h1 h2 h3 h4 ih =>
  intro fs e
  rw[ih fs e,Ve hR h2 _ rfl,WF hR h1]
  exact⟨fun h=>h.2,fun h=>⟨nilk,h⟩⟩
def Within(p w:List Nat):Prop:=∃ a b:List Nat,w=a ++ p ++ b
theorem W3{w p:List Nat}(h:Within p w):∃ q:Nat,zu w (q:Int) p=true:=by
 obtain⟨a,b,rfl⟩:=h
 refine⟨a.length,?_⟩
 unfold zu
 refine decide_eq_true ⟨by omega,by simp only[am];omega,?_⟩
 rw[aX,ax,cD,cS]
theorem VV{ps:List zr}{w:List Nat}(hN:NeL ps)(h:zF w ps=none):∀ p ∈ ps,¬ Within p.1 w:=fun p hp hw=>by
 obtain⟨q,hq⟩:=W3 hw
 obtain⟨j,hj⟩:=List.mem_iff_getElem?.mp hp
 have hlt:=qE (hN p hp) hq
 have hs:stJ w ps q j=true:=by rw[jD hj];exact hq
 have:(j,q) ∈ xQ w ps w.length:=usesK_mem.mpr ⟨hlt,hs⟩
 unfold zF at h
 rw[List.head?_eq_none_iff] at h
 rw[h] at this
 cases this
structure RL(k:Nat)(l:List Nat)(ns:List Int)(bs:List Ent):Prop where
 e:∀ e ∈ bs,EB l e
 lt:∀ e ∈ bs,zL k l ns e.2.1 e.1=true
theorem U4{k:Nat}{l:List Nat}{ns:List Int}{ps:List zr}{w:List Nat}{u:Nat × Nat}(G:OG l ns k)(hp:∀ p ∈ ps,zL k l ns p.2 p.1=true/\(∀ c ∈ p.1,c ∈ l)/\∀ c ∈ p.2,c ∈ l)(hw:∀ c ∈ w,c ∈ l)(h:zF w ps=some u):zL k l ns (Z7 w ps u) w=true:=by
 obtain⟨p,h1,h2⟩:=xn h
 obtain⟨e1,_⟩:=xm h2
 obtain⟨p1,p2,p3⟩:=hp p (af h1)
 unfold Z7 yS
 rw[xK h1]
 have ha:∀ c ∈ w.take ((u.2:Int)).toNat,c ∈ l:=fun c hc=>hw c (bu hc)
 have hb:∀ c ∈ w.drop (((u.2:Int)).toNat+p.1.length),c ∈ l:=fun c hc=>hw c (cf hc)
 generalize w.take ((u.2:Int)).toNat=a at *
 generalize w.drop (((u.2:Int)).toNat+p.1.length)=b at *
 rw[<- e1]
 have ap:∀ x:List Nat,(∀ c ∈ x,c ∈ l)->∀ c ∈ a ++ x,c ∈ l:=fun x hx c hc=>(List.mem_append.mp hc).elim (ha c) (hx c)
 rw[(vP G hb (ap p.2 p3) (ap p.1 p2)).2,(vP G ha p3 p2).1]
 exact p1
theorem Ja{k:Nat}{l:List Nat}{ns:List Int}{ps:List zr}{w:List Nat}(G:OG l ns k)(hp:∀ p ∈ ps,zL k l ns p.2 p.1=true/\(∀ c ∈ p.1,c ∈ l)/\∀ c ∈ p.2,c ∈ l)(hw:∀ c ∈ w,c ∈ l):∀ j,wAt ps w j=w\/zL k l ns (wAt ps w j) w=true
 | 0=>.inl rfl
 | j+1=>by
  have ih:=Ja G hp hw j
  have hm:=ud hw (fun p hp'=>(hp p hp').2.2) j
  cases e:zF (wAt ps w j) ps with
  | none =>
   show YU ps (wAt ps w j)=w\/zL k l ns (YU ps (wAt ps w j)) w=true
   unfold YU
   rw[e]
   exact ih
  | some u =>
   rw[wv e]
   have h:=U4 G hp hm e
   rcases ih with h' | h'
   ·rw[h'] at h ⊢
    exact .inr h
   ·exact .inr (yH h h')
theorem RL.pairs{k:Nat}{l:List Nat}{ns:List Int}{bs:List Ent}(h:RL k l ns bs):∀ p ∈ zc bs,zL k l ns p.2 p.1=true/\(∀ c ∈ p.1,c ∈ l)/\∀ c ∈ p.2,c ∈ l:=fun p hp=>by
 unfold zc at hp
 obtain⟨e,he,rfl⟩:=List.mem_map.mp hp
 exact⟨h.lt e he,(h.e e he).ma,(h.e e he).mb⟩
theorem RL.ne{k:Nat}{l:List Nat}{ns:List Int}{bs:List Ent}(h:RL k l ns bs)(G:OG l ns k):NeL (zc bs):=fun p hp=>WV G.nb (h.pairs p hp).1
theorem RL.snoc{k:Nat}{l:List Nat}{ns:List Int}{bs:List Ent}{d:Ent}(h:RL k l ns bs)(hd:EB l d)(hne:d.1≠d.2.1):RL k l ns (bs ++ [yy k l ns d]):=by
 refine⟨fun e he=>?_,fun e he=>?_⟩
 ·rcases List.mem_append.mp he with he | he
  ·exact h.e e he
  ·rw[List.mem_singleton.mp he]
   exact hd.rule
 ·rcases List.mem_append.mp he with he | he
  ·exact h.lt e he
  ·rw[List.mem_singleton.mp he]
   exact qP hd hne
theorem JM{k:Nat}{l:List Nat}{ns:List Int}{bs:List Ent}{e:Ent}{i j:Nat}(hB:RL k l ns bs)(hE:EB l e)(hF:¬ jo (yY bs e i j)):EB l (yY bs e i j):=by
 unfold jo at hF
 exact⟨by omega,by omega,by omega,ud hE.ma (fun p hp=>(hB.pairs p hp).2.2) i,ud hE.mb (fun p hp=>(hB.pairs p hp).2.2) j⟩
theorem Wr{k:Nat}{l:List Nat}{ns:List Int}{bs:List Ent}{e:Ent}{i j:Nat}(G:OG l ns k)(hB:RL k l ns bs)(hE:EB l e)(hlt:zL k l ns e.2.1 e.1=true)(h1:zS (zc bs) e.1 i)(h2:zS (zc bs) e.2.1 j)
  (hp1:(yy k l ns (yY bs e i j)).1=e.1) (hp2:(yy k l ns (yY bs e i j)).2.1=e.2.1):zF e.1 (zc bs)=none/\zF e.2.1 (zc bs)=none:=by
 unfold yy at hp1 hp2
 by_cases h:zL k l ns (yY bs e i j).2.1 (yY bs e i j).1=true
 ·rw[if_pos h] at hp1 hp2
  have a1:wAt (zc bs) e.1 i=e.1:=hp1
  have a2:wAt (zc bs) e.2.1 j=e.2.1:=hp2
  have b1:=h1.end_
  have b2:=h2.end_
  rw[a1] at b1
  rw[a2] at b2
  exact⟨b1,b2⟩
 ·rw[if_neg h] at hp1 hp2
  have a1:wAt (zc bs) e.2.1 j=e.1:=hp1
  rcases Ja G hB.pairs hE.mb j with h' | h'
  ·rw[a1] at h'
   rw[h',yj] at hlt
   cases hlt
  ·rw[a1] at h'
   rw[Yv h'] at hlt
   cases hlt
theorem jN{k:Nat}{l:List Nat}{ns:List Int}(G:OG l ns k){bs es:List Ent}{r:Option (List Ent)}(h:xP k l ns bs es r):∀ fs,r=some fs->RL k l ns bs->RL k l ns es->∃ gs,fs=bs ++ gs/\gs.length<=es.length/\RL k l ns fs /\
  (zc gs=zc es->∀ i e,es[i]? = some e->zF e.1 (zc (bs ++ gs.take i))=none/\zF e.2.1 (zc (bs ++ gs.take i))=none):=by
 induction h with
 | nil bs =>
  intro fs er hb he
  cases er
  exact⟨[],by simp,au _,hb,fun _ i e h=>by simp at h⟩
 | @same bs es e i j r h1 h2 h3 h4 ih =>
  intro fs er hb he
  obtain⟨gs,g1,g2,g3,g4⟩:=ih fs er hb ⟨fun x hx=>he.e x (aw _ hx),fun x hx=>he.lt x (aw _ hx)⟩
  refine⟨gs,g1,by rw[aM];omega,g3,fun hp=>?_⟩
  have:=congrArg eJ hp
  unfold zc at this
  rw[ae,ae,aM] at this
  omega
 | @new bs es e i j r h1 h2 h3 h4 h5 ih =>
  intro fs er hb he
  have hEe:=he.e e az
  have hd:=JM hb hEe h4
  obtain⟨gs,g1,g2,g3,g4⟩:=ih fs er (hb.snoc hd h3) ⟨fun x hx=>he.e x (aw _ hx),fun x hx=>he.lt x (aw _ hx)⟩
  refine⟨yy k l ns (yY bs e i j)::gs,by rw[g1,ax];rfl,by rw[aM,aM];omega,g3,fun hp n x hx=>?_⟩
  unfold zc at hp
  rw[aC,aC] at hp
  injection hp with hp1 hp2
  have hp1a:=(Prod.ext_iff.mp hp1).1
  have hp1b:=(Prod.ext_iff.mp hp1).2
  cases n with
  | zero =>
   have e0:e=x:=by simpa using hx
   subst e0
   rw[bA,aS]
   exact Wr G hb hEe (he.lt _ az) h1 h2 hp1a hp1b
  | succ n =>
   have:=g4 hp2 n x (by simpa using hx)
   rw[ax] at this
   rw[dF]
   exact this
 | far=>intro fs e;cases e
 | stuck=>intro fs e;cases e
theorem uD{k:Nat}{l:List Nat}{ns:List Int}(G:OG l ns k){p w:List Nat}(hw:∀ c ∈ w,c ∈ l)(h:Within p w):p=w\/zL k l ns p w=true:=by
 obtain⟨a,b,rfl⟩:=h
 by_cases e:a ++ p ++ b=p
 ·exact .inl e.symm
 ·refine .inr (QM G (fun c hc=>hw c ?_) (fun c hc=>hw c ?_) (fun c hc=>hw c ?_) e).1
  ·exact aR _ (aR _ hc)
  ·exact aR _ (aA _ hc)
  ·exact aA _ hc
structure ThinL(k:Nat)(l:List Nat)(ns:List Int)(zs:List Ent):Prop where
 rl:RL k l ns zs
 up:∀(i j:Nat) (a b:Ent),zs[i]? = some a->zs[j]? = some b->i<j->zL k l ns a.1 b.1=true
 no1:∀(i j:Nat) (a b:Ent),zs[i]? = some a->zs[j]? = some b->i≠j->¬ Within b.1 a.1
 no2:∀(i j:Nat) (a b:Ent),zs[i]? = some a->zs[j]? = some b->¬ Within b.1 a.2.1
theorem KY{k:Nat}{l:List Nat}{ns:List Int}(G:OG l ns k){zs bs:List Ent}(hz:RL k l ns zs)(hs:zs.Pairwise fun a b=>Wq k l ns b a=false)(h:xP k l ns [] zs (some bs))(hp:zc bs=zc zs):ThinL k l ns zs:=by
 obtain⟨gs,g1,g2,g3,g4⟩:=jN G h bs rfl ⟨fun e he=>(nomatch he),fun e he=>(nomatch he)⟩ hz
 rw[bv] at g1
 subst g1
 have irr:=g4 hp
 simp only[bv] at irr
 have early:∀(i j:Nat) (a b:Ent),zs[i]? = some a->zs[j]? = some b->j<i->¬ Within b.1 a.1/\¬ Within b.1 a.2.1:=fun i j a b ha hb hj=>by
  have hm:(b.1,b.2.1) ∈ zc (bs.take i):=by
   have e1:zc (bs.take i)=(zc zs).take i:=by
    rw[<- hp]
    unfold zc
    rw[List.map_take]
   rw[e1]
   refine List.mem_iff_getElem?.mpr ⟨j,?_⟩
   rw[bx hj]
   unfold zc
   rw[aG,hb]
   rfl
  have hN:NeL (zc (bs.take i)):=fun p hp'=>by
   refine (g3.ne G) p ?_
   unfold zc at hp' ⊢
   obtain⟨x,hx,rfl⟩:=List.mem_map.mp hp'
   exact List.mem_map.mpr ⟨x,bu hx,rfl⟩
  obtain⟨f1,f2⟩:=irr i a ha
  exact⟨VV hN f1 _ hm,VV hN f2 _ hm⟩
 have later:∀(i j:Nat) (a b:Ent),zs[i]? = some a->zs[j]? = some b->i<j->zL k l ns b.1 a.1=false:=fun i j a b ha hb hij=>by
  have hi:=(List.getElem?_eq_some_iff.mp ha)
  have hj:=(List.getElem?_eq_some_iff.mp hb)
  have:=List.pairwise_iff_getElem.mp hs i j hi.1 hj.1 hij
  rw[hi.2,hj.2] at this
  unfold Wq at this
  by_cases e:b.1=a.1
  ·rw[e,yj]
  ·rw[if_neg e] at this
   exact this
 have memz:∀{i:Nat} {a:Ent},zs[i]? = some a->EB l a/\zL k l ns a.2.1 a.1=true:=fun {i a} ha=>⟨hz.e _ (af ha),hz.lt _ (af ha)⟩
 have up:∀(i j:Nat) (a b:Ent),zs[i]? = some a->zs[j]? = some b->i<j->zL k l ns a.1 b.1=true:=fun i j a b ha hb hij=>by
  have hne:a.1≠b.1:=fun e=>(early j i b a hb ha hij).1 ⟨[],[],by rw[e];simp⟩
  have t:=qp (k:=k) (ns:=ns) (memz ha).1.ma (memz hb).1.ma hne
  rw[later i j a b ha hb hij] at t
  simpa using t
 refine⟨hz,up,fun i j a b ha hb hij=>?_,fun i j a b ha hb hw=>?_⟩
 ·rcases Nat.lt_or_gt_of_ne hij with h1 | h1
  ·intro hw
   rcases uD G (memz ha).1.ma hw with e | e
   ·have:=up i j a b ha hb h1
    rw[e,yj] at this
    cases this
   ·rw[later i j a b ha hb h1] at e
    cases e
  ·exact (early i j a b ha hb h1).1
 ·have hle:zL k l ns b.1 a.1=true:=by
   rcases uD G (memz ha).1.mb hw with e | e
   ·rw[e]
    exact (memz ha).2
   ·exact yH e (memz ha).2
  rcases dU i j with h1 | h1 | h1
  ·rw[later i j a b ha hb h1] at hle
   cases hle
  ·subst h1
   rw[ha] at hb
   cases hb
   rw[yj] at hle
   cases hle
  ·exact (early i j a b ha hb h1).2 hw
theorem kg{ps:List zr}{w:List Nat}:∀{i:Nat},Wi ps w i->yd ps w (stS (sAt ps w i))=some (wAt ps w i)
 | 0,_=>rfl
 | i+1,h=>by
  have ih:=kg (i:=i) fun j hj=>h j (by omega)
  have hne:=h i (by omega)
  cases e:zF (wAt ps w i) ps with
  | none=>exact absurd e hne
  | some u =>
   rw[YZ,wv e,e]
   unfold stS at ih ⊢
   rw[aH]
   refine qL ih ?_
   obtain⟨p,h1,h2⟩:=xn e
   have hl:=(List.getElem?_eq_some_iff.mp h1).1
   show yo ps (wAt ps w i) ((u.1:Int),(u.2:Int),true)=_
   rw[yG (by show (0:Int)<=(u.1:Int)/\(u.1:Int)<ps.length;omega)]
   have e2:ps.getD ((u.1:Int)).toNat ([],[])=p:=by rw[aX,ac,h1];rfl
   show (if zu (wAt ps w i) (u.2:Int) (sdl (ps.getD ((u.1:Int)).toNat ([],[])) true).1=true then _ else none)=_
   rw[e2,if_pos (show zu (wAt ps w i) (u.2:Int) (sdl p true).1=true from h2)]
   unfold Z7
   rw[xK h1]
   rfl
theorem Vr{rs:List zr}{k:Nat}{l:List Nat}{ns:List Int}{e:Ent}(h:EOk rs e):EOk rs (yy k l ns e):=by
 unfold yy
 split
 ·exact h
 ·exact vC h
theorem Kv{rs:List zr}{bs:List Ent}{e:Ent}{i j:Nat}(hb:∀ e ∈ bs,EOk rs e)(he:EOk rs e)(h1:zS (zc bs) e.1 i)(h2:zS (zc bs) e.2.1 j):EOk rs (yY bs e i j):=by
 have w1:=kQ hb (vC (kg h1.live))
 have w2:=kQ hb (kg h2.live)
 have he':yd rs e.1 e.2.2=some e.2.1:=he
 show yd rs (wAt (zc bs) e.1 i) (byL bs (yX (stS (sAt (zc bs) e.1 i))) ++ e.2.2 ++ byL bs (stS (sAt (zc bs) e.2.1 j)))=some (wAt (zc bs) e.2.1 j)
 rw[wC,wC,w1,bU,he',bU]
 exact w2
theorem Xh{rs:List zr}{k:Nat}{l:List Nat}{ns:List Int}{bs es:List Ent}{r:Option (List Ent)}(h:xP k l ns bs es r):∀ fs,r=some fs->(∀ e ∈ bs,EOk rs e)->(∀ e ∈ es,EOk rs e)->∀ e ∈ fs,EOk rs e:=by
 induction h with
 | nil bs=>intro fs er hb _;cases er;exact hb
 | @same bs es e i j r h1 h2 h3 h4 ih=>intro fs er hb he;exact ih fs er hb fun x hx=>he x (aw _ hx)
 | @new bs es e i j r h1 h2 h3 h4 h5 ih =>
  intro fs er hb he
  refine ih fs er (fun x hx=>?_) fun x hx=>he x (aw _ hx)
  rcases List.mem_append.mp hx with hx | hx
  ·exact hb x hx
  ·rw[List.mem_singleton.mp hx]
   exact Vr (Kv hb (he e az) h1 h2)
 | far=>intro fs e;cases e
 | stuck=>intro fs e;cases e
theorem YN{rs:List zr}{k:Nat}{l:List Nat}{ns:List Int}{es zs:List Ent}(h:Lined k l ns es zs)(he:∀ e ∈ es,EOk rs e):∀ e ∈ zs,EOk rs e:=fun e hz=>by
 have hm:=h.perm.mem_iff.mp hz
 unfold qU at hm
 obtain⟨y,hy,rfl⟩:=List.mem_map.mp hm
 exact Vr (he y (List.mem_filter.mp hy).1)
theorem Y5{k:Nat}{l:List Nat}{ns:List Int}{es zs:List Ent}(h:Lined k l ns es zs)(he:∀ e ∈ es,EB l e):RL k l ns zs:=by
 have key:∀ e ∈ zs,∃ y,EB l y/\y.1≠y.2.1/\e=yy k l ns y:=fun e hz=>by
  have hm:=h.perm.mem_iff.mp hz
  unfold qU at hm
  obtain⟨y,hy,rfl⟩:=List.mem_map.mp hm
  obtain⟨h1,h2⟩:=List.mem_filter.mp hy
  exact⟨y,he y h1,by simpa using h2,rfl⟩
 refine⟨fun e hz=>?_,fun e hz=>?_⟩
 ·obtain⟨y,h1,_,rfl⟩:=key e hz
  exact h1.rule
 ·obtain⟨y,h1,h2,rfl⟩:=key e hz
  exact qP h1 h2
theorem Ql{k:Nat}{l:List Nat}{ns:List Int}(G:OG l ns k){zs bs:List Ent}(hz:RL k l ns zs)(h:xP k l ns [] zs (some bs)):RL k l ns bs:=by
 obtain⟨gs,g1,g2,g3,g4⟩:=jN G h bs rfl ⟨fun e he=>(nomatch he),fun e he=>(nomatch he)⟩ hz
 exact g3
theorem Y7{rs:List zr}{k n:Nat}{l:List Nat}{ns:List Int}(G:OG l ns k){es:List Ent}{r:Option (List Ent)}(h:vU k l ns n es r):∀ fs,r=some fs->(∀ e ∈ es,EB l e)->(∀ e ∈ es,EOk rs e)->(∀ e ∈ fs,EOk rs e)/\∃ zs,ThinL k l ns zs/\zc fs=zc zs:=by
 induction h with
 | out=>intro fs e;cases e
 | bad=>intro fs e;cases e
 | @done n es zs bs h1 h2 h3 =>
  intro fs er he ho
  cases er
  have hz:=Y5 h1 he
  exact⟨Xh h2 bs rfl (fun e h=>(nomatch h)) (YN h1 ho),zs,KY G hz h1.srt h2 h3,h3⟩
 | @more n es zs bs r h1 h2 h3 h4 ih =>
  intro fs er he ho
  have hz:=Y5 h1 he
  exact ih fs er (Ql G hz h2).e (Xh h2 bs rfl (fun e h=>(nomatch h)) (YN h1 ho))
def rankF:KeyFam (Int × List Int):=⟨fun r=>[.int r.1,.lst (r.2.map L3.D.int)],fun a b=>if a.1=b.1 then ltI a.2 b.2 else decide (a.1<b.1),true,(0,[])⟩
theorem UP{x y:List Int}(h:ltI x y=true):ltI y x=false:=by
 by_cases e:x=y
 ·subst e
  rw[xD] at h
  cases h
 ·have:=wL e
  rw[h] at this
  simpa using this.symm
theorem KU{x y z:List Int}(h1:ltI y x=false)(h2:ltI z y=false):ltI z x=false:=by
 cases h:ltI z x with
 | false=>rfl
 | true =>
  by_cases e:y=x
  ·subst e
   rw[h2] at h
   cases h
  ·have h3:=wL e
   rw[h1] at h3
   have h4:ltI x y=true:=by simpa using h3.symm
   rw[qN h h4] at h2
   cases h2
theorem rankF_ok:rankF.Ok where
 w:=⟨fun a b h=>by
   simp only[rankF] at h ⊢
   by_cases e:a.1=b.1
   ·rw[if_pos e] at h
    rw[if_pos e.symm]
    exact UP h
   ·rw[if_neg e] at h
    rw[if_neg (fun z=>e z.symm)]
    have:=of_decide_eq_true h
    exact decide_eq_false (by omega),
  fun a b c h1 h2=>by
   simp only[rankF] at h1 h2 ⊢
   by_cases e:b.1=a.1
   ·rw[if_pos e] at h1
    rw[e] at h2
    by_cases f:c.1=a.1
    ·rw[if_pos f] at h2 ⊢
     exact KU h1 h2
    ·rw[if_neg f] at h2 ⊢
     exact h2
   ·rw[if_neg e] at h1
    have h1':=of_decide_eq_false h1
    by_cases f:c.1=b.1
    ·rw[if_neg (by omega)]
     exact decide_eq_false (by omega)
    ·rw[if_neg f] at h2
     have h2':=of_decide_eq_false h2
     rw[if_neg (by omega)]
     exact decide_eq_false (by omega)⟩
 eq:=fun a b=>by
  have:=Uw a.1 b.1 a.2 b.2
  simp only[ltD] at this
  exact this
 ok:=fun a b=>by simp only[rankF,kj,okD];exact⟨trivial,jl _ _,trivial⟩
 dp:=fun a=>by simp only[rankF,dpD,qb,Yn];decide
 sh:=fun a=>⟨_,_,rfl,.inl ⟨rfl,_,rfl⟩⟩
def K9(k:Nat)(l:List Nat)(ns:List Int)(w:List Nat):Int × List Int:=(zv k l ns w,qK k l w)
theorem Y0{H:Hp}{d:L3.D}{v:V}:∀{ds:List L3.D} {vs:List V},Iss K H ds vs->Is K H d v->Iss K H (ds ++ [d]) (vs ++ [v])
 | [],vs,h,hv=>by
  simp only[Iss] at h
  subst h
  simp only[bv,Iss]
  exact⟨v,[],rfl,hv,rfl⟩
 | e::ds,vs,h,hv=>by
  simp only[Iss] at h
  obtain⟨x,r,rfl,hx,hr⟩:=h
  simp only[bF,Iss]
  exact⟨x,r ++ [v],rfl,hx,Y0 hr hv⟩
theorem OrdAt.samT{T CO CR CW:Addr}{H H':Hp}{ps:Array Value}{o:Addr}{k:Nat}{l:List Nat}{ns:List Int}(h:OrdAt CO CR CW H o k l ns)(s:SamT T H H')(hT:H T=some (.tbl ps)):OrdAt CO CR CW H' o k l ns:=by
 obtain⟨dx,⟨h1,h2⟩ | ⟨h1,h2⟩ | ⟨h1,h2,w,h3,h4⟩⟩:=h
 ·exact⟨dx,.inl ⟨h1,s.at hT h2 fun _ z=>by cases z⟩⟩
 ·exact⟨dx,.inr (.inl ⟨h1,s.at hT h2 fun _ z=>by cases z⟩)⟩
 ·exact⟨dx,.inr (.inr ⟨h1,h2,w,s.at hT h3 (fun _ z=>by cases z),s.at hT h4 fun _ z=>by cases z⟩)⟩
theorem EnsA.samT{T:Addr}{H H':Hp}{ps:Array Value}(s:SamT T H H')(hT:H T=some (.tbl ps)):∀{es:List Ent} {vs:List V},EnsA K H es vs->EnsA K H' es vs
 | [],vs,h=>by simp only[EnsA] at h ⊢;exact h
 | e::es,vs,h=>by
  simp only[EnsA] at h ⊢
  obtain⟨v,r,e0,⟨p,s',e1,h1,h2⟩,h3⟩:=h
  exact⟨v,r,e0,⟨p,s',e1,s.seqT hT h1,h2.samT s hT⟩,EnsA.samT s hT h3⟩
theorem YI{a b:Int × List Int}(h:a≠b):rankF.lt a b=!rankF.lt b a:=by
 simp only[rankF]
 by_cases e:a.1=b.1
 ·rw[if_pos e,if_pos e.symm]
  exact wL fun q=>h (Prod.ext e q)
 ·rw[if_neg e,if_neg fun q=>e q.symm]
  by_cases c:a.1<b.1
  ·rw[decide_eq_true c,decide_eq_false (by omega)]
   rfl
  ·rw[decide_eq_false c,decide_eq_true (by omega)]
   rfl
theorem Vi(a b:Int × List Int):eqD (.tup (rankF.dec a)) (.tup (rankF.dec b))=decide (a=b):=by
 obtain⟨a1,a2⟩:=a
 obtain⟨b1,b2⟩:=b
 simp only[rankF,eqD,jm,Z3]
 by_cases h:a1=b1
 ·by_cases h2:a2=b2
  ·simp [h,h2]
  ·simp [h,h2]
 ·simp [h]
theorem XB(a b:Int × List Int):ltD (.tup (rankF.dec a)) (.tup (rankF.dec b))=rankF.lt a b:=by
 simp only[ltD]
 exact rankF_ok.eq a b
theorem ZX(a:Int × List Int):rankF.lt a a=false:=by
 simp only[rankF]
 rw[if_pos trivial]
 exact xD _
def pairF:KeyFam ((Int × List Int) × (Int × List Int)):=⟨fun r=>[.tup (rankF.dec r.1),.tup (rankF.dec r.2)],fun a b=>if a.1=b.1 then rankF.lt a.2 b.2 else rankF.lt a.1 b.1,false,((0,[]),(0,[]))⟩
theorem uZ(a b:(Int × List Int) × (Int × List Int)):pairF.lt a b=if a.1=b.1 then rankF.lt a.2 b.2 else rankF.lt a.1 b.1:=rfl
theorem Qm:pairF.Ok where
 w:=⟨fun a b h=>by
   rw[uZ] at h ⊢
   by_cases e:a.1=b.1
   ·rw[if_pos e] at h
    rw[if_pos e.symm]
    exact rankF_ok.w.asym _ _ h
   ·rw[if_neg e] at h
    rw[if_neg fun q=>e q.symm]
    exact rankF_ok.w.asym _ _ h,
  fun a b c h1 h2=>by
   rw[uZ] at h1 h2 ⊢
   by_cases e:b.1=a.1
   ·rw[if_pos e] at h1
    rw[e] at h2
    by_cases f:c.1=a.1
    ·rw[if_pos f] at h2 ⊢
     exact rankF_ok.w.ntr _ _ _ h1 h2
    ·rw[if_neg f] at h2 ⊢
     exact h2
   ·rw[if_neg e] at h1
    by_cases g:c.1=b.1
    ·rw[g,if_neg e]
     exact h1
    ·rw[if_neg g] at h2
     by_cases f:c.1=a.1
     ·rw[f] at h2
      have:=YI (a:=b.1) (b:=a.1) e
      rw[h1,h2] at this
      cases this
     ·rw[if_neg f]
      exact rankF_ok.w.ntr _ _ _ h1 h2⟩
 eq:=fun a b=>by
  show uf [.tup (rankF.dec a.1),.tup (rankF.dec a.2)] [.tup (rankF.dec b.1),.tup (rankF.dec b.2)]=_
  rw[uZ,uf,Vi,uf,Vi,XB,XB,uf]
  by_cases e:a.1=b.1
  ·rw[if_pos (decide_eq_true e),if_pos e]
   by_cases f:a.2=b.2
   ·rw[if_pos (decide_eq_true f),f,ZX]
   ·rw[if_neg (by simpa using f)]
  ·rw[if_neg (by simpa using e),if_neg e]
 ok:=fun a b=>by
  show kj [.tup (rankF.dec a.1),.tup (rankF.dec a.2)] [.tup (rankF.dec b.1),.tup (rankF.dec b.2)]
  simp only[kj,okD]
  exact⟨rankF_ok.ok _ _,rankF_ok.ok _ _,trivial⟩
 dp:=fun a=>by simp only[pairF,rankF,dpD,qb,Yn];decide
 sh:=fun a=>⟨_,_,rfl,.inr ⟨rfl,_,rfl⟩⟩
def rkE(k:Nat)(l:List Nat)(ns:List Int)(e:Ent):(Int × List Int) × (Int × List Int):=(K9 k l ns e.1,K9 k l ns e.2.1)
theorem zbj{k:Nat}{l:List Nat}{ns:List Int}{u v:List Nat}(hu:∀ c ∈ u,c ∈ l)(hv:∀ c ∈ v,c ∈ l):K9 k l ns u=K9 k l ns v ↔ u=v :=
 ⟨fun h=>Xl hu hv (Prod.ext_iff.mp h).2,fun h=>by rw[h]⟩
theorem KJ{k:Nat}{l:List Nat}{ns:List Int}{a b:Ent}(ha:EB l a)(hb:EB l b):pairF.lt (rkE k l ns a) (rkE k l ns b)=Wq k l ns a b:=by
 rw[uZ]
 unfold Wq
 have h:(rkE k l ns a).1=(rkE k l ns b).1 ↔ a.1=b.1:=zbj ha.ma hb.ma
 by_cases e:a.1=b.1
 ·rw[if_pos (h.mpr e),if_pos e]
  rfl
 ·rw[if_neg fun q=>e (h.mp q),if_neg e]
  rfl
theorem ZK{α β:Type}(g:α->β){us ys:List β}(h:us.Perm ys):∀ ts:List α,us=ts.map g->∃ ts':List α,ts'.Perm ts/\ys=ts'.map g:=by
 induction h with
 | nil =>
  intro ts e
  exact⟨ts,List.Perm.refl _,e⟩
 | @cons x us ys _ ih =>
  intro ts e
  match ts,e with
  | t::ts,e =>
   rw[aC] at e
   injection e with e1 e2
   obtain⟨ts',p,rfl⟩:=ih ts e2
   exact⟨t::ts',p.cons t,by rw[e1];rfl⟩
 | swap x y us =>
  intro ts e
  match ts,e with
  | t::t2::ts,e =>
   rw[aC,aC] at e
   injection e with e1 e2
   injection e2 with e2 e3
   exact⟨t2::t::ts,List.Perm.swap t t2 ts,by rw[e1,e2,e3];rfl⟩
 | trans _ _ ih1 ih2 =>
  intro ts e
  obtain⟨ts',p1,e1⟩:=ih1 ts e
  obtain⟨ts'',p2,e2⟩:=ih2 ts' e1
  exact⟨ts'',p2.trans p1,e2⟩
theorem Ub{H:Hp}:∀{es:List Ent} {vs:List V},EnsA K H es vs->∀ t ∈ es.zip vs,EnA K H t.1 t.2
 | [],_,_,t,ht=>by simp at ht
 | e::es,vs,h,t,ht=>by
  simp only[EnsA] at h
  obtain⟨v,r,rfl,h1,h2⟩:=h
  rw[dg] at ht
  rcases List.mem_cons.mp ht with rfl | ht
  ·exact h1
  ·exact Ub h2 t ht
theorem Jl{H:Hp}:∀{ts:List (Ent × V)},(∀ t ∈ ts,EnA K H t.1 t.2)->EnsA K H (ts.map (·.1)) (ts.map (·.2))
 | [],_=>by simp only[aN,EnsA]
 | t::ts,h=>by
  simp only[aC,EnsA]
  exact⟨_,_,rfl,h t az,Jl fun u hu=>h u (aw _ hu)⟩
theorem Yh{H:Hp}{k:Nat}{l:List Nat}{ns:List Int}{es:List Ent}{vs:List V}{ys:List (((Int × List Int) × (Int × List Int)) × V)}(hI:EnsA K H es vs)(hE:∀ e ∈ es,EB l e)(h1:ys.Perm ((es.map (rkE k l ns)).zip vs))(h2:ys.Pairwise fun p q=>pairF.lt q.1 p.1=false) :
  ∃ zs:List Ent,zs.Perm es/\zs.Pairwise (fun a b=>Wq k l ns b a=false)/\EnsA K H zs (ys.map (·.2)):=by
 have hl:=hI.len
 have e0:(es.map (rkE k l ns)).zip vs=(es.zip vs).map fun t=>(rkE k l ns t.1,t.2):=by
  rw[List.zip_map_left]
  rfl
 obtain⟨ts,p,rfl⟩:=ZK (fun t:Ent × V=>(rkE k l ns t.1,t.2)) h1.symm (es.zip vs) e0
 have hm:∀ t ∈ ts,t.1 ∈ es:=fun t ht=>(da (show (t.1,t.2) ∈ es.zip vs from p.mem_iff.mp ht)).1
 refine⟨ts.map (·.1),?_,?_,?_⟩
 ·have:=p.map (·.1)
  rw[List.map_fst_zip (by omega)] at this
  exact this
 ·rw[dQ] at h2 ⊢
  refine h2.imp_of_mem fun {a b} ha hb h=>?_
  rw[<- KJ (hE _ (hm _ hb)) (hE _ (hm _ ha))]
  exact h
 ·have e1:(ts.map fun t=>(rkE k l ns t.1,t.2)).map (·.2)=ts.map (·.2):=by
   rw[dw]
   rfl
  rw[e1]
  exact Jl fun t ht=>Ub hI t (p.mem_iff.mp ht)
def tbE(K:oO)(CO CR CW:Addr):TE:=Uz (zP (zA (za7 CO CR CW) "rank" (fun _=>qo CO CR CW) [] E0 (xx 1) (zP (tOp (uO K) (xx 0) (tC (.int 0))) vf)) (zP (zA (za7 CO CR CW) "rank" (fun _=>qo CO CR CW) [] E0 (xx 1) (zP (tOp (uO K) (xx 0) (tC (.int 1))) vf)) vf))
theorem za0{CO CR CW o p s:Addr}{k:Nat}{l:List Nat}{ns:List Int}{e:Ent}{H:Hp}{Q:VK}(hG:OG l ns k)(ho:OrdAt CO CR CW H o k l ns)(hE:EB l e)(hp:SqT K H p [.str (tx e.1),.str (tx e.2.1),.ref s])(q:∀(t:Addr) (H':Hp),Same H H'->Is K H' (.tup (pairF.dec (rkE k l ns e))) (.ref t)->Q (.ref t) H'):tbE K CO CR CW [some (.ref p),some (.ref o)] H Q:=by
 have s16:=ym
 obtain⟨C,dx,fs,hf,ho1,hn,_⟩:=ho.fam
 have h1:fs.lookup ("rank" : Str)=none:=hn _ (by decide) (by decide)
 unfold tbE
 repeat (first | rfl' | simp only[yx,zA,zJ,yz,yA,zy])
 refine⟨C,hf,dx,fs,ho1,h1,_,hp,_,rfl,o,k,l,ns,e.1,rfl,ho,hG,by have:=hE.a;omega,hE.ma,fun p1 q1 H1 s1 hp1 hq1=>⟨C,hf,dx,fs,s1 _ _ ho1,h1,_,zl s1 hp,_,rfl,o,k,l,ns,e.2.1,rfl,ho.same s1,hG,by have:=hE.b;omega,hE.mb,fun p2 q2 H2 s2 hp2 hq2=>⟨by omega,fun t ht=>?_⟩⟩⟩
 refine q t _ (s1.trans (s2.trans (zd (o:=.tup [.ref p1,.ref p2]) ht))) ?_
 show Is K _ (.tup [.tup (rankF.dec (K9 k l ns e.1)),.tup (rankF.dec (K9 k l ns e.2.1))]) (.ref t)
 refine Is.tup ht ?_
 simp only[Iss]
 exact⟨_,_,rfl,kE (s2 _ _ hp1) (s2 _ _ hq1),_,_,rfl,kE hp2 hq2,rfl⟩
theorem Ju{CO CR CW o:Addr}{k:Nat}{l:List Nat}{ns:List Int}{LA:Hp->Prop}{Qf:List V->Hp->Prop}(hG:OG l ns k)(hLA:∀ H H',LA H->Same H H'->LA H'):∀(es:List Ent) (vs acc:List V) (rs:List ((Int × List Int) × (Int × List Int))) (H:Hp),LA H->OrdAt CO CR CW H o k l ns->(∀ e ∈ es,EB l e)->EnsA K H es vs ->
  Iss K H (rs.map fun a=>.tup (pairF.dec a)) acc->(∀ acc' H',Same H H'->Iss K H' ((rs ++ es.map (rkE k l ns)).map fun a=>.tup (pairF.dec a)) acc'->Qf acc' H')->uI (fun x H Q=>LA H/\tbE K CO CR CW [some x,some (.ref o)] H Q) vs acc H Qf
 | [],vs,acc,rs,H,hL,ho,hw,hV,hI,h=>by
  simp only[EnsA] at hV
  subst hV
  exact h acc H (Same.refl _) (by simpa using hI)
 | e::es,vs,acc,rs,H,hL,ho,hw,hV,hI,h=>by
  have s16:=ym
  simp only[EnsA] at hV
  obtain⟨v,r,rfl,⟨p,s,rfl,hp,_⟩,hV⟩:=hV
  refine⟨hL,za0 hG ho (hw e az) hp fun t H' s3 hIs=>?_⟩
  refine Ju hG hLA es r (acc ++ [.ref t]) (rs ++ [rkE k l ns e]) _ (hLA _ _ hL s3) (ho.same s3) (fun x hx=>hw x (aw _ hx)) (hV.same s3) ?_ fun acc' H' s' hI'=>h acc' H' (s3.trans s') (by simpa using hI')
  rw[aH]
  exact Y0 (Iss.same s3 _ _ hI) hIs
def zaG:Expr->Pos
 | .Lambda _ _ _ p=>p
 | _=>default
def zc4:List Stmt->Pos
 | _::.Return (some (.Call _ _ (k::_) _)) _::_=>zaG k.value
 | _=>default
def lp:Pos:=zc4 (zk yK)
def lq:Str:="in_order.<locals>.<lambda>"
def u7(K:oO)(CO CR CW T:Addr):Sp:=fun vs H Q _=>∃(o a:Addr) (k:Nat) (l:List Nat) (ns:List Int) (es:List Ent),vs=[.ref o,.ref a]/\OrdAt CO CR CW H o k l ns/\OG l ns k/\EnsL K H a es/\es.length<64/\(∀ e ∈ es,EB l e)/\TabOk H T lp lq /\
 ∀(D:Addr) (zs:List Ent) (H':Hp),SamT T H H'->TabOk H' T lp lq->H D=none->Lined k l ns es zs->EnsM K H' D zs->Q (.ref D) H'
theorem VG{CO CR CW T o a:Addr}{k:Nat}{l:List Nat}{ns:List Int}{es:List Ent}{H:Hp}{Q:VK}{E:XK}(h1:OrdAt CO CR CW H o k l ns)(h2:OG l ns k)(h3:EnsL K H a es)(h4:es.length<64)(h5:∀ e ∈ es,EB l e)(h6:TabOk H T lp lq)
  (h:∀(D:Addr) (zs:List Ent) (H':Hp),SamT T H H'->TabOk H' T lp lq->H D=none->Lined k l ns es zs->EnsM K H' D zs->Q (.ref D) H'):u7 K CO CR CW T [.ref o,.ref a] H Q E:=⟨o,a,k,l,ns,es,rfl,h1,h2,h3,h4,h5,h6,h⟩
abbrev JW(mg:Str->Option Value):Prop:=mg "sorted" = none
theorem mN:zq ["order","entries","unlike"] ["order","entries"] (zb yK):=⟨rfl,rfl,rfl,by decide +kernel,rfl,by decide +kernel,by decide +kernel⟩
theorem Yw{f CO CR CW CC TB:Addr}{fd:FuncData}(B:Bt mg)(DRk:DR P w K mg base CO CR CW)(hsorted:JW mg)(hCd:PySem.W.CodeHd base CC TB)(hBt:base.BuiltinsAt mg TB)(hgT:oK≠TB)(F:Fun K "in_order" "in_order" yK f fd)(HC:fd.code=.ref CC)(ml:Df P w K mg base CX0 4 "as_rule" ["order","entry"] [] (wn K CO CR CW)):FnOk P w K mg base CX0 6 f fd ["order","entries"] (u7 K CO CR CW TB):=by
 refine KK F HC mN (fun vs H Q E h=>?_) (fun A outer s H vs Q E hr h=>?_)
 ·obtain⟨o,a,k,l,ns,es,rfl,_⟩:=h
  rfl
 ·obtain⟨o,a,k,l,ns,es,rfl,ho,hG,hA,hz,hE,hTab,q⟩:=h
  refine⟨_,(zi (vt (i:=2) mN.nd rfl (Or.inl rfl) (Or.inl rfl) (own:=["entry"]) (caps:=["order"]) (ix:=[0]) (tt:=(tBl (tOp rNe (tOp (uO K) (xx 0) (tC (.int 0))) (tOp (uO K) (xx 0) (tC (.int 1)))))) (te:=(jt (wn K CO CR CW) [] E0 (zP (xx 1) (zP (xx 0) vf)))) rfl (yb (sc:=zb yK) rfl (by decide +kernel) (by decide +kernel) (by decide +kernel) rfl (by decide +kernel) (by decide +kernel) rfl) (yC (pv 1)) (fun _ _ _ _ _ _=>zC (i:=0) (show List.Nodup [_,_] by decide) rfl (Or.inl rfl)) (fun _ _ _ _ _ _=>(Uu (zI X7 (zw ix_tup (pv 0) zg (fun _ _=>rfl)) (zw ix_tup (pv 0) zg (fun _ _=>rfl)) (zK _)))) (fun _ _ _ _ _ _=>(cl0 ml hr .nil rfl (za (pv 1) (za (pv 0) ze)))))
   (zh (zx (QR (k:=2) (p:="entry") (y:="order") (iy:=0) (c:=s.heap.objs.size+1) (tb:=tbE K CO CR CW) Qm ⟨rfl,rfl,rfl,by decide,rfl,rfl,by decide,by decide⟩ (hr.mono (by decide)) rfl hsorted PyProof.Rows.boot_sorted (za (pv 2) ze) rfl hCd hBt hgT rfl rfl (by intro _ _ _ _;exact rfl) rfl rfl rfl (fun s H f cv hr'=>z9 (za (zaf DRk hr' (pv 1) (za (zw ix_tup (pv 0) zg (fun _ _=>rfl)) ze)) (za (zaf DRk hr' (pv 1) (za (zw ix_tup (pv 0) zg (fun _ _=>rfl)) ze)) ze))))))),?_⟩
  have s16:=ym
  obtain⟨xs,hX,hI⟩:=id hA
  have hxl:=hI.len
  have hEr:∀ e ∈ qU k l ns es,EB l e:=fun e he=>by
   unfold qU at he
   obtain⟨y,hy,rfl⟩:=List.mem_map.mp he
   exact (hE y (List.mem_filter.mp hy).1).rule
  have hrl:=Yg k l ns es
  refine zj (fun σ H'=>Same H H'/\∃(D0:Addr) (acc:List V),H D0=none/\H' D0=some (.lst acc)/\EnsA K (ju D0 H') (qU k l ns es) acc/\σ=[some (.ref o),some (.ref a),some (.ref D0)]) ?_ ?_
  ·repeat (first | rfl' | simp only[yx,zA,zJ,yz,yA,zy])
   refine⟨⟨xs,hX⟩,fun D hD=>CompL.by (xs:=xs) (fun i acc H'=>Same H H'/\H' D=some (.lst acc)/\EnsA K (ju D H') (qU k l ns (es.take i)) acc) ⟨zd hD,zf,by simp only[bA,qU,dc,aN,EnsA]⟩ (fun i acc H' _ h=>h.1.seq hX) ?_ ?_⟩
   ·rintro i x acc H' hx ⟨hs,hH,hA⟩
    have hi:=(List.getElem?_eq_some_iff.mp hx).1
    obtain⟨e,pe,se,hei,rfl,hqe,hse⟩:=hI.get hx
    have hEe:=hE e (af hei)
    have hal:=hA.len
    have hal2:=Yg k l ns (es.take i)
    rw[aK] at hal2
    have hq1:=zl hs hqe
    have hraw:qU k l ns (es.take (i+1))=qU k l ns (es.take i) ++ if e.1=e.2.1 then [] else [yy k l ns e]:=by
     rw[zW hei,KN]
     congr 1
     unfold qU
     by_cases hne:e.1=e.2.1
     ·rw[if_pos hne,eD (by simp [hne])]
      rfl
     ·rw[if_neg hne,eC (by simp [hne])]
      rfl
    repeat (first | rfl' | simp only[yx,zA,zJ,yz,yA,zy])
    refine⟨wD,_,hq1,_,rfl,_,hq1,_,rfl,rfl,xj (fun hne=>?_) fun heq=>?_⟩
    ·have hne':¬ e.1=e.2.1:=fun z=>hne (by rw[z])
     rw[if_neg hne'] at hraw
     have fin:∀(v:V) (H2:Hp),Same H' H2->EnA K (ju D H2) (yy k l ns e) v->H2 D=some (.lst acc)/\acc.length<oN/\CNx xs.length i (fun i acc H'=>Same H H'/\H' D=some (.lst acc)/\EnsA K (ju D H') (qU k l ns (es.take i)) acc) (acc ++ [v]) (upd H2 D (.lst (acc ++ [v]))):=fun v H2 s2 hv=>by
      refine⟨s2 _ _ hH,by omega,CNx.mk hi ⟨zG (hs.trans s2) hD,zf,?_⟩⟩
      rw[hraw]
      exact (hA.same ((wP s2).trans xS)).snoc (hv.same xS)
     refine jI (ho.same hs) hG hq1 (hse.same hs).is hEe (fun er H2 s2=>fin _ _ s2 ?_) fun p' s' H2 s2 hsn hp' hL=>fin _ _ s2 ?_
     ·rw[er]
      exact EnA.same ⟨pe,se,rfl,hqe,hse⟩ (Ua hD (hs.trans s2))
     ·exact EnA.new (s2 _ _ hH) hp' hL (fun z=>by rw[z,hH] at hsn;cases hsn)
    ·have heq':e.1=e.2.1:=by
      have:=Classical.not_not.mp heq
      injection this with this
      exact jT this
     rw[if_pos heq',aS] at hraw
     exact CNx.mk hi ⟨hs,hH,by rw[hraw];exact hA⟩
   ·rintro acc H' ⟨hs,hH,hA⟩
    rw[hxl,aQ] at hA
    exact⟨hs,D,hD,acc,hH,hA,rfl⟩
  rintro σ H1 ⟨s1,D0,acc,hD0,hH1,hI1,rfl⟩
  have hal:=hI1.len
  have hT1:=hTab.same s1
  obtain⟨ps1,hps1,_⟩:=id hT1
  repeat (first | rfl' | simp only[yx,zA,zJ,yz,yA,zy])
  unfold Jy
  refine⟨_,rfl,hT1,fun f H2 hf hLA hT2 sT=>?_⟩
  obtain⟨ps2,hps2,_⟩:=id hT2
  have hI2:=EnsA.samT sT hps1 (hI1.same wX)
  refine⟨D0,acc,.ref o,rfl,SqL.of (sT.at hps1 hH1 fun _ z=>by cases z),by omega,rfl,?_⟩
  refine Ju hG (fun A A' h1 h2=>LamAt.same h1 h2) (qU k l ns es) acc [] [] H2 hLA ((ho.same s1).samT sT hps1) hEr hI2 (by simp only[aN,Iss]) fun acc' H3 s3 hI3=>⟨(qU k l ns es).map (rkE k l ns),by simpa using hI3,fun ys p1 p2 D hD=>?_⟩
  obtain⟨zs,z1,z2,z3⟩:=Yh (hI2.same s3) hEr p1 p2
  have sD:=zd (o:=.lst (ys.map (·.2))) hD
  refine q D zs _ ((SamT.of s1).trans (sT.trans (SamT.of (s3.trans sD)))) (hT2.same (s3.trans sD)) ?_ ⟨z1,z2⟩ ⟨_,zf,z3.same sD⟩
  exact ((SamT.of s1).trans (sT.trans (SamT.of s3))).free (s3 _ _ hps2) hD
structure TMo(mg:Str->Option Value):Prop where
 u:∃ t,mg "MOST_USES_thinning" = some (.int 40 t)
 s:∃ t,mg "MOST_STEPS" = some (.int 240 t)
 d:∃ t,mg "MOST_SIDE_thinning" = some (.int 60 t)
 p:∃ t,mg "MOST_PASSES" = some (.int 20 t)
structure BG(k:Nat)(l:List Nat)(ns:List Int)(bs:List Ent):Prop where
 n:bs.length<64
 e:∀ e ∈ bs,EB l e
 lt:∀ e ∈ bs,zL k l ns e.2.1 e.1=true
theorem BG.ne{k:Nat}{l:List Nat}{ns:List Int}{bs:List Ent}(h:BG k l ns bs)(G:OG l ns k):NeL (zc bs):=fun p hp=>by
 unfold zc at hp
 obtain⟨e,he,rfl⟩:=List.mem_map.mp hp
 exact WV G.nb (h.lt e he)
theorem BG.le{k:Nat}{l:List Nat}{ns:List Int}{bs:List Ent}(h:BG k l ns bs):∀ p ∈ zc bs,p.1.length<=60/\p.2.length<=60:=fun p hp=>by
 unfold zc at hp
 obtain⟨e,he,rfl⟩:=List.mem_map.mp hp
 exact⟨(h.e e he).a,(h.e e he).b⟩
theorem BG.mem{k:Nat}{l:List Nat}{ns:List Int}{bs:List Ent}(h:BG k l ns bs):∀ p ∈ zc bs,∀ c ∈ p.2,c ∈ l:=fun p hp=>by
 unfold zc at hp
 obtain⟨e,he,rfl⟩:=List.mem_map.mp hp
 exact (h.e e he).mb
theorem jG{CF a:Addr}{ps:List zr}{w:List Nat}{H:Hp}{Q:VK}{E:XK}(hA:LsA K H a (ps.map dR))(hN:NeL ps)(hpl:ps.length<=100)(hP:∀ p ∈ ps,p.1.length<=60/\p.2.length<=60)(hw:w.length<=60)
  (h1:∀(i:Nat) (p S:Addr) (H':Hp),zS ps w i->Same H H'->H' p=some (.tup [.ref S,.str (tx (wAt ps w i))])->LsA K H' S ((sAt ps w i).map dG)->H S=none->Q (.ref p) H') (h2:(∀ i,¬ zS ps w i)->∀ H',Same H H'->E (.ref CF) none H'):wU K CF [.ref a,.str (tx w),.int 40] H Q E:=by
 have hP':∀ p ∈ ps,p.1.length<=1000/\p.2.length<=1000:=fun p hp=>by
  have:=hP p hp
  omega
 have len:∀ j,j<=40->(wAt ps w j).length<=10000:=fun j hj=>by
  have:=qC (l:=w) (m:=60) hN (fun p hp=>(hP p hp).2) j
  omega
 rcases JS ps w with ⟨i,hi⟩ | ⟨hL,hf⟩
 ·have hm:=hi.most
  exact⟨a,w,ps,40,i,rfl,hA,hN,hpl,hP',⟨hi.live,fun j hj=>len j (by omega),by omega⟩,.inl ⟨hi.end_,by omega,fun p S H' s' hp hL hS=>h1 i p S H' hi s' hp hL hS⟩⟩
 ·refine⟨a,w,ps,40,40,rfl,hA,hN,hpl,hP',⟨hL,fun j hj=>len j hj,by decide⟩,.inr ⟨hf,rfl,h2 fun i hi=>?_⟩⟩
  have hm:=hi.most
  by_cases e:i=40
  ·subst e
   exact hf hi.end_
  ·exact hL i (by omega) hi.end_
theorem JQ(us:List (Nat × Nat)):us.map dG=(stS us).map dSt:=by
 unfold stS
 rw[dw]
 rfl
theorem VB(us:List (Nat × Nat)):(stS us).length=us.length:=by unfold stS;rw[ae]
theorem zat{ps:List zr}{w:List Nat}{i:Nat}(h:Wi ps w i):∀ u ∈ sAt ps w i,u.1<ps.length:=fun u hu=>by
 unfold sAt at hu
 obtain⟨j,hj,rfl⟩:=List.mem_map.mp hu
 cases e:zF (wAt ps w j) ps with
 | none=>exact absurd e (h j (List.mem_range.mp hj))
 | some v =>
  obtain⟨p,h1,_⟩:=xn e
  exact (List.getElem?_eq_some_iff.mp h1).1
theorem Q9{ps:List zr}{w:List Nat}{i:Nat}(h:Wi ps w i):∀ u ∈ stS (sAt ps w i),0<=u.1/\u.1<ps.length:=fun u hu=>by
 unfold stS at hu
 obtain⟨v,hv,rfl⟩:=List.mem_map.mp hu
 have:=zat h v hv
 show 0<=(v.1:Int)/\(v.1:Int)<ps.length
 omega
theorem K3{n:Int}{ss:List Stp}(h:∀ u ∈ ss,0<=u.1/\u.1<n):∀ u ∈ yX ss,0<=u.1/\u.1<n:=fun u hu=>by
 unfold yX at hu
 obtain⟨v,hv,rfl⟩:=List.mem_map.mp hu
 exact h v (List.mem_reverse.mp hv)
theorem zak{es:List Ent}(h:∀ e ∈ es,e.2.2.length<=600)(u:Stp):(Wv es u).length<=600:=by
 have hg:(es.getD u.1.toNat ([],[],[])).2.2.length<=600:=by
  rw[ac]
  cases e:es[u.1.toNat]? with
  | none=>exact aJ _
  | some r=>exact h r (af e)
 unfold Wv
 rw[XF]
 split
 ·exact hg
 ·rw[xV]
  exact hg
theorem JF{es:List Ent}(h:∀ e ∈ es,e.2.2.length<=600):∀ us:List Stp,(byL es us).length<=us.length * 600
 | []=>by simp [byL]
 | u::us=>by
  have e:byL es (u::us)=Wv es u ++ byL es us:=by simp [byL]
  have h1:=zak h u
  have h2:=JF h us
  rw[e,am,aM,d5]
  omega
def kA(K:oO)(CF:Addr):Sp:=fun vs H Q E=>∃(a p s:Addr) (k:Nat) (l:List Nat) (ns:List Int) (bs:List Ent) (e:Ent),vs=[.ref a,.ref p]/\OG l ns k/\Is K H (.lst (bs.map dE)) (.ref a)/\BG k l ns bs/\SqT K H p [.str (tx e.1),.str (tx e.2.1),.ref s]/\LsA K H s (e.2.2.map dSt)/\EB l e /\
 (∀ i j H',zS (zc bs) e.1 i->zS (zc bs) e.2.1 j->wAt (zc bs) e.1 i=wAt (zc bs) e.2.1 j->Same H H'->Q .non H') /\
 (∀ i j p' s' H',zS (zc bs) e.1 i->zS (zc bs) e.2.1 j->wAt (zc bs) e.1 i≠wAt (zc bs) e.2.1 j->Same H H'->H s'=none->H' p'=some (.tup [.str (tx (yY bs e i j).1),.str (tx (yY bs e i j).2.1),.ref s'])->LsA K H' s' ((yY bs e i j).2.2.map dSt)->Q (.ref p') H') /\
 ((∀ i,¬ zS (zc bs) e.1 i)\/(∀ j,¬ zS (zc bs) e.2.1 j)->∀ H',Same H H'->E (.ref CF) none H')
theorem WH{a t:Addr}{es:List Ent}{us:List Stp}{H:Hp}{Q:VK}{E:XK}(h1:Is K H (.lst (es.map dE)) (.ref a))(h2:Is K H (.lst (us.map dSt)) (.ref t))(h3:us.length<=100)(h4:∀ e ∈ es,e.2.2.length<=600)(h5:∀ u ∈ us,0<=u.1/\u.1<es.length)(h:∀(D:Addr) (H':Hp),H D=none->Same H H'->LsA K H' D ((byL es us).map dSt)->Q (.ref D) H'):Ur K [.ref a,.ref t] H Q E:=⟨a,t,es,us,rfl,h1,h2,h3,h4,h5,h⟩
theorem gf:zq ["entries","entry","rules","one","other","steps"] ["entries","entry"] (zb yv):=⟨rfl,rfl,rfl,by decide +kernel,rfl,by decide +kernel,by decide +kernel⟩
theorem jh{f CF:Addr}{fd:FuncData}{lr:Tok}(B:Bt mg)(TM:TMo mg)(F:Fun K "brought_down" "brought_down" yv f fd)(gg:Df P w K mg base CX0 1 "pairs_of" ["entries"] [] (wx K))(ng:Df P w K mg base (CXx P w) 4 "gone" ["rules","word","most"] [] (wU K CF))(DD_gone:Df P w K mg base (CXx P w) 4 "gone" ["rules","word","most"] [.int 4000 lr] (wU K CF))(lm:Df P w K mg base CX0 2 "by_pacts" ["entries","steps"] [] (Ur K))(mj:Df P w K mg base CX0 1 "back" ["steps"] [] (ub K)):FnOk P w K mg base (CXx P w) 5 f fd ["entries","entry"] (kA K CF):=by
 obtain⟨t9,g9⟩:=TM.u
 refine Fun.okX F gf (fun vs H Q E h=>?_) (fun cdv A outer s H vs Q E hr hx h=>?_)
 ·obtain⟨a,p,s,k,l,ns,bs,e,rfl,_⟩:=h
  rfl
 ·obtain⟨a,p,s,k,l,ns,bs,e,rfl,hG,hA,hB,hp,hs,hE,q1,q2,q3⟩:=h
  refine⟨_,(zi (zt (i:=2) gf.nd rfl (Or.inl rfl) (cl0 gg hr .nil rfl (za (pv 0) ze)))
   (zi (zt (i:=3) gf.nd rfl (Or.inl rfl) (clP hx ng hr .nil rfl (za (pv 2) (za (zw ix_tup (pv 1) zg (fun _ _=>rfl)) (za (xh (v:=.int 40) rfl g9 ⟨t9,rfl⟩) ze)))))
   (zi (zt (i:=4) gf.nd rfl (Or.inl rfl) (clP hx ng hr .nil rfl (za (pv 2) (za (zw ix_tup (pv 1) zg (fun _ _=>rfl)) (za (xh (v:=.int 40) rfl g9 ⟨t9,rfl⟩) ze)))))
   (zi (ya (zI qT (zw ix_tup (pv 3) zg (fun _ _=>rfl)) (zw ix_tup (pv 4) zg (fun _ _=>rfl)) (zK _))
    (zh (zx wl))
    zD)
   (zi (zt (i:=5) gf.nd rfl (Or.inl rfl) (zB VQ (zB VQ (cl0 lm hr .nil rfl (za (pv 0) (za (cl0 mj hr .nil rfl (za (zw ix_tup (pv 3) zg (fun _ _=>rfl)) ze)) ze))) (zw ix_tup (pv 1) zg (fun _ _=>rfl))) (cl0 lm hr .nil rfl (za (pv 0) (za (zw ix_tup (pv 4) zg (fun _ _=>rfl)) ze)))))
   (zh (zx (z9 (za (zw ix_tup (pv 3) zg (fun _ _=>rfl)) (za (zw ix_tup (pv 4) zg (fun _ _=>rfl)) (za (pv 5) ze))))))))))),?_⟩
  have s16:=ym
  have hbl:=hB.n
  have hN:=hB.ne hG
  have hpl:=vM bs
  have hst:∀ e ∈ bs,e.2.2.length<=600:=fun e he=>(hB.e e he).s
  have hst3:∀ e ∈ bs,e.2.2.length<=600:=fun e he=>by have:=hst e he;omega
  refine zj (fun σ H'=>Same H H'/\∃ R:Addr,LsA K H' R ((zc bs).map dR)/\σ=[some (.ref a),some (.ref p),some (.ref R),none,none,none]) ?_ ?_
  ·repeat (first | rfl' | simp only[yx,zA,zJ,yz,yA,zy])
   exact wN hA (by omega) fun D H' _ s' hL=>⟨s',D,hL,rfl⟩
  rintro σ H1 ⟨s1,R,hR,rfl⟩
  refine zj (fun σ H'=>Same H1 H'/\∃(i:Nat),zS (zc bs) e.1 i/\∃ p1:Addr,(∃ S1:Addr,H' p1=some (.tup [.ref S1,.str (tx (wAt (zc bs) e.1 i))])/\LsA K H' S1 ((sAt (zc bs) e.1 i).map dG))/\σ=[some (.ref a),some (.ref p),some (.ref R),some (.ref p1),none,none]) ?_ ?_
  ·repeat (first | rfl' | simp only[yx,zA,zJ,yz,yA,zy])
   refine⟨_,zl s1 hp,_,rfl,jG hR hN (by omega) hB.le hE.a (fun i p1 S1 H' hi s' hp1 hL _=>⟨s',i,hi,p1,⟨S1,hp1,hL⟩,rfl⟩) fun hno H' s'=>q3 (.inl hno) H' (s1.trans s')⟩
  rintro σ H2 ⟨s2,i,hi,p1,⟨S1,hp1,hS1⟩,rfl⟩
  have s12:=s1.trans s2
  refine zj (fun σ H'=>Same H2 H'/\∃(j:Nat),zS (zc bs) e.2.1 j/\∃ p2:Addr,(∃ S2:Addr,H' p2=some (.tup [.ref S2,.str (tx (wAt (zc bs) e.2.1 j))])/\LsA K H' S2 ((sAt (zc bs) e.2.1 j).map dG))/\σ=[some (.ref a),some (.ref p),some (.ref R),some (.ref p1),some (.ref p2),none]) ?_ ?_
  ·repeat (first | rfl' | simp only[yx,zA,zJ,yz,yA,zy])
   refine⟨_,zl s12 hp,_,rfl,jG (hR.same s2) hN (by omega) hB.le hE.b (fun j p2 S2 H' hj s' hp2 hL _=>⟨s',j,hj,p2,⟨S2,hp2,hL⟩,rfl⟩) fun hno H' s'=>q3 (.inr hno) H' (s12.trans s')⟩
  rintro σ H3 ⟨s3,j,hj,p2,⟨S2,hp2,hS2⟩,rfl⟩
  have s13:=s12.trans s3
  have hp1':=s3 _ _ hp1
  have hS1':=hS1.same s3
  refine zj (fun σ H'=>H'=H3/\wAt (zc bs) e.1 i≠wAt (zc bs) e.2.1 j/\σ=[some (.ref a),some (.ref p),some (.ref R),some (.ref p1),some (.ref p2),none]) ?_ ?_
  ·repeat (first | rfl' | simp only[yx,zA,zJ,yz,yA,zy])
   refine⟨_,SqT.of hp1',_,rfl,_,SqT.of hp2,_,rfl,rfl,xj (fun h=>?_) fun h=>?_⟩
   ·exact q1 i j H3 hi hj (jT (by injection h)) s13
   ·exact fun z=>h (by rw[z])
  rintro σ H4 ⟨rfl,hne,rfl⟩
  have him:=hi.most
  have hjm:=hj.most
  have hl1:(stS (sAt (zc bs) e.1 i)).length=i:=by rw[VB,Yr]
  have hl2:(stS (sAt (zc bs) e.2.1 j)).length=j:=by rw[VB,Yr]
  rw[JQ] at hS1' hS2
  have hA4:=Is.same s13 _ _ hA
  have hb1:=JF hst (yX (stS (sAt (zc bs) e.1 i)))
  have hb2:=JF hst (stS (sAt (zc bs) e.2.1 j))
  rw[xV,hl1] at hb1
  rw[hl2] at hb2
  have hes:=hE.s
  refine zj (fun σ H'=>Same H4 H'/\∃ S:Addr,H4 S=none/\LsA K H' S ((yY bs e i j).2.2.map dSt)/\σ=[some (.ref a),some (.ref p),some (.ref R),some (.ref p1),some (.ref p2),some (.ref S)]) ?_ ?_
  ·repeat (first | rfl' | simp only[yx,zA,zJ,yz,yA,zy])
   refine⟨_,SqT.of hp1',_,rfl,ka hS1'.is (by omega) fun B1 G1 _ t1 hB1=>WH (Is.same t1 _ _ hA4) hB1.is (by rw[xV];omega) hst3 (by rw[<- hpl];exact K3 (Q9 hi.live)) fun C1 G2 hC1n t2 hC1=>?_⟩
   have t12:=t1.trans t2
   obtain⟨c1,hc1,ic1⟩:=id hC1
   obtain⟨es0,hs0,is0⟩:=hs.same (s13.trans t12)
   have lc1:=ic1.len
   have ls0:=is0.len
   rw[ae] at lc1 ls0
   refine⟨_,zl (s13.trans t12) hp,_,rfl,C1,rfl,s,rfl,c1,hc1,es0,hs0,by omega,fun M hM=>?_⟩
   have t3:=zd (o:=.lst (c1 ++ es0)) hM
   have t13:=t12.trans t3
   refine⟨_,SqT.of (t13 _ _ hp2),_,rfl,WH (Is.same t13 _ _ hA4) (hS2.same t13).is (by omega) hst3 (by rw[<- hpl];exact Q9 hj.live) fun C2 G3 hC2n t4 hC2=>?_⟩
   obtain⟨c2,hc2,ic2⟩:=id hC2
   have lc2:=ic2.len
   rw[ae] at lc2
   refine⟨C2,rfl,c1 ++ es0,t4 _ _ zf,c2,hc2,by rw[am];omega,fun S hS=>?_⟩
   have t5:=zd (o:=.lst (c1 ++ es0 ++ c2)) hS
   refine⟨t13.trans (t4.trans t5),S,(t13.trans t4).free hS,⟨_,zf,?_⟩,rfl⟩
   show Iss K _ ((byL bs (yX (stS (sAt (zc bs) e.1 i))) ++ e.2.2 ++ byL bs (stS (sAt (zc bs) e.2.1 j))).map dSt) _
   rw[aH,aH]
   exact Iss.append (Iss.append (Iss.same (t3.trans (t4.trans t5)) _ _ ic1) (Iss.same (t3.trans (t4.trans t5)) _ _ is0)) (Iss.same t5 _ _ ic2)
  rintro σ H5 ⟨s5,S,hSn,hS,rfl⟩
  repeat (first | rfl' | simp only[yx,zA,zJ,yz,yA,zy])
  refine⟨_,SqT.of (s5 _ _ hp1'),_,rfl,_,SqT.of (s5 _ _ hp2),_,rfl,by omega,fun t ht=>?_⟩
  have st:=zd (o:=.tup [.str (tx (wAt (zc bs) e.1 i)),.str (tx (wAt (zc bs) e.2.1 j)),.ref S]) ht
  exact q2 i j t S _ hi hj hne (s13.trans (s5.trans st)) (s13.free hSn) zf (hS.same st)
def vN(K:oO)(CF:Addr):Sp:=fun vs H Q E=>∃(p s:Addr) (e:Ent),vs=[.ref p]/\SqT K H p [.str (tx e.1),.str (tx e.2.1),.ref s]/\Is K H (.lst (e.2.2.map dSt)) (.ref s)/\e.1.length<=10000/\e.2.1.length<=10000/\(¬ jo e->Q .non H)/\(jo e->E (.ref CF) none H)
theorem XZ{CF p s:Addr}{e:Ent}{H:Hp}{Q:VK}{E:XK}(h1:SqT K H p [.str (tx e.1),.str (tx e.2.1),.ref s])(h2:Is K H (.lst (e.2.2.map dSt)) (.ref s))(h3:e.1.length<=10000)(h4:e.2.1.length<=10000)(h5:¬ jo e->Q .non H)(h6:jo e->E (.ref CF) none H):vN K CF [.ref p] H Q E:=⟨p,s,e,rfl,h1,h2,h3,h4,h5,h6⟩
theorem uN:zq ["entry"] ["entry"] (zb yg):=⟨rfl,rfl,rfl,by decide +kernel,rfl,by decide +kernel,by decide +kernel⟩
theorem uL{f CF:Addr}{fd:FuncData}(B:Bt mg)(T:K7 K mg CF)(TM:TMo mg)(F:Fun K "refuse_beyond" "refuse_beyond" yg f fd) : FnOk P w K mg base (CXx P w) 1 f fd ["entry"] (vN K CF):=by
 obtain⟨⟨t9,g9⟩,⟨t8,g8⟩⟩:=And.intro TM.s TM.d
 refine Fun.okX F uN (fun vs H Q E h=>?_) (fun cdv A outer s H vs Q E hr hx h=>?_)
 ·obtain⟨p,s,e,rfl,_⟩:=h
  rfl
 ·obtain⟨p,s,e,rfl,hp,hs,ha,hb,q1,q2⟩:=h
  refine⟨_,(zi (ya (zI qx (zp zX rfl B.len aB (za (zw ix_tup (pv 0) zg (fun _ _=>rfl)) ze)) (xh (v:=.int 240) rfl g9 ⟨t9,rfl⟩) (zK _))
    (zh (yU hx rfl T.xi.toXC T.ini rfl T.g (za xT ze)))
    zD)
   (zh (ya (zI qx (zp (Uk rfl) rfl B.max u8 (za (zp zX rfl B.len aB (za (zw ix_tup (pv 0) zg (fun _ _=>rfl)) ze)) (za (zp zX rfl B.len aB (za (zw ix_tup (pv 0) zg (fun _ _=>rfl)) ze)) ze))) (xh (v:=.int 60) rfl g8 ⟨t8,rfl⟩) (zK _))
    (zh (yU hx rfl T.xi.toXC T.ini rfl T.g (za xT ze)))
    zD))),?_⟩
  have s16:=ym
  simp only[Is] at hs
  obtain⟨_,zs,e0,hZ,hI⟩:=hs
  cases e0
  have hzl:=hI.len
  rw[ae] at hzl
  refine zj (fun σ H'=>H'=H/\e.2.2.length<=240/\σ=[some (.ref p)]) ?_ ?_
  ·repeat (first | rfl' | simp only[yx,zA,zJ,yz,yA,zy])
   refine⟨_,hp,_,rfl,_,.inl ⟨_,hZ,rfl⟩,xj (fun h=>⟨by omega,q2 (.inl (by omega))⟩) fun h=>by omega⟩
  rintro σ H1 ⟨rfl,h1,rfl⟩
  repeat (first | rfl' | simp only[yx,zA,zJ,yz,yA,zy])
  refine⟨_,hp,_,rfl,_,⟨by rw[ye];omega,rfl⟩,_,hp,_,rfl,_,⟨by rw[ye];omega,rfl⟩,?_⟩
  rw[ye,ye]
  refine xj (fun h=>⟨by omega,q2 ?_⟩) fun h=>q1 ?_
  ·unfold jo
   split at h <;> omega
  ·unfold jo
   split at h <;> omega
theorem Qk{k:Nat}{l:List Nat}{ns:List Int}{bs:List Ent}{e:Ent}{i j:Nat}(hB:BG k l ns bs)(hE:EB l e)(hF:¬ jo (yY bs e i j)):EB l (yY bs e i j):=by
 unfold jo at hF
 exact⟨by omega,by omega,by omega,ud hE.ma hB.mem i,ud hE.mb hB.mem j⟩
theorem BG.snoc{k:Nat}{l:List Nat}{ns:List Int}{bs:List Ent}{d:Ent}(h:BG k l ns bs)(hn:bs.length+1<64)(hd:EB l d)(hne:d.1≠d.2.1):BG k l ns (bs ++ [yy k l ns d]):=by
 refine⟨by rw[am];exact hn,fun e he=>?_,fun e he=>?_⟩
 ·rcases List.mem_append.mp he with he | he
  ·exact h.e e he
  ·rw[List.mem_singleton.mp he]
   exact hd.rule
 ·rcases List.mem_append.mp he with he | he
  ·exact h.lt e he
  ·rw[List.mem_singleton.mp he]
   exact qP hd hne
theorem UU{CF a p s:Addr}{k:Nat}{l:List Nat}{ns:List Int}{bs:List Ent}{e:Ent}{H:Hp}{Q:VK}{E:XK}(h1:OG l ns k)(h2:Is K H (.lst (bs.map dE)) (.ref a))(h3:BG k l ns bs)(h4:SqT K H p [.str (tx e.1),.str (tx e.2.1),.ref s])(h5:LsA K H s (e.2.2.map dSt))(h6:EB l e)
  (q1:∀ i j H',zS (zc bs) e.1 i->zS (zc bs) e.2.1 j->wAt (zc bs) e.1 i=wAt (zc bs) e.2.1 j->Same H H'->Q .non H')
  (q2:∀ i j p' s' H',zS (zc bs) e.1 i->zS (zc bs) e.2.1 j->wAt (zc bs) e.1 i≠wAt (zc bs) e.2.1 j->Same H H'->H s'=none->H' p'=some (.tup [.str (tx (yY bs e i j).1),.str (tx (yY bs e i j).2.1),.ref s'])->LsA K H' s' ((yY bs e i j).2.2.map dSt)->Q (.ref p') H')
  (q3:(∀ i,¬ zS (zc bs) e.1 i)\/(∀ j,¬ zS (zc bs) e.2.1 j)->∀ H',Same H H'->E (.ref CF) none H'):kA K CF [.ref a,.ref p] H Q E:=⟨a,p,s,k,l,ns,bs,e,rfl,h1,h2,h3,h4,h5,h6,q1,q2,q3⟩
theorem QL{k:Nat}{l:List Nat}{ns:List Int}{bs:List Ent}{e:Ent}{i j:Nat}(hB:BG k l ns bs)(hG:OG l ns k)(hE:EB l e)(hi:i<=40)(hj:j<=40):(yY bs e i j).1.length<=10000/\(yY bs e i j).2.1.length<=10000:=by
 have h1:=qC (l:=e.1) (m:=60) (hB.ne hG) (fun p hp=>(hB.le p hp).2) i
 have h2:=qC (l:=e.2.1) (m:=60) (hB.ne hG) (fun p hp=>(hB.le p hp).2) j
 have h3:=hE.a
 have h4:=hE.b
 show (wAt (zc bs) e.1 i).length<=10000/\(wAt (zc bs) e.2.1 j).length<=10000
 omega
def qd(K:oO)(CO CR CW CF:Addr):Sp:=fun vs H Q E=>∃(o a:Addr) (k:Nat) (l:List Nat) (ns:List Int) (zs:List Ent),vs=[.ref o,.ref a]/\OrdAt CO CR CW H o k l ns/\OG l ns k/\EnsL K H a zs/\zs.length<64/\(∀ e ∈ zs,EB l e) /\
 (∀(bs:List Ent) (D:Addr) (H':Hp),xP k l ns [] zs (some bs)->BG k l ns bs->Same H H'->H D=none->EnsM K H' D bs->Q (.ref D) H')/\(xP k l ns [] zs none->∀ H',Same H H'->E (.ref CF) none H')
theorem WX{CO CR CW CF o a:Addr}{k:Nat}{l:List Nat}{ns:List Int}{zs:List Ent}{H:Hp}{Q:VK}{E:XK}(h1:OrdAt CO CR CW H o k l ns)(h2:OG l ns k)(h3:EnsL K H a zs)(h4:zs.length<64)(h5:∀ e ∈ zs,EB l e)
  (q1:∀(bs:List Ent) (D:Addr) (H':Hp),xP k l ns [] zs (some bs)->BG k l ns bs->Same H H'->H D=none->EnsM K H' D bs->Q (.ref D) H') (q2:xP k l ns [] zs none->∀ H',Same H H'->E (.ref CF) none H'):qd K CO CR CW CF [.ref o,.ref a] H Q E:=⟨o,a,k,l,ns,zs,rfl,h1,h2,h3,h4,h5,q1,q2⟩
def zbK(K:oO)(H1 H':Hp)(bs:List Ent)(e:Ent)(v:V):Prop:=∃ i j,zS (zc bs) e.1 i/\zS (zc bs) e.2.1 j/\((wAt (zc bs) e.1 i=wAt (zc bs) e.2.1 j/\v=.non) \/
 (wAt (zc bs) e.1 i≠wAt (zc bs) e.2.1 j/\∃ p s:Addr,v=.ref p/\H1 s=none/\H' p=some (.tup [.str (tx (yY bs e i j).1),.str (tx (yY bs e i j).2.1),.ref s])/\LsA K H' s ((yY bs e i j).2.2.map dSt)))
def zcz(K:oO)(H:Hp)(D:Addr)(k:Nat)(l:List Nat)(ns:List Int)(zs:List Ent)(i:Nat)(H':Hp):Prop:=∃(bs:List Ent) (acc:List V),Same H H'/\H' D=some (.lst acc)/\EnsA K (ju D H') bs acc/\BG k l ns bs/\bs.length<=i/\∀ r,xP k l ns bs (zs.drop i) r->xP k l ns [] zs r
theorem ie:zq ["order","entries","built","entry","lower"] ["order","entries"] (zb yO):=⟨rfl,rfl,rfl,by decide +kernel,rfl,by decide +kernel,by decide +kernel⟩
theorem Zc{f CO CR CW CF:Addr}{fd:FuncData}(B:Bt mg)(F:Fun K "built_anew" "built_anew" yO f fd)(ny:Df P w K mg base (CXx P w) 5 "brought_down" ["entries","entry"] [] (kA K CF))(nh:Df P w K mg base (CXx P w) 1 "refuse_beyond" ["entry"] [] (vN K CF))(ml:Df P w K mg base CX0 4 "as_rule" ["order","entry"] [] (wn K CO CR CW)):FnOk P w K mg base (CXx P w) 6 f fd ["order","entries"] (qd K CO CR CW CF):=by
 refine Fun.okX F ie (fun vs H Q E h=>?_) (fun cdv A outer s H vs Q E hr hx h=>?_)
 ·obtain⟨o,a,k,l,ns,zs,rfl,_⟩:=h
  rfl
 ·obtain⟨o,a,k,l,ns,zs,rfl,ho,hG,hA,hz,hE,q1,q2⟩:=h
  refine⟨_,(zi (zt (i:=2) ie.nd rfl (Or.inl rfl) (xR ze))
   (zi (yF PassesOwn.leaving rfl (yC (pv 1)) (zC (i:=3) ie.nd rfl (Or.inl rfl))
    (zi (zt (i:=4) ie.nd rfl (Or.inl rfl) (clP hx ny hr .nil rfl (za (pv 2) (za (pv 3) ze))))
    (zh (ya (zI op_notN' (pv 4) wl (zK _))
     (zi (xJ (clP hx nh hr .nil rfl (za (pv 4) ze)))
     (zh (xJ (vR bc bB bC yW (pv 2) (za (cl0 ml hr .nil rfl (za (pv 0) (za (pv 4) ze))) ze)))))
     zD))))
   (zh (zx (pv 2))))),?_⟩
  have s16:=ym
  obtain⟨xs,hX,hI⟩:=id hA
  have hxl:=hI.len
  refine zj (fun σ H'=>Same H H'/\∃ D:Addr,H D=none/\H' D=some (.lst [])/\σ=[some (.ref o),some (.ref a),some (.ref D),none,none]) ?_ ?_
  ·repeat (first | rfl' | simp only[yx,zA,zJ,yz,yA,zy])
   exact⟨by omega,fun p hp=>⟨zd hp,p,hp,zf,rfl⟩⟩
  rintro σ H0 ⟨s0,D,hD,hD0,rfl⟩
  refine zj (fun σ H'=>zcz K H D k l ns zs zs.length H'/\∃(v3 v4:Option V),σ=[some (.ref o),some (.ref a),some (.ref D),v3,v4]) ?_ ?_
  ·repeat (first | rfl' | simp only[yx,zA,zJ,yz,yA,zy])
   refine⟨⟨_,s0.seq hX⟩,ForL.by (xs:=xs) (fun i σ H'=>zcz K H D k l ns zs i H'/\∃(v3 v4:Option V),σ=[some (.ref o),some (.ref a),some (.ref D),v3,v4]) ⟨⟨[],[],s0,hD0,by simp only[EnsA],⟨by decide,fun e he=>(nomatch he),fun e he=>(nomatch he)⟩,au _,fun r h=>h⟩,none,none,rfl⟩ (fun i σ H' _ ⟨⟨_,_,h,_⟩,_⟩=>h.seq hX) ?_ ?_⟩
   ·rintro i x σ H1 hx ⟨⟨bs,acc,s1,hH1,hI1,hB,hbi,hr⟩,v3,v4,rfl⟩
    have hix:=(List.getElem?_eq_some_iff.mp hx).1
    obtain⟨e,pe,se,hei,rfl,hqe,hse⟩:=hI.get hx
    have hEe:=hE e (af hei)
    have hdrop:zs.drop i=e::zs.drop (i+1):=by
     obtain⟨h1,h2⟩:=List.getElem?_eq_some_iff.mp hei
     rw[aV h1,h2]
    rw[hdrop] at hr
    have hal:=hI1.len
    have hbn:=hB.n
    have hIs:Is K H1 (.lst (bs.map dE)) (.ref D):=by
     simp only[Is]
     exact⟨D,acc,rfl,SqL.of hH1,(hI1.same wX).iss⟩
    simp only[xA,bj,bi]
    refine zj (fun σ H'=>Same H1 H'/\∃ v:V,zbK K H1 H' bs e v/\σ=[some (.ref o),some (.ref a),some (.ref D),some (.ref pe),some (v)]) ?_ ?_
    ·repeat (first | rfl' | simp only[yx,zA,zJ,yz,yA,zy])
     exact UU hG hIs hB (zl s1 hqe) (hse.same s1) hEe (fun i' j' H' a1 a2 a3 s'=>⟨s',i',j',a1,a2,.inl ⟨a3,rfl⟩⟩) (fun i' j' p' s' H' a1 a2 a3 t' a4 a5 a6=>⟨t',i',j',a1,a2,.inr ⟨a3,p',s',rfl,a4,a5,a6⟩⟩) fun h H' s'=>q2 (hr _ (.stuck h)) H' (s1.trans s')
    rintro σ H2 ⟨s2,v,⟨i',j',hi',hj',hc⟩,rfl⟩
    rcases hc with ⟨hw,rfl⟩ | ⟨hw,p',s',rfl,hsn,hp',hL'⟩
    ·repeat (first | rfl' | simp only[yx,zA,zJ,yz,yA,zy])
     exact⟨bs,acc,s1.trans s2,s2 _ _ hH1,hI1.same (wP s2),hB,by omega,fun r h=>hr r (.same hi' hj' hw h)⟩
    ·repeat (first | rfl' | simp only[yx,zA,zJ,yz,yA,zy])
     rw[if_pos not_false]
     have hdl:=QL hB hG hEe hi'.most hj'.most
     refine zj (fun σ H'=>H'=H2/\¬ jo (yY bs e i' j')/\σ=[some (.ref o),some (.ref a),some (.ref D),some (.ref pe),some (.ref p')]) ?_ ?_
     ·repeat (first | rfl' | simp only[yx,zA,zJ,yz,yA,zy])
      exact XZ (SqT.of hp') hL'.is hdl.1 hdl.2 (fun h=>⟨rfl,h⟩) fun h=>q2 (hr _ (.far hi' hj' hw h)) H2 (s1.trans s2)
     rintro σ H3 ⟨rfl,hF,rfl⟩
     have hEd:=Qk hB hEe hF
     have hH3:=s2 _ _ hH1
     have fin:∀(v:V) (H4:Hp),Same H3 H4->EnA K (ju D H4) (yy k l ns (yY bs e i' j')) v->zcz K H D k l ns zs (i+1) (upd H4 D (.lst (acc ++ [v]))):=fun v H4 s4 hv=>by
      refine⟨bs ++ [yy k l ns (yY bs e i' j')],acc ++ [v],zG (s1.trans (s2.trans s4)) hD,zf,?_,hB.snoc (by omega) hEd hw,by rw[am];show bs.length+1<=i+1;omega,fun r h=>hr r (.new hi' hj' hw hF h)⟩
      exact (hI1.same ((wP (s2.trans s4)).trans xS)).snoc (hv.same xS)
     repeat (first | rfl' | simp only[yx,zA,zJ,yz,yA,zy])
     refine⟨.inl ⟨_,SqL.of hH3⟩,jI (ho.same (s1.trans s2)) hG (SqT.of hp') hL'.is hEd (fun er H4 s4=>⟨acc,s4 _ _ hH3,by omega,fin _ _ s4 ?_⟩) fun p2 t2 H4 s4 htn hp2 hL2=>⟨acc,s4 _ _ hH3,by omega,fin _ _ s4 ?_⟩⟩
     ·rw[er]
      exact EnA.new (s4 _ _ hH3) (s4 _ _ hp') (hL'.same s4) (fun z=>by rw[z,hH1] at hsn;cases hsn)
     ·exact EnA.new (s4 _ _ hH3) hp2 hL2 (fun z=>by rw[z,hH3] at htn;cases htn)
   ·rintro σ H' ⟨h,v3,v4,rfl⟩
    rw[hxl] at h
    exact⟨h,_,_,rfl⟩
  rintro σ H2 ⟨⟨bs,acc,s2,hH2,hI2,hB,hbi,hr⟩,v3,v4,rfl⟩
  rw[d6] at hr
  repeat (first | rfl' | simp only[yx,zA,zJ,yz,yA,zy])
  exact q1 bs D H2 (hr _ (.nil bs)) hB s2 hD ⟨acc,hH2,hI2.same wX⟩
theorem UO(rs ss:List zr):jm (rs.map dR) (ss.map dR)=decide (rs=ss):=by
 induction rs generalizing ss with
 | nil=>cases ss with
  | nil=>simp [jm]
  | cons s ss=>simp [jm]
 | cons r rs ih=>cases ss with
  | nil=>simp [jm]
  | cons s ss =>
   rw[aC,aC,jm,ih]
   have h:eqD (dR r) (dR s)=decide (r=s):=by
    obtain⟨a,b⟩:=r
    obtain⟨c,d⟩:=s
    have e1:∀ x y:List Nat,eqD (dS x) (dS y)=decide (x=y):=fun x y=>by
     have:eqD (dS x) (dS y)=decide (tx x=tx y):=by simp only[dS,eqD];rfl
     rw[this]
     exact decide_eq_decide.mpr ⟨jT,fun h=>by rw[h]⟩
    simp only[dR,eqD,jm,e1]
    by_cases h1:a=c <;> by_cases h2:b=d <;> simp [h1,h2]
   rw[h]
   by_cases h1:r=s <;> by_cases h2:rs=ss <;> simp [h1,h2]
theorem Lined.eb{k:Nat}{l:List Nat}{ns:List Int}{es zs:List Ent}(h:Lined k l ns es zs)(hE:∀ e ∈ es,EB l e):∀ e ∈ zs,EB l e:=fun e he=>by
 have hm:=h.perm.mem_iff.mp he
 unfold qU at hm
 obtain⟨y,hy,rfl⟩:=List.mem_map.mp hm
 exact (hE y (List.mem_filter.mp hy).1).rule
theorem Lined.len{k:Nat}{l:List Nat}{ns:List Int}{es zs:List Ent}(h:Lined k l ns es zs):zs.length<=es.length:=by
 rw[h.perm.length_eq]
 exact Yg k l ns es
def Yc(K:oO)(CO CR CW T CF:Addr):Sp:=fun vs H Q E=>∃(o a:Addr) (k:Nat) (l:List Nat) (ns:List Int) (es:List Ent),vs=[.ref o,.ref a]/\OrdAt CO CR CW H o k l ns/\OG l ns k/\EnsL K H a es/\es.length<64/\(∀ e ∈ es,EB l e)/\TabOk H T lp lq /\
 (∀(bs:List Ent) (D:Addr) (H':Hp),vU k l ns 20 es (some bs)->BG k l ns bs->SamT T H H'->TabOk H' T lp lq->EnsM K H' D bs->Q (.ref D) H')/\(vU k l ns 20 es none->∀ H',SamT T H H'->TabOk H' T lp lq->E (.ref CF) none H')
def zcD(K:oO)(T:Addr)(H:Hp)(k:Nat)(l:List Nat)(ns:List Int)(es:List Ent)(n:Nat)(H':Hp)(b:Addr):Prop:=∃ fs:List Ent,SamT T H H'/\TabOk H' T lp lq/\(∀ r,vU k l ns n fs r->vU k l ns 20 es r)/\EnsL K H' b fs/\fs.length<64/\∀ e ∈ fs,EB l e
theorem ln:zq ["order","entries","turn","lined_up"] ["order","entries"] (zb we):=⟨rfl,rfl,rfl,by decide +kernel,rfl,by decide +kernel,by decide +kernel⟩
theorem X3{f CO CR CW TB CF:Addr}{fd:FuncData}(B:Bt mg)(T:K7 K mg CF)(TM:TMo mg)(F:Fun K "thinned" "thinned" we f fd)(nX:Df P w K mg base CX0 6 "in_order" ["order","entries"] [] (u7 K CO CR CW TB))(nM:Df P w K mg base (CXx P w) 6 "built_anew" ["order","entries"] [] (qd K CO CR CW CF))(gg:Df P w K mg base CX0 1 "pairs_of" ["entries"] [] (wx K)):FnOk P w K mg base (CXx P w) 7 f fd ["order","entries"] (Yc K CO CR CW TB CF):=by
 obtain⟨t9,g9⟩:=TM.p
 refine Fun.okX F ln (fun vs H Q E h=>?_) (fun cdv A outer s H vs Q E hr hx h=>?_)
 ·obtain⟨o,a,k,l,ns,es,rfl,_⟩:=h
  rfl
 ·obtain⟨o,a,k,l,ns,es,rfl,ho,hG,hA,hz,hE,hTab,q1,q2⟩:=h
  refine⟨_,(zi (yF PassesOwn.leaving rfl (xO rfl B.range (za (xh (v:=.int 20) rfl g9 ⟨t9,rfl⟩) ze)) (zC (i:=2) ln.nd rfl (Or.inl rfl))
    (zi (zt (i:=3) ln.nd rfl (Or.inl rfl) (cl0 nX hr .nil rfl (za (pv 0) (za (pv 1) ze))))
    (zi (zt (i:=1) ln.nd rfl (Or.inl rfl) (clP hx nM hr .nil rfl (za (pv 0) (za (pv 3) ze))))
    (zh (ya (zI (Jc (Yi hr)) (cl0 gg hr .nil rfl (za (pv 1) ze)) (cl0 gg hr .nil rfl (za (pv 3) ze)) (zK _))
     (zh (zx (pv 1)))
     zD)))))
   (zh (yU hx rfl T.xi.toXC T.ini rfl T.g (za xT ze)))),?_⟩
  have s16:=ym
  obtain⟨ps0,hps0,_⟩:=id hTab
  refine zj (fun σ H'=>∃ b:Addr,zcD K TB H k l ns es 0 H' b) ?_ ?_
  ·repeat (first | rfl' | simp only[yx,zA,zJ,yz,yA,zy])
   refine⟨by omega,by omega,ForR.by (fun i σ H'=>∃(b:Addr) (v2 v3:Option V),zcD K TB H k l ns es (20 - i) H' b/\σ=[some (.ref o),some (.ref b),v2,v3]) ⟨a,none,none,⟨es,SamT.of (Same.refl _),hTab,fun r h=>h,hA,hz,hE⟩,rfl⟩ ?_ ?_⟩
   ·rintro i σ H1 hi ⟨b,v2,v3,⟨fs,s1,hT1,hr,hF,hfl,hFE⟩,rfl⟩
    have ho1:=ho.samT s1 hps0
    have hi20:i<20:=hi
    obtain⟨n,hn⟩:∃ n,20 - i=n+1:=⟨20 - i - 1,by omega⟩
    rw[hn] at hr
    simp only[xA,bj,bi]
    refine zj (fun σ H'=>SamT TB H1 H'/\TabOk H' TB lp lq/\∃(z:Addr),(∃ zs:List Ent,Lined k l ns fs zs/\EnsM K H' z zs)/\∃ v2,σ=[some (.ref o),some (.ref b),v2,some (.ref z)]) ?_ ?_
    ·repeat (first | rfl' | simp only[yx,zA,zJ,yz,yA,zy])
     exact VG ho1 hG hF hfl hFE hT1 fun D zs H' s' hT' _ hLn hM=>⟨s',hT',D,⟨zs,hLn,hM⟩,rfl⟩
    rintro σ H2 ⟨s2,hT2,z,⟨zs,hLn,hZ⟩,v2,rfl⟩
    have s12:=s1.trans s2
    have ho2:=ho.samT s12 hps0
    have hzE:=hLn.eb hFE
    have hzl:=hLn.len
    refine zj (fun σ H'=>Same H2 H'/\∃(c:Addr),(∃ bs:List Ent,xP k l ns [] zs (some bs)/\BG k l ns bs/\EnsM K H' c bs)/\σ=[some (.ref o),some (.ref c),v2,some (.ref z)]) ?_ ?_
    ·repeat (first | rfl' | simp only[yx,zA,zJ,yz,yA,zy])
     exact WX ho2 hG hZ.l (by omega) hzE (fun bs D H' hb hB s' _ hM=>⟨s',D,⟨bs,hb,hB,hM⟩,rfl⟩) fun hb H' s'=>q2 (hr _ (.bad hLn hb)) H' (s12.trans (SamT.of s')) (hT2.same s')
    rintro σ H3 ⟨s3,c,⟨bs,hb,hB,hM⟩,rfl⟩
    have hbn:=hB.n
    repeat (first | rfl' | simp only[yx,zA,zJ,yz,yA,zy])
    refine wN hM.l.is (by omega) fun P1 H4 _ s4 hP1=>wN ((hZ.same s3).same s4).l.is (by omega) fun P2 H5 _ s5 hP2=>WC (.inl ⟨(hP1.same s5).is,hP2.is⟩) (cp (Jm _) (by decide)) ?_
    rw[UO]
    have s45:=s4.trans s5
    have s15:=s12.trans (SamT.of (s3.trans s45))
    have hT5:=hT2.same (s3.trans s45)
    refine⟨_,rfl,xj (fun h=>?_) fun h=>?_⟩
    ·exact q1 bs c H5 (hr _ (.done hLn hb (of_decide_eq_true h))) hB s15 hT5 (hM.same s45)
    ·have e:20 - (i+1)=n:=by omega
     rw[e]
     exact⟨bs,s15,hT5,fun r h'=>hr r (.more hLn hb (fun z=>h (decide_eq_true z)) h'),(hM.same s45).l,hbn,hB.e⟩
   ·rintro σ H' ⟨b,v2,v3,h,rfl⟩
    exact⟨b,h⟩
  rintro σ H2 ⟨b,fs,s2,hT2,hr,_⟩
  repeat (first | rfl' | simp only[yx,zA,zJ,yz,yA,zy])
  exact⟨by omega,q2 (hr _ (.out fs)) H2 s2 hT2⟩
def qV(K:oO):Sp:=fun vs H Q _=>∃(a:Addr) (ns:List Int) (k:Int),vs=[.ref a,.int k]/\SqL K H a (ns.map V.int)/\(∀ z ∈ ns,uq z)/\0<=k/\∀ c:Int,uq c->Q (.int c) H
theorem vI{a:Addr}{ns:List Int}{k:Int}{H:Hp}{Q:VK}{E:XK}(hS:SqL K H a (ns.map V.int))(hB:∀ z ∈ ns,uq z)(hk:0<=k)(h:∀ c:Int,uq c->Q (.int c) H):qV K [.ref a,.int k] H Q E:=⟨a,ns,k,rfl,hS,hB,hk,h⟩
theorem Ky:zq ["_law_script","_law_k"] ["_law_script","_law_k"] (zb jH):=⟨rfl,rfl,rfl,by decide +kernel,rfl,by decide +kernel,by decide +kernel⟩
theorem KP{f:Addr}{fd:FuncData}(B:Bt mg)(F:Fun K "_law_cell" "_law_cell" jH f fd) : FnOk P w K mg base CX0 1 f fd ["_law_script","_law_k"] (qV K):=by
 refine F.ok Ky (fun vs H Q E h=>?_) (fun cdv A outer s H vs Q E hr h=>?_)
 ·obtain⟨a,ns,k,rfl,_⟩:=h
  rfl
 ·obtain⟨a,ns,k,rfl,hS,hB,hk,q⟩:=h
  refine⟨_,(zN (ya (zI Xb (pv 1) (zp zX rfl B.len aB (za (pv 0) ze)) (zK _))
    (zh (zx (zw Jf (pv 0) (pv 1) (fun _ _=>rfl))))
    zD)
   (zh (zx zg))),?_⟩
  have s16:=ym
  rfl'
  refine⟨_,.inl ⟨_,hS,rfl⟩,xj (fun c=>?_) (fun c=>q 0 (by unfold uq;decide))⟩
  obtain⟨v,h1,h2⟩:=vQ hk c
  rw[aG] at h2
  obtain⟨z,hz,rfl⟩:=Option.map_eq_some_iff.mp h2
  exact .inl ⟨_,hS,_,h1,q z (hB z (af hz))⟩
def xy:Sp:=fun vs H Q _=>∃(c t:Int),vs=[.int c,.int t]/\uq c/\0<=t/\t<=100/\∀ z:Int,0<=z->Q (.int z) H
theorem xq{c t:Int}{H:Hp}{Q:VK}{E:XK}(hc:uq c)(h0:0<=t)(h1:t<=100)(q:∀ z:Int,0<=z->Q (.int z) H):xy [.int c,.int t] H Q E:=⟨c,t,rfl,hc,h0,h1,q⟩
theorem lS:zq ["_law_cell_here","_law_turn","_law_step","_law_number"] ["_law_cell_here","_law_turn"] (zb vW):=⟨rfl,rfl,rfl,by decide +kernel,rfl,by decide +kernel,by decide +kernel⟩
theorem QS{f:Addr}{fd:FuncData}(B:Bt mg)(F:Fun K "_law_mixed" "_law_mixed" vW f fd) : FnOk P w K mg base CX0 1 f fd ["_law_cell_here","_law_turn"] xy:=by
 refine F.ok lS (fun vs H Q E h=>?_) (fun cdv A outer s H vs Q E hr h=>?_)
 ·obtain⟨c,t,rfl,_⟩:=h
  rfl
 ·obtain⟨c,t,rfl,hc,h0,h1,q⟩:=h
  refine⟨_,(zi (ya (zI op_ge' (pv 0) (zB Uy zg zg) (zK _))
    (zi (yF PassesOwn.never rfl (xO rfl B.range (za (zB op_add zg (zB yQ (pv 1) zg)) ze)) (zC (i:=2) lS.nd rfl (Or.inl rfl))
     (zh (zt (i:=0) lS.nd rfl (Or.inl rfl) (zB yV (pv 0) (zB Uy zg zg)))))
    (zh (zx (zB yQ (pv 0) (zB Uy zg zg)))))
    zD)
   (zi (zt (i:=3) lS.nd rfl (Or.inl rfl) (zB op_add (zB op_mul (zB Qn (pv 0) (pv 0)) zg) (zB op_mul (zB op_mul (pv 0) zg) (zB op_add (pv 1) zg))))
   (zh (zx (zB yV (zB yQ (zB op_mul (zB yQ (zB op_add (pv 3) (zB op_mul (pv 1) zg)) zg) zg) zg) zg))))),?_⟩
  have s16:=ym
  have c6:zb1 10 6:=⟨by decide,by decide,by decide⟩
  have c12:zb1 10 12:=⟨by decide,by decide,by decide⟩
  have p6:(0:Int)<10 ^ Int.toNat 6/\(10:Int) ^ Int.toNat 6<1073741824:=by decide
  refine zj (fun σ H'=>H'=H/\σ=[some (.int c),some (.int t),none,none]) ?_ ?_
  ·rfl'
   refine⟨c12,xj (fun _=>?_) (fun _=>trivial)⟩
   refine zj (fun σ H'=>H'=H/\∃(z:Int) (v:Option V),σ=[some (.int z),some (.int t),v,none]) ?_ ?_
   ·rfl'
    have e1:=be t (b:=9) (by decide)
    have e2:=ba t (b:=9) (by decide)
    refine⟨by decide,by omega,by omega,ForR.by (fun i σ H'=>H'=H/\∃(z:Int) (v:Option V),σ=[some (.int z),some (.int t),v,none]) ⟨rfl,_,_,rfl⟩ ?_ fun σ H' h=>h⟩
    rintro i σ H' hi ⟨rfl,z,v,rfl⟩
    rfl'
    exact⟨c6,p6.1,p6.2⟩
   rintro σ H1 ⟨rfl,z,v,rfl⟩
   rfl'
   exact⟨c6,p6.1,q _ (be _ (by have:=p6.1;omega))⟩
  rintro σ H1 ⟨rfl,rfl⟩
  refine zj (fun σ H'=>H'=H1/\∃ z:Int,σ=[some (.int c),some (.int t),none,some (.int z)]) ?_ ?_
  ·rfl'
   exact⟨hc,hc,.inr ⟨by decide,by decide⟩,.inr ⟨by decide,by decide⟩,.inr ⟨by omega,by omega⟩⟩
  rintro σ H2 ⟨rfl,z,rfl⟩
  rfl'
  exact⟨.inr ⟨by decide,by decide⟩,by decide,.inr ⟨by decide,by decide⟩,by decide,⟨by decide,by decide⟩,q _ (Int.ediv_nonneg (be _ (by decide)) (by decide))⟩
def vc:Sp:=fun vs H Q _=>∃ c m:Int,vs=[.int c,.int m]/\uq c/\0<=m/\m<=26/\∀ l:List Nat,(l.length:Int)=m->l.Nodup->YE l->Q (.str (tx l)) H
theorem Yo{c m:Int}{H:Hp}{Q:VK}{E:XK}(h:uq c)(h0:0<=m)(h1:m<=26)(q:∀ l:List Nat,(l.length:Int)=m->l.Nodup->YE l->Q (.str (tx l)) H):vc [.int c,.int m] H Q E:=⟨c,m,rfl,h,h0,h1,q⟩
def zc3(c m:Int)(i:Nat)(σ:L2.St):Prop:=∃(left found:List Nat) (number:Int) (v5 v6:Option V),found.length=i/\(found ++ left).Perm alpha/\σ=[some (.int c),some (.int m),some (.str (tx left)),some (.int number),some (.str (tx found)),v5,v6]
theorem fV:zq ["_law_cell_here","_law_many","_law_left","_law_number","_law_letters_here","_law_k","_law_at"] ["_law_cell_here","_law_many"] (zb wd):=⟨rfl,rfl,rfl,by decide +kernel,rfl,by decide +kernel,by decide +kernel⟩
theorem XV{f:Addr}{fd:FuncData}(B:Bt mg)(F:Fun K "_law_letters" "_law_letters" wd f fd)(fY:Df P w K mg base CX0 1 "_law_mixed" ["_law_cell_here","_law_turn"] [] xy):FnOk P w K mg base CX0 2 f fd ["_law_cell_here","_law_many"] vc:=by
 refine F.ok fV (fun vs H Q E h=>?_) (fun cdv A outer s H vs Q E hr h=>?_)
 ·obtain⟨c,m,rfl,_⟩:=h
  rfl
 ·obtain⟨c,m,rfl,hc,h0,h1,q⟩:=h
  refine⟨_,(zi (zt (i:=2) fV.nd rfl (Or.inl rfl) xT)
   (zi (zt (i:=3) fV.nd rfl (Or.inl rfl) (cl0 fY hr .nil rfl (za (pv 0) (za zg ze))))
   (zi (zt (i:=4) fV.nd rfl (Or.inl rfl) xT)
   (zi (yF PassesOwn.never rfl (xO rfl B.range (za (pv 1) ze)) (zC (i:=5) fV.nd rfl (Or.inl rfl))
    (zi (zt (i:=6) fV.nd rfl (Or.inl rfl) (zB yQ (pv 3) (zp zX rfl B.len aB (za (pv 2) ze))))
    (zi (zt (i:=3) fV.nd rfl (Or.inl rfl) (zB yV (pv 3) (zp zX rfl B.len aB (za (pv 2) ze))))
    (zi (zt (i:=4) fV.nd rfl (Or.inl rfl) (zB op_add_str (pv 4) (zw Jn (pv 2) (pv 6) (fun _ _=>rfl))))
    (zh (zt (i:=2) fV.nd rfl (Or.inl rfl) (zB op_add_str (yl uF (pv 2) xZ (yh (pv 6))) (yl uF (pv 2) (yh (zB op_add (pv 6) zg)) xZ))))))))
   (zh (zx (pv 4))))))),?_⟩
  have s16:=ym
  have ha:alpha.length=26:=rfl
  refine zj (fun σ H'=>H'=H/\σ=[some (.int c),some (.int m),some (.str (tx alpha)),none,none,none,none]) ?_ ?_
  ·rfl'
   exact V3
  rintro σ H1 ⟨rfl,rfl⟩
  refine zj (fun σ H'=>H'=H1/\∃ z:Int,σ=[some (.int c),some (.int m),some (.str (tx alpha)),some (.int z),none,none,none]) ?_ ?_
  ·rfl'
   exact xq hc (by decide) (by decide) fun z _=>⟨rfl,z,rfl⟩
  rintro σ H2 ⟨rfl,z,rfl⟩
  refine zj (fun σ H'=>H'=H2/\σ=[some (.int c),some (.int m),some (.str (tx alpha)),some (.int z),some (.str (tx [])),none,none]) ?_ ?_
  ·rfl'
   rfl
  rintro σ H3 ⟨rfl,rfl⟩
  refine zj (fun σ H'=>H'=H3/\zc3 c m m.toNat σ) ?_ ?_
  ·rfl'
   refine⟨by omega,by omega,ForR.by (fun i σ H'=>H'=H3/\zc3 c m i σ) ⟨rfl,alpha,[],z,none,none,rfl,.refl _,rfl⟩ ?_ fun σ H' h=>h⟩
   rintro i σ H' hi ⟨rfl,left,found,number,v5,v6,hf,hp,rfl⟩
   have hpl:=hp.length_eq
   rw[am] at hpl
   have hl:left.length+i=26:=by omega
   have hm0:=be number (b:=(left.length:Int)) (by omega)
   have hm1:=ba number (b:=(left.length:Int)) (by omega)
   generalize hz:number % (left.length:Int)=at_ at hm0 hm1
   obtain⟨v,e1,e2⟩:=vQ hm0 hm1
   simp only[xA,bj,bi]
   refine zj (fun σ H''=>H''=H'/\∃ v5,σ=[some (.int c),some (.int m),some (.str (tx left)),some (.int number),some (.str (tx found)),v5,some (.int at_)]) ?_ ?_
   ·rfl'
    exact⟨by omega,by omega,hz⟩
   rintro σ G1 ⟨rfl,v5',rfl⟩
   refine zj (fun σ H''=>H''=G1/\∃ n v5,σ=[some (.int c),some (.int m),some (.str (tx left)),some (.int n),some (.str (tx found)),v5,some (.int at_)]) ?_ ?_
   ·rfl'
    exact⟨by omega,⟨by omega,by omega⟩⟩
   rintro σ G2 ⟨rfl,n,v5',rfl⟩
   refine zj (fun σ H''=>H''=G2/\∃ v5,σ=[some (.int c),some (.int m),some (.str (tx left)),some (.int n),some (.str (tx (found ++ [v]))),v5,some (.int at_)]) ?_ ?_
   ·rfl'
    exact⟨by omega,v,e1,by omega,rfl⟩
   rintro σ G3 ⟨rfl,v5',rfl⟩
   have hc1:=wQ left none (some at_)
   have hc2:=wQ left (some (at_+1)) none
   rfl'
   refine⟨by omega,by omega,by omega,_,_,_,_,_,by rw[am,hf];rfl,?_,rfl⟩
   rw[ZJ _ hm0,qj _ (by omega),ax]
   have e3:(at_+1).toNat=at_.toNat+1:=by omega
   rw[e3]
   exact ((Vn e2).append_left found).trans hp
  rintro σ H4 ⟨rfl,left,found,number,v5,v6,hf,hp,rfl⟩
  rfl'
  have hnd:(found ++ left).Nodup:=hp.nodup_iff.mpr (by decide)
  refine q found (by omega) (List.nodup_append.mp hnd).1 fun c hc=>?_
  have h:c ∈ alpha:=hp.mem_iff.mp (aR _ hc)
  exact (by decide:∀ c ∈ alpha,97<=c/\c<=122) c h
def je:Sp:=fun vs H Q _=>∃(ls:List Nat) (c m:Int),vs=[.int c,.str (tx ls),.int m]/\0<=c/\1<=ls.length/\ls.length<=26/\0<=m/\m<=100/\∀ l:List Nat,(l.length:Int)<=m->(∀ x ∈ l,x ∈ ls)->Q (.str (tx l)) H
theorem kY{ls:List Nat}{c m:Int}{H:Hp}{Q:VK}{E:XK}(h0:0<=c)(h1:1<=ls.length)(h2:ls.length<=26)(h3:0<=m)(h4:m<=100)(h:∀ l:List Nat,(l.length:Int)<=m->(∀ x ∈ l,x ∈ ls)->Q (.str (tx l)) H):je [.int c,.str (tx ls),.int m] H Q E :=
 ⟨ls,c,m,rfl,h0,h1,h2,h3,h4,h⟩
theorem iE:zq ["_law_number","_law_letters_here","_law_most","_law_size","_law_word_here","_law_k"] ["_law_number","_law_letters_here","_law_most"] (zb jz):=⟨rfl,rfl,rfl,by decide +kernel,rfl,by decide +kernel,by decide +kernel⟩
theorem J8{f:Addr}{fd:FuncData}(B:Bt mg)(F:Fun K "_law_word" "_law_word" jz f fd) : FnOk P w K mg base CX0 1 f fd ["_law_number","_law_letters_here","_law_most"] je:=by
 refine F.ok iE (fun vs H Q E h=>?_) (fun cdv A outer s H vs Q E hr h=>?_)
 ·obtain⟨ls,c,m,rfl,_⟩:=h
  rfl
 ·obtain⟨ls,c,m,rfl,h0,h1,h2,h3,h4,q⟩:=h
  refine⟨_,(zN (zt (i:=3) iE.nd rfl (Or.inl rfl) (zB yQ (pv 0) (zB yB (pv 2) zg)))
   (zN (zt (i:=0) iE.nd rfl (Or.inl rfl) (zB yV (pv 0) (zB yB (pv 2) zg)))
   (zN (zt (i:=4) iE.nd rfl (Or.inl rfl) xT)
   (zN (yF PassesOwn.never rfl (xO rfl B.range (za (pv 3) ze)) (zC (i:=5) iE.nd rfl (Or.inl rfl))
    (zN (zt (i:=4) iE.nd rfl (Or.inl rfl) (zB yB (pv 4) (zw Jf (pv 1) (zB yQ (pv 0) (zp zX rfl B.len aB (za (pv 1) ze))) (fun _ _=>rfl))))
    (zh (zt (i:=0) iE.nd rfl (Or.inl rfl) (zB yV (pv 0) (zp zX rfl B.len aB (za (pv 1) ze)))))))
   (zh (zx (pv 4))))))),?_⟩
  have s16:=ym
  rfl'
  have m0:=be c (b:=m+1) (by omega)
  have m1:=ba c (b:=m+1) (by omega)
  refine⟨by omega,⟨by omega,by omega⟩,by omega,by omega,ForR.by (fun i σ H'=>H'=H/\∃(found:List Nat) (number:Int) (v5:Option V),σ=[some (.int number),some (.str (tx ls)),some (.int m),some (.int (c % (m+1))),some (.str (tx found)),v5]/\found.length=i/\∀ x ∈ found,x ∈ ls)
   ⟨rfl,[],_,none,rfl,rfl,fun x h=>(nomatch h)⟩ ?_ ?_⟩
  ·rintro i σ H' hi ⟨rfl,found,number,v5,rfl,hf,hm⟩
   rfl'
   have hm0:=be number (b:=(ls.length:Int)) (by omega)
   have hm1:=ba number (b:=(ls.length:Int)) (by omega)
   obtain⟨v,e1,e2⟩:=vQ hm0 hm1
   repeat (refine And.intro (by first | omega | decide | exact⟨by omega,by omega⟩ | assumption) ?_)
   refine⟨v,e1,?_⟩
   repeat (refine And.intro (by first | omega | decide | exact⟨by omega,by omega⟩ | assumption) ?_)
   refine⟨by rw[am,hf];rfl,fun x hx=>?_⟩
   rcases List.mem_append.mp hx with h | h
   ·exact hm x h
   ·rw[List.mem_singleton.mp h]
    exact af e2
  ·rintro σ H' ⟨rfl,found,number,v5,rfl,hf,hm⟩
   rfl'
   exact q found (by omega) hm
def ql:Sp:=fun vs H Q _=>∃(ls:List Nat) (c m:Int),vs=[.int c,.str (tx ls),.int m]/\uq c/\1<=ls.length/\ls.length<=26/\0<=m/\m<=100/\∀(o n:List Nat) (p:Addr),(o.length:Int)<=m->(n.length:Int)<=m->(∀ x ∈ o,x ∈ ls)->(∀ x ∈ n,x ∈ ls)->H p=none->Q (.ref p) (upd H p (.tup [.str (tx o),.str (tx n)]))
theorem UH{ls:List Nat}{c m:Int}{H:Hp}{Q:VK}{E:XK}(h0:uq c)(h1:1<=ls.length)(h2:ls.length<=26)(h3:0<=m)(h4:m<=100)(h:∀(o n:List Nat) (p:Addr),(o.length:Int)<=m->(n.length:Int)<=m->(∀ x ∈ o,x ∈ ls)->(∀ x ∈ n,x ∈ ls)->H p=none->Q (.ref p) (upd H p (.tup [.str (tx o),.str (tx n)]))):ql [.int c,.str (tx ls),.int m] H Q E:=⟨ls,c,m,rfl,h0,h1,h2,h3,h4,h⟩
theorem KC:zq ["_law_cell_here","_law_letters_here","_law_most"] ["_law_cell_here","_law_letters_here","_law_most"] (zb jW):=⟨rfl,rfl,rfl,by decide +kernel,rfl,by decide +kernel,by decide +kernel⟩
theorem JV{f:Addr}{fd:FuncData}(B:Bt mg)(F:Fun K "_law_pair" "_law_pair" jW f fd)(ni:Df P w K mg base CX0 1 "_law_word" ["_law_number","_law_letters_here","_law_most"] [] je)(fY:Df P w K mg base CX0 1 "_law_mixed" ["_law_cell_here","_law_turn"] [] xy):FnOk P w K mg base CX0 2 f fd ["_law_cell_here","_law_letters_here","_law_most"] ql:=by
 refine F.ok KC (fun vs H Q E h=>?_) (fun cdv A outer s H vs Q E hr h=>?_)
 ·obtain⟨ls,c,m,rfl,_⟩:=h
  rfl
 ·obtain⟨ls,c,m,rfl,hc,h1,h2,h3,h4,q⟩:=h
  refine⟨_,(zh (zx (z9 (za (cl0 ni hr .nil rfl (za (cl0 fY hr .nil rfl (za (pv 0) (za zg ze))) (za (pv 1) (za (pv 2) ze)))) (za (cl0 ni hr .nil rfl (za (cl0 fY hr .nil rfl (za (pv 0) (za zg ze))) (za (pv 1) (za (pv 2) ze)))) ze))))),?_⟩
  have s16:=ym
  rfl'
  exact xq hc (by decide) (by decide) fun z hz=>kY hz h1 h2 h3 h4 fun o ho mo=>xq hc (by decide) (by decide) fun z hz=>kY hz h1 h2 h3 h4 fun n hn mn=>⟨by omega,fun p hp=>q o n p ho hn mo mn hp⟩
structure zdo(K:oO):Prop where
 ii:aT K (.type "int") (.type "int")=some true
 ib:aT K (.type "int") (.type "bool")=some false
def qc:Sp:=fun vs H Q _=>∃ i:Int,vs=[.int i]/\Q (.bl true) H
theorem Zt{i:Int}{H:Hp}{Q:VK}{E:XK}(h:Q (.bl true) H):qc [.int i] H Q E:=⟨i,rfl,h⟩
theorem QT:zq ["_law_found"] ["_law_found"] (zb uo):=⟨rfl,rfl,rfl,by decide +kernel,rfl,by decide +kernel,by decide +kernel⟩
theorem QK{f:Addr}{fd:FuncData}(B:Bt mg)(T:zdo K)(F:Fun K "_law_whole" "_law_whole" uo f fd):FnOk P w K mg base CX0 1 f fd ["_law_found"] qc:=by
 refine F.ok QT (fun vs H Q E h=>?_) (fun cdv A outer s H vs Q E hr h=>?_)
 ·obtain⟨a,rfl,_⟩:=h
  rfl
 ·obtain⟨i,rfl,q⟩:=h
  refine⟨_,(zh (zx (zaQ (xI rfl B.isi (pv 0) rfl B.int PySem.Pv.boot_int) (zaC (Jj (xI rfl B.isi (pv 0) rfl B.bool PySem.Pv.boot_bool)))))),?_⟩
  rfl'
  exact⟨_,.inl (.int _),true,T.ii,zdx ⟨_,.inl (.int _),false,T.ib,q⟩⟩
structure TLs(K:oO):Prop where
 ll:aT K (.type "list") (.type "list")=some true
 tt:aT K (.type "tuple") (.type "tuple")=some true
 bb:aT K (.type "bool") (.type "bool")=some true
def kK(K:oO):Sp:=fun vs H Q _=>∃(t:Addr) (ss:List Stp),vs=[.ref t]/\Is K H (.lst (ss.map dSt)) (.ref t)/\Q (.bl true) H
theorem nN:zq ["_law_found","_law_step"] ["_law_found"] (zb uc):=⟨rfl,rfl,rfl,by decide +kernel,rfl,by decide +kernel,by decide +kernel⟩
theorem UM{f:Addr}{fd:FuncData}(B:Bt mg)(T:TLs K)(F:Fun K "_law_steps" "_law_steps" uc f fd)(nW:Df P w K mg base CX0 1 "_law_whole" ["_law_found"] [] qc):FnOk P w K mg base CX0 2 f fd ["_law_found"] (kK K):=by
 refine F.ok nN (fun vs H Q E h=>?_) (fun cdv A outer s H vs Q E hr h=>?_)
 ·obtain⟨t,ss,rfl,_⟩:=h
  rfl
 ·obtain⟨t,ss,rfl,hT,q⟩:=h
  refine⟨_,(zi (ya (yn (xz (xI rfl B.isi (pv 0) rfl B.list PySem.Pv.boot_list) (fun _=>rfl)))
    (zh (zx xM))
    zD)
   (zi (yF PassesOwn.never rfl (yC (pv 0)) (zC (i:=1) nN.nd rfl (Or.inl rfl))
    (zi (ya (PW.pt (uu (yn (xz (xI rfl B.isi (pv 1) rfl B.tuple PySem.Pv.boot_tuple) (fun _=>rfl))) (uu (zI X7 (zp zX rfl B.len aB (za (pv 1) ze)) zg (zK _)) (vB (yn (xz (xI rfl B.isi (zw ix_tup (pv 1) zg (fun _ _=>rfl)) rfl B.bool PySem.Pv.boot_bool) (fun _=>rfl)))))))
     (zh (zx xM))
     zD)
    (zh (ya (PW.pt (uu (yn (xz (cl0 nW hr .nil rfl (za (zw ix_tup (pv 1) zg (fun _ _=>rfl)) ze)) (fun _=>rfl))) (vB (yn (xz (cl0 nW hr .nil rfl (za (zw ix_tup (pv 1) zg (fun _ _=>rfl)) ze)) (fun _=>rfl))))))
     (zh (zx xM))
     zD))))
   (zh (zx xM)))),?_⟩
  have s16:=ym
  simp only[Is] at hT
  obtain⟨_,ts,e,hTs,hJ⟩:=hT
  cases e
  refine zj (fun σ H'=>H'=H/\σ=[some (.ref t),none]) ?_ ?_
  ·rfl'
   exact⟨_,.inr (.inr (.inl ⟨_,_,rfl,rfl,hTs⟩)),true,T.ll,UA trivial⟩
  rintro σ H1 ⟨rfl,rfl⟩
  refine zj (fun σ H'=>H'=H1/\∃ v1,σ=[some (.ref t),v1]) ?_ ?_
  ·rfl'
   refine⟨⟨_,hTs⟩,ForL.by (xs:=ts) (fun i σ H'=>H'=H1/\∃ v1,σ=[some (.ref t),v1]) ⟨rfl,_,rfl⟩ (fun i σ H' _ h=>by rw[h.1];exact hTs) ?_ fun σ H' h=>h⟩
   rintro i x σ H' hx ⟨rfl,v1,rfl⟩
   obtain⟨u,pu,hui,rfl,hqu⟩:=vd hJ hx
   simp only[xA,bj,bi]
   refine zj (fun σ H''=>H''=H'/\σ=[some (.ref t),some (.ref pu)]) ?_ ?_
   ·rfl'
    exact⟨_,.inr (.inr (.inr ⟨_,_,rfl,rfl,hqu⟩)),true,T.tt,UA ⟨_,.inr ⟨_,hqu,rfl⟩,xj (fun h=>absurd rfl h) fun _=>⟨_,hqu,_,rfl,_,.inl (.bl _),true,T.bb,UA trivial⟩⟩⟩
   rintro σ G ⟨rfl,rfl⟩
   rfl'
   exact⟨_,hqu,_,rfl,Zt ⟨true,rfl,UA ⟨_,hqu,_,rfl,Zt ⟨true,rfl,UA rfl⟩⟩⟩⟩
  rintro σ H2 ⟨rfl,v1,rfl⟩
  rfl'
  exact q
def w4(K:oO):Sp:=fun vs H Q _=>∃(a t:Addr) (rs:List zr) (w w':List Nat) (s:Stp),vs=[.ref a,.str (tx w),.ref t]/\Is K H (.lst (rs.map dR)) (.ref a)/\jb rs/\w.length<=100000/\SqT K H t [.int s.1,.int s.2.1,.bl s.2.2]/\yo rs w s=some w'/\Q (.str (tx w')) H
theorem qD{a t:Addr}{rs:List zr}{w w':List Nat}{s:Stp}{H:Hp}{Q:VK}{E:XK}(h1:Is K H (.lst (rs.map dR)) (.ref a))(h2:jb rs)(h3:w.length<=100000)(h4:SqT K H t [.int s.1,.int s.2.1,.bl s.2.2])(h5:yo rs w s=some w')(q:Q (.str (tx w')) H):w4 K [.ref a,.str (tx w),.ref t] H Q E:=⟨a,t,rs,w,w',s,rfl,h1,h2,h3,h4,h5,q⟩
theorem lN:zq ["_law_pacts","_law_word_here","_law_step","_law_old","_law_new"] ["_law_pacts","_law_word_here","_law_step"] (zb jK):=⟨rfl,rfl,rfl,by decide +kernel,rfl,by decide +kernel,by decide +kernel⟩
theorem JE{f:Addr}{fd:FuncData}(B:Bt mg)(F:Fun K "_law_used" "_law_used" jK f fd) : FnOk P w K mg base CX0 1 f fd ["_law_pacts","_law_word_here","_law_step"] (w4 K):=by
 refine F.ok lN (fun vs H Q E h=>?_) (fun cdv A outer s H vs Q E hr h=>?_)
 ·obtain⟨a,t,rs,w,w',s,rfl,_⟩:=h
  rfl
 ·obtain⟨a,t,rs,w,w',s,rfl,hR,ok,hw,ht,ha,q⟩:=h
  refine⟨_,(zi (zt (i:=3) lN.nd rfl (Or.inl rfl) (zw ix_tup (zw ix_list (pv 0) (zw ix_tup (pv 2) zg (fun _ _=>rfl)) (fun _ _=>rfl)) zg (fun _ _=>rfl)))
   (zi (zt (i:=4) lN.nd rfl (Or.inl rfl) (zw ix_tup (zw ix_list (pv 0) (zw ix_tup (pv 2) zg (fun _ _=>rfl)) (fun _ _=>rfl)) zg (fun _ _=>rfl)))
   (zi (ya (yn (xz (zw ix_tup (pv 2) zg (fun _ _=>rfl)) (fun _=>rfl)))
    (zN (zt (i:=3) lN.nd rfl (Or.inl rfl) (zw ix_tup (zw ix_list (pv 0) (zw ix_tup (pv 2) zg (fun _ _=>rfl)) (fun _ _=>rfl)) zg (fun _ _=>rfl)))
    (zh (zt (i:=4) lN.nd rfl (Or.inl rfl) (zw ix_tup (zw ix_list (pv 0) (zw ix_tup (pv 2) zg (fun _ _=>rfl)) (fun _ _=>rfl)) zg (fun _ _=>rfl)))))
    zD)
   (zh (zx (zB op_add_str (zB op_add_str (yl uF (pv 1) xZ (yh (zw ix_tup (pv 2) zg (fun _ _=>rfl)))) (pv 4)) (yl uF (pv 1) (yh (zB op_add (zw ix_tup (pv 2) zg (fun _ _=>rfl)) (zp zX rfl B.len aB (za (pv 3) ze)))) xZ))))))),?_⟩
  have s16:=ym
  simp only[Is] at hR
  obtain⟨_,xs,e,hX,hI⟩:=hR
  cases e
  have hb:0<=s.1/\s.1<rs.length:=bw fun hb=>by rw[y8 hb] at ha;cases ha
  obtain⟨p,a1,_,hp⟩:=zaV hI hb.1 hb.2
  have gl:=Ys ok s.1.toNat
  rw[yG hb] at ha
  generalize rs.getD s.1.toNat ([],[])=r at *
  refine zj (fun σ H'=>H'=H/\σ=[some (.ref a),some (.str (tx w)),some (.ref t),some (.str (tx r.1)),none]) ?_ ?_
  ·rfl'
   exact⟨_,ht,_,rfl,_,_,rfl,hX,_,a1,_,rfl,_,hp,rfl⟩
  rintro σ H1 ⟨rfl,rfl⟩
  refine zj (fun σ H'=>H'=H1/\σ=[some (.ref a),some (.str (tx w)),some (.ref t),some (.str (tx r.1)),some (.str (tx r.2))]) ?_ ?_
  ·rfl'
   exact⟨_,ht,_,rfl,_,_,rfl,hX,_,a1,_,rfl,_,hp,rfl⟩
  rintro σ H2 ⟨rfl,rfl⟩
  refine zj (fun σ H'=>H'=H2/\σ=[some (.ref a),some (.str (tx w)),some (.ref t),some (.str (tx (sdl r s.2.2).1)),some (.str (tx (sdl r s.2.2).2))]) ?_ ?_
  ·rfl'
   refine⟨_,ht,_,rfl,_,rfl,xj (fun h=>⟨_,ht,_,rfl,_,_,rfl,hX,_,a1,_,rfl,_,hp,_,rfl,_,ht,_,rfl,_,_,rfl,hX,_,a1,_,rfl,_,hp,_,rfl,?_⟩) fun h=>?_⟩
   ·rw[h]
    exact⟨rfl,rfl⟩
   ·rw[Bool.not_eq_false] at h
    rw[h]
    exact⟨rfl,rfl⟩
  rintro σ H3 ⟨rfl,rfl⟩
  have hol:(sdl r s.2.2).1.length<=100:=by
   cases s.2.2
   ·exact gl.2
   ·exact gl.1
  have hnl:(sdl r s.2.2).2.length<=100:=by
   cases s.2.2
   ·exact gl.1
   ·exact gl.2
  generalize sdl r s.2.2=on at *
  have hst:zu w s.2.1 on.1=true:=bw fun hst=>by rw[if_neg hst] at ha;cases ha
  rw[if_pos hst] at ha
  obtain⟨_,_,h0,h1⟩:=xm hst
  have c1:=wQ w none (some s.2.1)
  have c2:=wQ w (some (s.2.1 + ↑on.1.length)) none
  rfl'
  refine⟨_,ht,_,rfl,_,rfl,by omega,by omega,_,ht,_,rfl,by omega,_,rfl,by omega,?_,?_⟩
  ·rw[am]
   omega
  ·rw[KM h0]
   cases ha
   exact q
theorem XY{w o:List Nat}{n:Nat}(h:(n:Int)+o.length<=w.length):zu w (n:Int) o=decide (cut w (some (n:Int)) (some ((n:Int)+(o.length:Int)))=o):=by
 unfold zu
 rw[kL _ (by omega) (by omega) (by omega)]
 have e:((n:Int)+(o.length:Int) - (n:Int)).toNat=o.length:=by omega
 rw[e]
 exact decide_eq_decide.mpr ⟨fun h=>h.2.2,fun h'=>⟨by omega,by omega,h'⟩⟩
theorem uV{H:Hp}{a p:Addr}{xs:List V}{ys zs:List V}(hp:H p=some (.lst ys))(h:SqT K H a xs):SqT K (upd H p (.lst zs)) a xs:=by
 rcases h with (h | ⟨o,h⟩) | h
 ·exact .inl (.inl (by rw[zo (fun e=>by rw[e,hp] at h;cases h)];exact h))
 ·exact .inl (.inr ⟨o,by rw[zo (fun e=>by rw[e,hp] at h;cases h)];exact h⟩)
 ·exact .inr h
def j6(K:oO):Sp:=fun vs H Q _=>∃(a:Addr) (rs:List zr) (w:List Nat) (m:Int),vs=[.ref a,.str (tx w),.int m]/\Is K H (.lst (rs.map dR)) (.ref a)/\jb rs/\w.length<=900/\∀(D:Addr) (H':Hp) (us:List Stp),H D=none->Same H H'->LsA K H' D (us.map dSt)->us.length<=100000->(∀ s ∈ us,Fit rs w m s)->Q (.ref D) H'
theorem UK{a:Addr}{rs:List zr}{w:List Nat}{m:Int}{H:Hp}{Q:VK}{E:XK}(h1:Is K H (.lst (rs.map dR)) (.ref a))(h2:jb rs)(h3:w.length<=900)(h:∀(D:Addr) (H':Hp) (us:List Stp),H D=none->Same H H'->LsA K H' D (us.map dSt)->us.length<=100000->(∀ s ∈ us,Fit rs w m s)->Q (.ref D) H'):j6 K [.ref a,.str (tx w),.int m] H Q E:=⟨a,rs,w,m,rfl,h1,h2,h3,h⟩
theorem gL:zq ["_law_pacts","_law_word_here","_law_most","_law_found","_law_number","_law_pact","_law_forth","_law_old","_law_place","_law_step"] ["_law_pacts","_law_word_here","_law_most"] (zb jF):=⟨rfl,rfl,rfl,by decide +kernel,rfl,by decide +kernel,by decide +kernel⟩
theorem J3{f:Addr}{fd:FuncData}(B:Bt mg)(F:Fun K "_law_uses" "_law_uses" jF f fd)(mm:Df P w K mg base CX0 1 "_law_used" ["_law_pacts","_law_word_here","_law_step"] [] (w4 K)):FnOk P w K mg base CX0 2 f fd ["_law_pacts","_law_word_here","_law_most"] (j6 K):=by
 refine F.ok gL (fun vs H Q E h=>?_) (fun cdv A outer s H vs Q E hr h=>?_)
 ·obtain⟨a,rs,w,m,rfl,_⟩:=h
  rfl
 ·obtain⟨a,rs,w,m,rfl,hR,ok,hw,q⟩:=h
  refine⟨_,(zi (zt (i:=3) gL.nd rfl (Or.inl rfl) (xR ze))
   (zi (yF PassesOwn.never rfl (w9 rfl B.enum (za (pv 0) ze)) (uC (n:=2) rfl (z8 (zC (i:=4) gL.nd rfl (Or.inl rfl)) (z8 (zC (i:=5) gL.nd rfl (Or.inl rfl)) wT)))
    (zh (yF PassesOwn.never rfl (zaB (z9 (za xM (za xM ze)))) (zC (i:=6) gL.nd rfl (Or.inl rfl))
     (zi (zt (i:=7) gL.nd rfl (Or.inl rfl) (zw ix_tup (pv 5) zg (fun _ _=>rfl)))
     (zi (ya (yn (xz (pv 6) (fun _=>rfl)))
      (zh (zt (i:=7) gL.nd rfl (Or.inl rfl) (zw ix_tup (pv 5) zg (fun _ _=>rfl))))
      zD)
     (zh (yF PassesOwn.never rfl (xO rfl B.range (za (zB yB (zB qv (zp zX rfl B.len aB (za (pv 1) ze)) (zp zX rfl B.len aB (za (pv 7) ze))) zg) ze)) (zC (i:=8) gL.nd rfl (Or.inl rfl))
      (zi (zt (i:=9) gL.nd rfl (Or.inl rfl) (z9 (za (pv 4) (za (pv 8) (za (pv 6) ze)))))
      (zh (ya (PW.pt (zaN (zI qT (yl jM (pv 1) (yh (pv 8)) (yh (zB yB (pv 8) (zp zX rfl B.len aB (za (pv 7) ze))))) (pv 7) (zK _)) (J6 (zI vF (zp zX rfl B.len aB (za (cl0 mm hr .nil rfl (za (pv 0) (za (pv 1) (za (pv 9) ze)))) ze)) (pv 2) (zK _)))))
       (zh (xJ (vR bc bB bC yW (pv 3) (za (pv 9) ze))))
       zD))))))))))
   (zh (zx (pv 3))))),?_⟩
  have s16:=ym
  have hR':=hR
  simp only[Is] at hR'
  obtain⟨_,xs,e,hX,hI⟩:=hR'
  cases e
  have hxl:=hI.len
  rw[ae] at hxl
  have okl:=ok.1
  refine zj (fun σ H'=>∃ D:Addr,H D=none/\Same H H'/\LsA K H' D []/\σ=[some (.ref a),some (.str (tx w)),some (.int m),some (.ref D),none,none,none,none,none,none]) ?_ ?_
  ·rfl'
   exact⟨by omega,fun D hD=>⟨D,hD,zd hD,LsA.nil,rfl⟩⟩
  rintro σ H1 ⟨D,hD,s1,hL1,rfl⟩
  refine zj (fun σ H'=>∃ us:List Stp,Same H H'/\LsA K H' D (us.map dSt)/\us.length<=100000/\(∀ s ∈ us,Fit rs w m s)/\∃ v4 v5 v6 v7 v8 v9,σ=[some (.ref a),some (.str (tx w)),some (.int m),some (.ref D),v4,v5,v6,v7,v8,v9]) ?_ ?_
  ·rfl'
   refine⟨⟨_,s1.seq hX⟩,ForEL.by (xs:=xs) (fun i σ H'=>∃ us:List Stp,Same H H'/\LsA K H' D (us.map dSt)/\us.length<=i * 2002/\(∀ s ∈ us,Fit rs w m s)/\∃ v4 v5 v6 v7 v8 v9,σ=[some (.ref a),some (.str (tx w)),some (.int m),some (.ref D),v4,v5,v6,v7,v8,v9]) ⟨[],s1,hL1,aJ _,fun s h=>(nomatch h),_,_,_,_,_,_,rfl⟩ ?_ ?_ ?_⟩
   ·rintro i σ H' _ ⟨us,hs,_⟩
    exact hs.seq hX
   ·rintro i x σ H' p hx ⟨us,hs,hL,hl,hf,v4,v5,v6,v7,v8,v9,rfl⟩ hp
    obtain⟨r,pr,hri,rfl,hqr⟩:=hI.getR hx
    have hi:=(List.getElem?_eq_some_iff.mp hri).1
    have b:=ok.2 r (af hri)
    have er:rs.getD i ([],[])=r:=by rw[ac,hri];rfl
    rfl'
    refine⟨_,SqT.of zf,rfl,_,_,rfl,_,_,rfl,rfl,?_⟩
    refine⟨by omega,fun p2 hp2=>?_⟩
    have hs3:Same H' (upd (upd H' p (.tup [.int (i:Nat),.ref pr])) p2 (.tup [.bl true,.bl false])):=(zd hp).trans (zd hp2)
    have hp3:(upd (upd H' p (.tup [.int (i:Nat),.ref pr])) p2 (.tup [.bl true,.bl false])) p2=some (.tup [.bl true,.bl false]):=zf
    generalize upd (upd H' p (.tup [.int (i:Nat),.ref pr])) p2 (.tup [.bl true,.bl false])=H3 at *
    have hD3:p2≠D:=fun e=>by
     obtain⟨ys,hY,_⟩:=hL.same hs3
     rw[e,hY] at hp3
     cases hp3
    refine⟨⟨_,SqT.of hp3⟩,ForT.by (xs:=[.bl true,.bl false]) (fun j σ H4=>H4 p2=some (.tup [.bl true,.bl false])/\Same H H4/\∃ us:List Stp,LsA K H4 D (us.map dSt)/\us.length<=i * 2002+j * 1001/\(∀ s ∈ us,Fit rs w m s)/\∃ v6 v7 v8 v9,σ=[some (.ref a),some (.str (tx w)),some (.int m),some (.ref D),some (.int (i:Nat)),some (.ref pr),v6,v7,v8,v9]) ⟨hp3,hs.trans hs3,us,hL.same hs3,by omega,hf,_,_,_,_,rfl⟩ (fun j σ H4 _ h=>SqT.of h.1) ?_ ?_⟩
    ·rintro j y σ H4 hy ⟨hp4,hs4,us,hL4,hl4,hf4,v6,v7,v8,v9,rfl⟩
     obtain⟨f,rfl⟩:∃ f:Bool,y=.bl f:=by
      match j,hy with
      | 0,hy=>exact⟨_,(Option.some.inj hy).symm⟩
      | 1,hy=>exact⟨_,(Option.some.inj hy).symm⟩
      | j+2,hy=>simp at hy
     rfl'
     refine zj (fun σ H'=>H'=H4/\σ=[some (.ref a),some (.str (tx w)),some (.int m),some (.ref D),some (.int (i:Nat)),some (.ref pr),some (.bl f),some (.str (tx r.1)),v8,v9]) ?_ ?_
     ·rfl'
      exact⟨_,zl hs4 hqr,rfl⟩
     rintro σ H5 ⟨rfl,rfl⟩
     refine zj (fun σ H'=>H'=H5/\σ=[some (.ref a),some (.str (tx w)),some (.int m),some (.ref D),some (.int (i:Nat)),some (.ref pr),some (.bl f),some (.str (tx (sdl r f).1)),v8,v9]) ?_ ?_
     ·rfl'
      refine xj (fun h=>⟨_,zl hs4 hqr,?_⟩) fun h=>?_
      ·rw[h]
       rfl
      ·rw[Bool.not_eq_false] at h
       rw[h]
       rfl
     rintro σ H6 ⟨rfl,rfl⟩
     have bo:(sdl r f).1.length<=100/\(sdl r f).2.length<=100:=by
      unfold sdl
      split
      ·exact b
      ·exact⟨b.2,b.1⟩
     have aft:∀ n:Nat,(n:Int)+(sdl r f).1.length<=w.length->cut w (some (n:Int)) (some ((n:Int)+((sdl r f).1.length:Int)))=(sdl r f).1->∃ w',yo rs w (((i:Nat):Int),((n:Nat):Int),f)=some w'/\w'.length<=1000:=fun n hn hc=>by
      have hst:zu w (n:Int) (sdl r f).1=true:=by
       rw[XY hn]
       exact decide_eq_true hc
      refine⟨yS w (n:Int) (sdl r f).1 (sdl r f).2,?_,?_⟩
      ·rw[yG (by show (0:Int)<=(i:Int)/\(i:Int)<rs.length;omega)]
       simp only
       rw[show ((i:Nat):Int).toNat=i from rfl,er,if_pos hst]
      ·have:=Xk (n:=(sdl r f).2) hst
       omega
     generalize sdl r f=o at *
     rfl'
     refine⟨by omega,by omega,by omega,by omega,ForR.by (fun n σ H4=>H4 p2=some (.tup [.bl true,.bl false])/\Same H H4/\∃ us:List Stp,LsA K H4 D (us.map dSt)/\us.length<=i * 2002+j * 1001+n/\(∀ s ∈ us,Fit rs w m s)/\∃ v8 v9,σ=[some (.ref a),some (.str (tx w)),some (.int m),some (.ref D),some (.int (i:Nat)),some (.ref pr),some (.bl f),some (.str (tx o.1)),v8,v9]) ⟨hp4,hs4,us,hL4,hl4,hf4,_,_,rfl⟩ ?_ ?_⟩
     ·rintro n σ H7 hn ⟨hp7,hs7,us,hL7,hl7,hf7,v8,v9,rfl⟩
      rw[show (0:Int)+(n:Int)=(n:Int) by omega]
      obtain⟨ys,hY,hJ⟩:=hL7
      have hyl:=hJ.len
      rw[ae] at hyl
      have hj2:j<2:=(List.getElem?_eq_some_iff.mp hy).1
      simp only[xA,bj,bi]
      refine zj (fun σ H''=>∃ t:Addr,Same H7 H''/\H'' t=some (.tup [.int (i:Nat),.int (n:Nat),.bl f])/\σ=[some (.ref a),some (.str (tx w)),some (.int m),some (.ref D),some (.int (i:Nat)),some (.ref pr),some (.bl f),some (.str (tx o.1)),some (.int (n:Nat)),some (.ref t)]) ?_ ?_
      ·rfl'
       exact⟨by omega,fun t ht=>⟨zd ht,zf⟩⟩
      rintro σ H8 ⟨t,s8,ht8,rfl⟩
      have hY8:=s8 _ _ hY
      have hJ8:=Iss.same s8 _ _ hJ
      rfl'
      refine⟨by omega,by omega,xj (fun hc=>?_) fun _=>⟨s8 _ _ hp7,hs7.trans s8,us,⟨ys,hY8,hJ8⟩,by omega,hf7⟩⟩
      obtain⟨w',ha,hwl⟩:=aft n (by omega) hc
      refine qD (s:=(((i:Nat):Int),((n:Nat):Int),f)) (Is.same (hs7.trans s8) _ _ hR) ok (by omega) (SqT.of ht8) ha ?_
      rfl'
      refine⟨by omega,xj (fun hm=>⟨.inl ⟨_,SqL.of hY8⟩,ys,hY8,by omega,?_,zG (hs7.trans s8) hD,us ++ [(((i:Nat):Int),((n:Nat):Int),f)],?_,by rw[am];simp only[aM,cw];omega,fun s hs'=>?_⟩) fun _=>⟨s8 _ _ hp7,hs7.trans s8,us,⟨ys,hY8,hJ8⟩,by omega,hf7⟩⟩
      ·rw[zo hD3]
       exact s8 _ _ hp7
      ·rw[aH]
       exact LsA.snoc hY8 hJ8 (wg _) (by simp only[dSt,xt,zR,and_self]) (jL (SqT.of ht8))
      ·rcases List.mem_append.mp hs' with h | h
       ·exact hf7 s h
       ·rw[List.mem_singleton.mp h]
        exact⟨w',ha,hm⟩
     ·rintro σ H7 ⟨hp7,hs7,us,hL7,hl7,hf7,v8,v9,rfl⟩
      exact⟨hp7,hs7,us,hL7,by omega,hf7,_,_,_,_,rfl⟩
    ·rintro σ H4 ⟨_,hs4,us,hL4,hl4,hf4,v6,v7,v8,v9,rfl⟩
     exact⟨hs4,us,hL4,by simp only[aM,cw] at hl4;omega,hf4,_,_,_,_,_,_,rfl⟩
   ·rintro σ H' ⟨us,hs,hL,hl,hf,v4,v5,v6,v7,v8,v9,rfl⟩
    exact⟨hs,us,hL,by omega,hf,_,_,_,_,_,_,rfl⟩
  rintro σ H2 ⟨us,s2,hL,hl,hf,v4,v5,v6,v7,v8,v9,rfl⟩
  rfl'
  exact q D H2 us hD s2 hL hl hf
def uX(K:oO):Sp:=fun vs H Q _=>∃(a c:Addr) (rs:List zr) (w:List Nat) (ns:List Int) (m:Int),vs=[.ref a,.str (tx w),.ref c,.int m]/\Is K H (.lst (rs.map dR)) (.ref a)/\jb rs/\w.length<=60/\m<=60/\SqL K H c (ns.map V.int)/\(∀ z ∈ ns,uq z)/\ns.length<=63 /\
 ∀(D:Addr) (H':Hp) (ss:List Stp) (w':List Nat),H D=none->Same H H'->LsA K H' D (ss.map dSt)->yd rs w ss=some w'->w'.length<=60->ss.length<=ns.length->(∀ s ∈ ss,0<=s.1/\s.1<rs.length)->Q (.ref D) H'
theorem Uf{a c:Addr}{rs:List zr}{w:List Nat}{ns:List Int}{m:Int}{H:Hp}{Q:VK}{E:XK}(h1:Is K H (.lst (rs.map dR)) (.ref a))(h2:jb rs)(h3:w.length<=60)(h4:m<=60)(h5:SqL K H c (ns.map V.int))(h5':∀ z ∈ ns,uq z)(h6:ns.length<=63)
 (h:∀(D:Addr) (H':Hp) (ss:List Stp) (w':List Nat),H D=none->Same H H'->LsA K H' D (ss.map dSt)->yd rs w ss=some w'->w'.length<=60->ss.length<=ns.length->(∀ s ∈ ss,0<=s.1/\s.1<rs.length)->Q (.ref D) H'):uX K [.ref a,.str (tx w),.ref c,.int m] H Q E:=⟨a,c,rs,w,ns,m,rfl,h1,h2,h3,h4,h5,h5',h6,h⟩
theorem Zw{rs:List zr}{w w':List Nat}{s:Stp}(h:yo rs w s=some w'):0<=s.1/\s.1<rs.length:=bw fun hb=>by rw[y8 hb] at h;cases h
theorem iF:zq ["_law_pacts","_law_word_here","_law_cells","_law_most","_law_steps_here","_law_cell_here","_law_some","_law_step"] ["_law_pacts","_law_word_here","_law_cells","_law_most"] (zb uj):=⟨rfl,rfl,rfl,by decide +kernel,rfl,by decide +kernel,by decide +kernel⟩
theorem U9{f:Addr}{fd:FuncData}(B:Bt mg)(F:Fun K "_law_chain" "_law_chain" uj f fd)(oB:Df P w K mg base CX0 2 "_law_uses" ["_law_pacts","_law_word_here","_law_most"] [] (j6 K))(mm:Df P w K mg base CX0 1 "_law_used" ["_law_pacts","_law_word_here","_law_step"] [] (w4 K))(fY:Df P w K mg base CX0 1 "_law_mixed" ["_law_cell_here","_law_turn"] [] xy):FnOk P w K mg base CX0 3 f fd ["_law_pacts","_law_word_here","_law_cells","_law_most"] (uX K):=by
 refine F.ok iF (fun vs H Q E h=>?_) (fun cdv A outer s H vs Q E hr h=>?_)
 ·obtain⟨a,c,rs,w,ns,m,rfl,_⟩:=h
  rfl
 ·obtain⟨a,c,rs,w,ns,m,rfl,hR,ok,hw,hm,hS,hB,hn,q⟩:=h
  refine⟨_,(zi (zt (i:=4) iF.nd rfl (Or.inl rfl) (xR ze))
   (zi (yF PassesOwn.never rfl (yC (pv 2)) (zC (i:=5) iF.nd rfl (Or.inl rfl))
    (zi (zt (i:=6) iF.nd rfl (Or.inl rfl) (cl0 oB hr .nil rfl (za (pv 0) (za (pv 1) (za (pv 3) ze)))))
    (zh (ya (zI qx (zp zX rfl B.len aB (za (pv 6) ze)) zg (zK _))
     (zi (zt (i:=7) iF.nd rfl (Or.inl rfl) (zw ix_list (pv 6) (zB yQ (cl0 fY hr .nil rfl (za (pv 5) (za zg ze))) (zp zX rfl B.len aB (za (pv 6) ze))) (fun _ _=>rfl)))
     (zi (xJ (vR bc bB bC yW (pv 4) (za (pv 7) ze)))
     (zh (zt (i:=1) iF.nd rfl (Or.inl rfl) (cl0 mm hr .nil rfl (za (pv 0) (za (pv 1) (za (pv 7) ze))))))))
     zD))))
   (zh (zx (pv 4))))),?_⟩
  have s16:=ym
  refine zj (fun σ H'=>∃ D:Addr,H D=none/\Same H H'/\LsA K H' D []/\σ=[some (.ref a),some (.str (tx w)),some (.ref c),some (.int m),some (.ref D),none,none,none]) ?_ ?_
  ·rfl'
   exact⟨by omega,fun D hD=>⟨D,hD,zd hD,LsA.nil,rfl⟩⟩
  rintro σ H1 ⟨D,hD,s1,hL1,rfl⟩
  refine zj (fun σ H'=>∃(ss:List Stp) (w2:List Nat),Same H H'/\LsA K H' D (ss.map dSt)/\yd rs w ss=some w2/\w2.length<=60/\ss.length<=ns.length/\(∀ s ∈ ss,0<=s.1/\s.1<rs.length)/\∃ v5 v6 v7,σ=[some (.ref a),some (.str (tx w2)),some (.ref c),some (.int m),some (.ref D),v5,v6,v7]) ?_ ?_
  ·rfl'
   refine⟨⟨_,s1.seq hS⟩,ForL.by (xs:=ns.map V.int) (fun i σ H'=>∃(ss:List Stp) (w2:List Nat),Same H H'/\LsA K H' D (ss.map dSt)/\yd rs w ss=some w2/\w2.length<=60/\ss.length<=i/\(∀ s ∈ ss,0<=s.1/\s.1<rs.length)/\∃ v5 v6 v7,σ=[some (.ref a),some (.str (tx w2)),some (.ref c),some (.int m),some (.ref D),v5,v6,v7]) ⟨[],w,s1,hL1,rfl,hw,au _,fun s h=>(nomatch h),_,_,_,rfl⟩ (fun i σ H' _ h=>by obtain⟨ss,w2,hs,_⟩:=h;exact hs.seq hS) ?_ ?_⟩
   ·rintro i x σ H3 hx ⟨ss,w2,s3,hL3,hwk,hw2,hsl,hnum,v5,v6,v7,rfl⟩
    have hi:=(List.getElem?_eq_some_iff.mp hx).1
    rw[ae] at hi
    rw[aG] at hx
    obtain⟨z,hz,rfl⟩:=Option.map_eq_some_iff.mp hx
    have hzB:=hB z (af hz)
    simp only[xA,bj,bi]
    refine zj (fun σ H'=>∃(U:Addr) (us:List Stp),Same H3 H'/\LsA K H' U (us.map dSt)/\us.length<=100000/\(∀ s ∈ us,Fit rs w2 m s)/\σ=[some (.ref a),some (.str (tx w2)),some (.ref c),some (.int m),some (.ref D),some (.int z),some (.ref U),v7]) ?_ ?_
    ·rfl'
     exact UK (Is.same s3 _ _ hR) ok (by omega) fun U H' us _ s' hU hul hf=>⟨s',U,us,hU,hul,hf,rfl⟩
    rintro σ H4 ⟨U,us,s4,hU,hul,hf,rfl⟩
    obtain⟨ys,hY,hJ⟩:=hU
    rfl'
    refine⟨_,.inl ⟨_,SqL.of hY,rfl⟩,xj (fun hpos=>?_) fun _=>?_⟩
    ·refine zj (fun σ H'=>∃(st:Stp) (pst:Addr) (w3:List Nat),H'=H4/\SqT K H4 pst [.int st.1,.int st.2.1,.bl st.2.2]/\yo rs w2 st=some w3/\w3.length<=60/\σ=[some (.ref a),some (.str (tx w2)),some (.ref c),some (.int m),some (.ref D),some (.int z),some (.ref U),some (.ref pst)]) ?_ ?_
     ·rfl'
      refine xq hzB (by decide) (by decide) fun y hy=>⟨_,.inl ⟨_,SqL.of hY,rfl⟩,?_⟩
      have m0:=be y (b:=(ys.length:Int)) (by omega)
      have m1:=ba y (b:=(ys.length:Int)) (by omega)
      obtain⟨v,a1,b1⟩:=vQ (xs:=ys) m0 m1
      obtain⟨st,pst,hst,rfl,hqs⟩:=vd hJ b1
      obtain⟨w3,haf,hw3⟩:=hf st (af hst)
      exact⟨_,rfl,by omega,_,SqL.of hY,_,a1,rfl,st,pst,hqs,w3,haf,by omega,rfl⟩
     rintro σ H5 ⟨st,pst,w3,rfl,hqs,haf,hw3,rfl⟩
     obtain⟨xs3,hX3,hI3⟩:=hL3.same s4
     have hil:=hI3.len
     rw[ae] at hil
     refine zj (fun σ H'=>Same H H'/\LsA K H' D ((ss ++ [st]).map dSt)/\SqT K H' pst [.int st.1,.int st.2.1,.bl st.2.2]/\σ=[some (.ref a),some (.str (tx w2)),some (.ref c),some (.int m),some (.ref D),some (.int z),some (.ref U),some (.ref pst)]) ?_ ?_
     ·rfl'
      refine⟨.inl ⟨_,SqL.of hX3⟩,xs3,hX3,by omega,zG (s3.trans s4) hD,?_,uV hX3 hqs⟩
      rw[aH]
      exact LsA.snoc hX3 hI3 (wg _) (by simp only[dSt,xt,zR,and_self]) (jL hqs)
     rintro σ H6 ⟨s6,hL6,hq6,rfl⟩
     rfl'
     refine qD (Is.same s6 _ _ hR) ok (by omega) hq6 haf ?_
     refine⟨s6,ss ++ [st],hL6,w3,qL hwk haf,hw3,by rw[am];exact Nat.succ_le_succ hsl,fun s hs=>?_,rfl⟩
     rcases List.mem_append.mp hs with h | h
     ·exact hnum s h
     ·rw[List.mem_singleton.mp h]
      exact Zw haf
    ·exact⟨s3.trans s4,ss,hL3.same s4,w2,hwk,hw2,by omega,hnum,rfl⟩
   ·rintro σ H' ⟨ss,w2,hs,hL,hwk,hw2,hsl,hnum,v5,v6,v7,rfl⟩
    rw[ae] at hsl
    exact⟨hs,ss,hL,w2,hwk,hw2,hsl,hnum,_,_,_,rfl⟩
  rintro σ H2 ⟨ss,w2,hs,hL,hwk,hw2,hsl,hnum,v5,v6,v7,rfl⟩
  rfl'
  exact q D H2 ss w2 hD hs hL hwk hw2 hsl hnum
def XH(K:oO):Sp:=fun vs H Q _=>∃(a t:Addr) (rs:List zr) (w w':List Nat) (ss:List Stp),vs=[.ref a,.str (tx w),.ref t]/\Is K H (.lst (rs.map dR)) (.ref a)/\jb rs/\w.length<=60/\Is K H (.lst (ss.map dSt)) (.ref t)/\ss.length<=600/\yd rs w ss=some w'/\Q (.str (tx w')) H
theorem Ku{a t:Addr}{rs:List zr}{w w':List Nat}{ss:List Stp}{H:Hp}{Q:VK}{E:XK}(h1:Is K H (.lst (rs.map dR)) (.ref a))(h2:jb rs)(h3:w.length<=60)(h4:Is K H (.lst (ss.map dSt)) (.ref t))(h5:ss.length<=600)(h6:yd rs w ss=some w')(q:Q (.str (tx w')) H):XH K [.ref a,.str (tx w),.ref t] H Q E:=⟨a,t,rs,w,w',ss,rfl,h1,h2,h3,h4,h5,h6,q⟩
theorem Vp{rs:List zr}{w w':List Nat}{ss:List Stp}(h:yd rs w ss=some w'){i:Nat}{s:Stp}(hs:ss[i]? = some s){w1:List Nat}(h1:yd rs w (ss.take i)=some w1):∃ w2,yo rs w1 s=some w2/\yd rs w (ss.take (i+1))=some w2:=by
 have e:ss=ss.take (i+1) ++ ss.drop (i+1):=(bK _ _).symm
 rw[e,wC] at h
 obtain⟨w2,h2,_⟩:=Option.bind_eq_some_iff.mp h
 refine⟨w2,?_,h2⟩
 rw[zW hs,wC,h1] at h2
 simp only[yd,bU] at h2
 obtain⟨w3,h3,h4⟩:=Option.bind_eq_some_iff.mp h2
 cases h4
 exact h3
theorem nj:zq ["_law_pacts","_law_word_here","_law_steps_here","_law_step","_law_old"] ["_law_pacts","_law_word_here","_law_steps_here"] (zb Wg):=⟨rfl,rfl,rfl,by decide +kernel,rfl,by decide +kernel,by decide +kernel⟩
theorem zbs{f:Addr}{fd:FuncData}(B:Bt mg)(F:Fun K "_law_end" "_law_end" Wg f fd)(mm:Df P w K mg base CX0 1 "_law_used" ["_law_pacts","_law_word_here","_law_step"] [] (w4 K)):FnOk P w K mg base CX0 2 f fd ["_law_pacts","_law_word_here","_law_steps_here"] (XH K):=by
 refine F.ok nj (fun vs H Q E h=>?_) (fun cdv A outer s H vs Q E hr h=>?_)
 ·obtain⟨a,t,rs,w,w',ss,rfl,_⟩:=h
  rfl
 ·obtain⟨a,t,rs,w,w',ss,rfl,hR,ok,hw,hT,hsl,hwk,q⟩:=h
  refine⟨_,(zi (yF PassesOwn.never rfl (yC (pv 2)) (zC (i:=3) nj.nd rfl (Or.inl rfl))
    (zi (ya (PW.pt (uu (zI Xb (zw ix_tup (pv 3) zg (fun _ _=>rfl)) zg (zK _)) (uu (zI op_ge' (zw ix_tup (pv 3) zg (fun _ _=>rfl)) (zp zX rfl B.len aB (za (pv 0) ze)) (zK _)) (vB (zI Xb (zw ix_tup (pv 3) zg (fun _ _=>rfl)) zg (zK _))))))
     (zh (zx wl))
     zD)
    (zi (zt (i:=4) nj.nd rfl (Or.inl rfl) (zw ix_tup (zw ix_list (pv 0) (zw ix_tup (pv 3) zg (fun _ _=>rfl)) (fun _ _=>rfl)) (zB qv zg (xL Ui rfl B.int PySem.Pv.boot_int (za (zw ix_tup (pv 3) zg (fun _ _=>rfl)) ze))) (fun _ _=>rfl)))
    (zi (ya (PW.pt (uu (zI qx (zB yB (zw ix_tup (pv 3) zg (fun _ _=>rfl)) (zp zX rfl B.len aB (za (pv 4) ze))) (zp zX rfl B.len aB (za (pv 1) ze)) (zK _)) (vB (zI X7 (yl jM (pv 1) (yh (zw ix_tup (pv 3) zg (fun _ _=>rfl))) (yh (zB yB (zw ix_tup (pv 3) zg (fun _ _=>rfl)) (zp zX rfl B.len aB (za (pv 4) ze))))) (pv 4) (zK _)))))
     (zh (zx wl))
     zD)
    (zh (zt (i:=1) nj.nd rfl (Or.inl rfl) (cl0 mm hr .nil rfl (za (pv 0) (za (pv 1) (za (pv 3) ze))))))))))
   (zh (zx (pv 1)))),?_⟩
  have s16:=ym
  have hR':=hR
  have hT':=hT
  simp only[Is] at hR' hT'
  obtain⟨_,xs,e,hX,hI⟩:=hR'
  cases e
  obtain⟨_,ts,e,hTs,hJ⟩:=hT'
  cases e
  have htl:=hJ.len
  rw[ae] at htl
  refine zj (fun σ H'=>H'=H/\∃ v3 v4,σ=[some (.ref a),some (.str (tx w')),some (.ref t),v3,v4]) ?_ ?_
  ·rfl'
   refine⟨⟨_,hTs⟩,ForL.by (xs:=ts) (fun i σ H'=>H'=H/\∃ w1 v3 v4,yd rs w (ss.take i)=some w1/\w1.length<=60+i * 100/\σ=[some (.ref a),some (.str (tx w1)),some (.ref t),v3,v4]) ⟨rfl,w,_,_,rfl,by omega,rfl⟩ (fun i σ H' _ h=>by rw[h.1];exact hTs) ?_ ?_⟩
   ·rintro i x σ H' hx ⟨rfl,w1,v3,v4,hw1,hl1,rfl⟩
    obtain⟨s,ps,hsi,rfl,hqs⟩:=vd hJ hx
    have hil:=(List.getElem?_eq_some_iff.mp hsi).1
    obtain⟨w2,haf,hw2⟩:=Vp hwk hsi hw1
    have hl2:=WU ok haf
    have hb:=Zw haf
    obtain⟨p,a1,_,hp⟩:=zaV hI hb.1 hb.2
    have gl:=Ys ok s.1.toNat
    have ha:=haf
    rw[yG hb] at ha
    generalize rs.getD s.1.toNat ([],[])=r at *
    have hst:zu w1 s.2.1 (sdl r s.2.2).1=true:=bw fun hst=>by rw[if_neg hst] at ha;cases ha
    obtain⟨_,_,h0,h1⟩:=xm hst
    simp only[xA,bj,bi]
    refine zj (fun σ H''=>H''=H'/\σ=[some (.ref a),some (.str (tx w1)),some (.ref t),some (.ref ps),v4]) ?_ ?_
    ·rfl'
     exact⟨_,hqs,_,rfl,_,rfl,xj (fun h=>absurd hb.1 (by omega)) fun _=>⟨_,hqs,_,rfl,_,.inl ⟨_,hX,rfl⟩,_,rfl,xj (fun h=>absurd hb.2 (by have:=hI.len;rw[ae] at this;omega)) fun _=>⟨_,hqs,_,rfl,_,rfl,xj (fun h=>absurd h0 (by omega)) fun _=>trivial⟩⟩⟩
    rintro σ G ⟨rfl,rfl⟩
    refine zj (fun σ H''=>H''=G/\σ=[some (.ref a),some (.str (tx w1)),some (.ref t),some (.ref ps),some (.str (tx (sdl r s.2.2).1))]) ?_ ?_
    ·rfl'
     refine⟨_,hqs,_,rfl,_,_,rfl,hX,_,a1,_,hqs,_,rfl,.inr ⟨_,rfl,_,rfl,_,hp,?_⟩⟩
     cases s.2.2 <;> rfl
    rintro σ G1 ⟨rfl,rfl⟩
    refine zj (fun σ H''=>H''=G1/\σ=[some (.ref a),some (.str (tx w1)),some (.ref t),some (.ref ps),some (.str (tx (sdl r s.2.2).1))]) ?_ ?_
    ·rfl'
     have hol:(sdl r s.2.2).1.length<=100:=by
      cases s.2.2
      ·exact gl.2
      ·exact gl.1
     refine⟨_,hqs,_,rfl,by omega,_,rfl,by omega,xj (fun h=>absurd h1 (by omega)) fun _=>⟨_,hqs,_,rfl,_,rfl,_,hqs,_,rfl,by omega,_,rfl,by omega,xj (fun h=>absurd ?_ h) fun _=>trivial⟩⟩
     have hst':=hst
     unfold zu at hst'
     rw[decide_eq_true_eq] at hst'
     rw[kL _ h0 (by omega) (by omega)]
     have e:(s.2.1+((sdl r s.2.2).1.length:Int) - s.2.1).toNat=(sdl r s.2.2).1.length:=by omega
     rw[e]
     exact hst'.2.2
    rintro σ G2 ⟨rfl,rfl⟩
    rfl'
    refine qD hR ok (by omega) hqs haf ⟨rfl,w2,hw2,by omega,rfl⟩
   ·rintro σ H' ⟨rfl,w1,v3,v4,hw1,hl1,rfl⟩
    rw[htl,aQ,hwk] at hw1
    cases hw1
    exact⟨rfl,_,_,rfl⟩
  rintro σ H2 ⟨rfl,v3,v4,rfl⟩
  rfl'
  exact q
theorem zcI{X:Cx}{E:XK}{k j:Nat}{C:Addr}{ps:List Str}{sp:Sp}{e:Expr}{es:List Expr}{t:TA}{pos p:Pos}{x:Str}(hx:XE X E)(D:DMk X.prog X.w X.K X.mg X.base (CXx X.prog X.w) k C ps sp)(hr:Room j X.A)(hg:Gl X x)(hm:X.mg x=some (.ref C))(ha:PA X (e::es) t)(hdb:(x == ("__debug__" : Str))=false:=by decide)(he:oM (e::es) X.env=(false,eval e X.env)::oM es X.env:=by rfl)
  (hpl:(backTo pos (oM es X.env)).any (·.1)=false:=by rfl) (hj:k+1<=j:=by decide):PE X (.Call (.Name x p) (e::es) [] pos) (Qx C sp [] E t):=by
 obtain⟨f,fd,M,F,hb⟩:=D.ex
 exact VA M F (hr.mono hj) hg hm hb .nil (YO hx) ha hdb he hpl
def kR(K:oO)(CO CR CW:Addr):Sp:=fun vs H Q _=>∃(z:Int) (l:List Nat) (D:Addr) (ws:List Int),vs=[.int z,.str (tx l),.ref D]/\0<=z/\z<3/\j4 l=true/\H D=some (.lst (ws.map V.int))/\ws.length=l.length/\(∀ n ∈ ws,1<=n/\n<=1000000)/\∀(o:Addr) (H':Hp),Same H H'->OrdAt CO CR CW H' o z.toNat l ws->Q (.ref o) H'
theorem U2:zq ["_law_kind","_law_letters_here","_law_weights"] ["_law_kind","_law_letters_here","_law_weights"] (zb ux):=⟨rfl,rfl,rfl,by decide +kernel,rfl,by decide +kernel,by decide +kernel⟩
theorem UZ{f CO CR CW:Addr}{fd:FuncData}(B:Bt mg)(T:TWS P w K mg base CO CR CW)(F:Fun K "_law_order" "_law_order" ux f fd) : FnOk P w K mg base CX0 6 f fd ["_law_kind","_law_letters_here","_law_weights"] (kR K CO CR CW):=by
 refine F.ok U2 (fun vs H Q E h=>?_) (fun cdv A outer s H vs Q E hr h=>?_)
 ·obtain⟨z,l,D,ws,rfl,_⟩:=h
  rfl
 ·obtain⟨z,l,D,ws,rfl,z0,z3,hg,hD,hwl,hwb,q⟩:=h
  refine⟨_,(zN (ya (zI qT (pv 0) zg (zK _))
    (zh (zx (mkC T.mR hr rfl T.gR (za (pv 1) ze))))
    zD)
   (zN (ya (zI qT (pv 0) zg (zK _))
    (zh (zx (zcI xe0 T.mW hr rfl T.gW (za (pv 1) (za (xL xo rfl B.list PySem.Pv.boot_list (za (pv 2) ze)) ze)))))
    zD)
   (zh (zx (mkC T.mO hr rfl T.gO (za (pv 1) ze)))))),?_⟩
  have s16:=ym
  repeat (first | rfl' | simp only[yx,zA,zJ,yz,yA,zy])
  refine xj (fun h1=>?_) fun h1=>xj (fun h2=>?_) fun h2=>?_
  ·intro x dx hx hdx hne
   have sd:=zd (o:=.own x) hdx
   refine⟨x,CR,dx,l,rfl,hg,T.cR,T.lR,zf,rfl,q x _ (fun b o' e=>?_) ⟨dx,.inr (.inl ⟨by rw[h1];rfl,zf⟩)⟩⟩
   rw[zo (zH e hx),zo (zH e hx)]
   exact sd _ _ e
  ·refine⟨_,.inl (SqL.of hD),fun E1 hE=>?_⟩
   have se:=zd (o:=.lst (ws.map V.int)) hE
   intro x dx hx hdx hne
   have sd:=zd (o:=.own x) hdx
   have k1:∀ b o',(upd H E1 (.lst (ws.map V.int))) b=some o'->(upd (upd (upd H E1 (.lst (ws.map V.int))) dx (.own x)) x (.ins CW dx [])) b=some o':=fun b o' e=>by
    rw[zo (zH e hx)]
    exact sd _ _ e
   exact⟨x,dx,E1,l,ws,rfl,hg,SqL.of (k1 _ _ zf),hwl,hwb,zf,fun w H' hw hwx kp ht hx'=>⟨rfl,q x _ (fun b o' e=>kp b o' (zH (se _ _ e) hx) (k1 b o' (se _ _ e))) ⟨dx,.inr (.inr ⟨by omega,hwl,w,hx',ht⟩)⟩⟩⟩
  ·intro x dx hx hdx hne
   have sd:=zd (o:=.own x) hdx
   refine⟨x,CO,dx,l,rfl,hg,T.cO,T.lO,zf,rfl,q x _ (fun b o' e=>?_) ⟨dx,.inl ⟨by omega,zf⟩⟩⟩
   rw[zo (zH e hx),zo (zH e hx)]
   exact sd _ _ e
def Z9:Sp:=fun vs H Q _=>∃(c:Int),vs=[.int c]/\uq c/\∀(k:Int) (l:List Nat) (ws:List Int) (p W:Addr) (H':Hp),0<=k->k<3->j4 l=true->ws.length=l.length->(∀ n ∈ ws,1<=n/\n<=1000000)->Same H H'->H' p=some (.tup [.int k,.str (tx l),.ref W])->H' W=some (.lst (ws.map V.int))->Q (.ref p) H'
theorem nz:zq ["_law_cell_here","_law_letters_here","_law_number"] ["_law_cell_here"] (zb jJ):=⟨rfl,rfl,rfl,by decide +kernel,rfl,by decide +kernel,by decide +kernel⟩
theorem K1{f:Addr}{fd:FuncData}(B:Bt mg)(F:Fun K "_law_draw" "_law_draw" jJ f fd)(oa:Df P w K mg base CX0 2 "_law_letters" ["_law_cell_here","_law_many"] [] vc)(fY:Df P w K mg base CX0 1 "_law_mixed" ["_law_cell_here","_law_turn"] [] xy):FnOk P w K mg base CX0 3 f fd ["_law_cell_here"] Z9:=by
 refine F.ok nz (fun vs H Q E h=>?_) (fun cdv A outer s H vs Q E hr h=>?_)
 ·obtain⟨c,rfl,_⟩:=h
  rfl
 ·obtain⟨c,rfl,hc,q⟩:=h
  refine⟨_,(zi (zt (i:=1) nz.nd rfl (Or.inl rfl) (cl0 oa hr .nil rfl (za (pv 0) (za (zB op_add zg (zB yQ (zB yV (pv 0) zg) zg)) ze))))
   (zi (zt (i:=2) nz.nd rfl (Or.inl rfl) (cl0 fY hr .nil rfl (za (pv 0) (za zg ze))))
   (zh (zx (z9 (za (zB yQ (pv 0) zg) (za (pv 1) (za (yl sl_list (xR (za (zB op_add zg (zB yQ (pv 2) zg)) (za (zB op_add zg (zB yQ (zB yV (pv 2) zg) zg)) (za (zB op_add zg (zB yQ (zB yV (pv 2) zg) zg)) ze)))) xZ (yh (zp zX rfl B.len aB (za (pv 1) ze)))) ze)))))))),?_⟩
  have s16:=ym
  have s16:=ym
  refine zj (fun σ H'=>H'=H/\∃ l:List Nat,l.length<=3/\j4 l=true/\σ=[some (.int c),some (.str (tx l)),none]) ?_ ?_
  ·rfl'
   have e0:=be (c / 3) (b:=2) (by decide)
   have e1:=ba (c / 3) (b:=2) (by decide)
   exact⟨⟨by decide,by decide⟩,by decide,Yo hc (by omega) (by omega) fun l h1 h2 h3=>⟨rfl,l,by omega,decide_eq_true ⟨by omega,by omega,h3,h2⟩,rfl⟩⟩
  rintro σ H1 ⟨rfl,l,l3,hg,rfl⟩
  refine zj (fun σ H'=>H'=H1/\∃ z:Int,σ=[some (.int c),some (.str (tx l)),some (.int z)]) ?_ ?_
  ·rfl'
   exact xq hc (by decide) (by decide) fun z _=>⟨rfl,z,rfl⟩
  rintro σ H2 ⟨rfl,z,rfl⟩
  rfl'
  refine⟨by decide,by decide,⟨by decide,by decide⟩,by decide,⟨by decide,by decide⟩,by decide,by omega,fun p hp=>⟨by omega,_,SqL.of zf,fun p1 hp1=>⟨by omega,fun p2 hp2=>?_⟩⟩⟩
  have l1:=(of_decide_eq_true hg).1
  have e:Jz [V.int (1+z % 3),V.int (1+z / 3 % 3),V.int (1+z / 9 % 3)] none (some (l.length:Int))=([1+z % 3,1+z / 3 % 3,1+z / 9 % 3].take l.length).map V.int:=by
   rcases (show l.length=1\/l.length=2\/l.length=3 by omega) with h | h | h <;> rw[h] <;> rfl
  refine q (c % 3) l ([1+z % 3,1+z / 3 % 3,1+z / 9 % 3].take l.length) p2 p1 _ (be _ (by decide)) (ba _ (by decide)) hg ?_ (fun n hn=>?_) ((zd hp).trans ((zd hp1).trans (zd hp2))) zf ?_
  ·rw[aK]
   show min l.length 3=l.length
   omega
  ·have hn':=bu hn
   have m:∀ y:Int,0<=y % 3/\y % 3<3:=fun y=>⟨be _ (by decide),ba _ (by decide)⟩
   have m0:=m z
   have m1:=m (z / 3)
   have m2:=m (z / 9)
   simp only[dm,List.not_mem_nil,or_false] at hn'
   rcases hn' with rfl | rfl | rfl <;> omega
  ·rw[zd hp2 _ _ zf,e]
structure KXs(K:oO):Prop where
 ss:aT K (.type "str") (.type "str")=some true
def Yy(K:oO):Sp:=fun vs H Q _=>∃(a:Addr) (es:List Ent),vs=[.ref a]/\Is K H (.lst (es.map dE)) (.ref a)/\Q (.bl true) H
theorem nk:zq ["_law_found","_law_entry"] ["_law_found"] (zb wj):=⟨rfl,rfl,rfl,by decide +kernel,rfl,by decide +kernel,by decide +kernel⟩
theorem Wc{f:Addr}{fd:FuncData}(B:Bt mg)(T:TLs K)(TX:KXs K)(F:Fun K "_law_entries" "_law_entries" wj f fd)(ot:Df P w K mg base CX0 2 "_law_steps" ["_law_found"] [] (kK K)):FnOk P w K mg base CX0 3 f fd ["_law_found"] (Yy K):=by
 refine F.ok nk (fun vs H Q E h=>?_) (fun cdv A outer s H vs Q E hr h=>?_)
 ·obtain⟨a,es,rfl,_⟩:=h
  rfl
 ·obtain⟨a,es,rfl,hA,q⟩:=h
  refine⟨_,(zi (ya (yn (xz (xI rfl B.isi (pv 0) rfl B.list PySem.Pv.boot_list) (fun _=>rfl)))
    (zh (zx xM))
    zD)
   (zi (yF PassesOwn.never rfl (yC (pv 0)) (zC (i:=1) nk.nd rfl (Or.inl rfl))
    (zi (ya (PW.pt (uu (yn (xz (xI rfl B.isi (pv 1) rfl B.tuple PySem.Pv.boot_tuple) (fun _=>rfl))) (uu (zI X7 (zp zX rfl B.len aB (za (pv 1) ze)) zg (zK _)) (vB (yn (xz (cl0 ot hr .nil rfl (za (zw ix_tup (pv 1) zg (fun _ _=>rfl)) ze)) (fun _=>rfl)))))))
     (zh (zx xM))
     zD)
    (zh (ya (PW.pt (uu (yn (xz (xI rfl B.isi (zw ix_tup (pv 1) zg (fun _ _=>rfl)) rfl B.str PySem.Pv.boot_str) (fun _=>rfl))) (vB (yn (xz (xI rfl B.isi (zw ix_tup (pv 1) zg (fun _ _=>rfl)) rfl B.str PySem.Pv.boot_str) (fun _=>rfl))))))
     (zh (zx xM))
     zD))))
   (zh (zx xM)))),?_⟩
  have s16:=ym
  simp only[Is] at hA
  obtain⟨_,xs,e,hX,hI⟩:=hA
  cases e
  refine zj (fun σ H'=>H'=H/\σ=[some (.ref a),none]) ?_ ?_
  ·rfl'
   exact⟨_,.inr (.inr (.inl ⟨_,_,rfl,rfl,hX⟩)),true,T.ll,UA trivial⟩
  rintro σ H1 ⟨rfl,rfl⟩
  refine zj (fun σ H'=>H'=H1/\∃ v1,σ=[some (.ref a),v1]) ?_ ?_
  ·rfl'
   refine⟨⟨_,hX⟩,ForL.by (xs:=xs) (fun i σ H'=>H'=H1/\∃ v1,σ=[some (.ref a),v1]) ⟨rfl,_,rfl⟩ (fun i σ H' _ h=>by rw[h.1];exact hX) ?_ fun σ H' h=>h⟩
   rintro i x σ H' hx ⟨rfl,v1,rfl⟩
   obtain⟨e,pe,se,hei,rfl,hqe,hse⟩:=Xf hI hx
   simp only[xA,bj,bi]
   refine zj (fun σ H''=>H''=H'/\σ=[some (.ref a),some (.ref pe)]) ?_ ?_
   ·rfl'
    exact⟨_,.inr (.inr (.inr ⟨_,_,rfl,rfl,hqe⟩)),true,T.tt,UA ⟨_,.inr ⟨_,hqe,rfl⟩,xj (fun h=>absurd rfl h) fun _=>⟨_,hqe,_,rfl,se,e.2.2,rfl,hse,true,rfl,UA rfl⟩⟩⟩
   rintro σ G ⟨rfl,rfl⟩
   rfl'
   exact⟨_,hqe,_,rfl,_,.inl (.str _),true,TX.ss,UA ⟨_,hqe,_,rfl,_,.inl (.str _),true,TX.ss,UA trivial⟩⟩
  rintro σ H2 ⟨rfl,v1,rfl⟩
  rfl'
  exact q
theorem ThinL.pairs{k:Nat}{l:List Nat}{ns:List Int}{zs bs:List Ent}(h:ThinL k l ns zs)(hp:zc bs=zc zs)(hE:∀ e ∈ bs,EB l e):ThinL k l ns bs:=by
 have key:∀(i:Nat) (a:Ent),bs[i]? = some a->∃ z,zs[i]? = some z/\z.1=a.1/\z.2.1=a.2.1:=fun i a ha=>by
  have h1:(zc bs)[i]? = some (a.1,a.2.1):=by unfold zc;rw[aG,ha];rfl
  rw[hp] at h1
  unfold zc at h1
  rw[aG] at h1
  obtain⟨z,hz,e⟩:=Option.map_eq_some_iff.mp h1
  exact⟨z,hz,(Prod.ext_iff.mp e).1,(Prod.ext_iff.mp e).2⟩
 refine⟨⟨hE,fun e he=>?_⟩,fun i j a b ha hb hij=>?_,fun i j a b ha hb hij=>?_,fun i j a b ha hb=>?_⟩
 ·obtain⟨i,hi⟩:=List.mem_iff_getElem?.mp he
  obtain⟨z,hz,e1,e2⟩:=key i e hi
  rw[<- e1,<- e2]
  exact h.rl.lt z (af hz)
 all_goals
  obtain⟨x,hx,e1,e2⟩:=key i a ha
  obtain⟨y,hy,f1,f2⟩:=key j b hb
  rw[<- f1]
 ·rw[<- e1]
  exact h.up i j x y hx hy hij
 ·rw[<- e1]
  exact h.no1 i j x y hx hy hij
 ·rw[<- e2]
  exact h.no2 i j x y hx hy
abbrev zdu(mg:Str->Option Value):Prop:=mg "any" = none
structure TNT(K:oO)(mg:Str->Option Value)(C:Addr):Prop where
 xi:XI K C
 g:mg "NotTurned" = some (.ref C)
 na:NoAttr K C "number"
theorem vV:zq ["self","number"] ["self","number"] (zb zY):=⟨rfl,rfl,rfl,by decide +kernel,rfl,by decide +kernel,by decide +kernel⟩
theorem ur{f C:Addr}{fd:FuncData}(T:TNT K mg C)(F:Fun K "__init__" "NotTurned.__init__" zY f fd):FnOk P w K mg base CX0 1 f fd ["self","number"] (vE C "number"):=by
 refine F.ok vV (fun vs H Q E h=>?_) (fun cdv A outer s H vs Q E hr h=>?_)
 ·obtain⟨x,v,rfl,_⟩:=h
  rfl
 ·obtain⟨x,v,rfl,hx,q⟩:=h
  refine⟨_,(zh (Uq (pv 0) (pv 1) rfl)),?_⟩
  simp only[K2]
  rfl'
  exact⟨C,hx,T.xi.toXC,T.na,q⟩
structure DNT(P:Program)(w:World)(K:oO)(mg:Str->Option Value)(base:Heap)(C:Addr):Prop extends TNT K mg C where
 ini:∃ f fd,ah K (.ref C) "__init__" = some (some (.ref f))/\bg K (.ref f)=true/\FnOk P w K mg base CX0 1 f fd ["self","number"] (vE C "number")/\Binds K fd ["self","number"] []
structure zap(K:oO)(mg:Str->Option Value)(CH:Addr):Prop where
 cl:Cls K CH
 g:mg "System" = some (.ref CH)
 no:NoAttr K CH "order"
 nr:NoAttr K CH "rules"
def wH(k:Nat)(l:List Nat)(ns:List Int):List zr->Nat->Option Nat
 | [],_=>none
 | r::rs,i=>if zL k l ns r.2 r.1=true then wH k l ns rs (i+1) else some i
theorem Xt{k:Nat}{l:List Nat}{ns:List Int}:∀{ps:List zr} {j i:Nat} {r:zr},(∀(m:Nat) (p:zr),m<i->ps[m]? = some p->zL k l ns p.2 p.1=true)->ps[i]? = some r->zL k l ns r.2 r.1=false->wH k l ns ps j=some (j+i)
 | [],_,_,_,_,h,_=>by simp at h
 | p::ps,j,0,r,_,h,hl=>by
  cases h
  rw[wH,hl,if_neg aF]
  rfl
 | p::ps,j,i+1,r,hb,h,hl=>by
  rw[wH,if_pos (hb 0 p (Nat.succ_pos _) rfl),Xt (i:=i) (fun m q hm e=>hb (m+1) q (by omega) e) h hl]
  congr 1
  omega
theorem vZ{k:Nat}{l:List Nat}{ns:List Int}:∀{ps:List zr} {j:Nat},(∀(m:Nat) (p:zr),ps[m]? = some p->zL k l ns p.2 p.1=true)->wH k l ns ps j=none
 | [],_,_=>rfl
 | p::ps,j,hb=>by
  rw[wH,if_pos (hb 0 p rfl)]
  exact vZ fun m q e=>hb (m+1) q e
def InL(l:List Nat)(ps:List zr):Prop:=∀ p ∈ ps,p.1.length<=1000/\p.2.length<=1000/\(∀ c ∈ p.1,c ∈ l)/\∀ c ∈ p.2,c ∈ l
def uW(K:oO)(CO CR CW CT CH:Addr):Sp:=fun vs H Q E=>∃(x dx o a:Addr) (k:Nat) (l:List Nat) (ns:List Int) (ps:List zr) (xs:List V),vs=[.ref x,.ref o,.ref a]/\H x=some (.ins CH dx [])/\OrdAt CO CR CW H o k l ns/\OG l ns k/\H a=some (.lst xs)/\Iss K H (ps.map dR) xs/\InL l ps /\
 (∀ i,wH k l ns ps 0=some i->∀ H1,Same H H1->∀ d H',zbI H1 d "number" (.int (i:Nat)) H'->E (.ref CT) (some d) H') /\
 (wH k l ns ps 0=none->∀(q:Addr) (H':Hp),(∀ b o',b≠x->H b=some o'->H' b=some o')->H' x=some (.ins CH dx [("order",.ref o),("rules",.ref q)])->H' q=some (.lst xs)->H q=none->Q .non H')
theorem iG:zq ["self","order","rules","number","rule"] ["self","order","rules"] (zb yE):=⟨rfl,rfl,rfl,by decide +kernel,rfl,by decide +kernel,by decide +kernel⟩
theorem jv{f CO CR CW CT CH:Addr}{fd:FuncData}(B:Bt mg)(T:DNT P w K mg base CT)(TS:zap K mg CH)(DBk:DB P w K mg base CO CR CW)(F:Fun K "__init__" "System.__init__" yE f fd) : FnOk P w K mg base (CXx P w) 5 f fd ["self","order","rules"] (uW K CO CR CW CT CH):=by
 obtain⟨fi,fdi,hi,hfn,Fi,Bi⟩:=T.ini
 refine Fun.okX F iG (fun vs H Q E h=>?_) (fun cdv A outer s H vs Q E hr hx h=>?_)
 ·obtain⟨x,dx,o,a,k,l,ns,ps,xs,rfl,_⟩:=h
  rfl
 ·obtain⟨x,dx,o,a,k,l,ns,ps,xs,rfl,hx0,ho,hG,hA,hI,hP,q1,q2⟩:=h
  refine⟨_,(zi (yF PassesOwn.leaving rfl (w9 rfl B.enum (za (pv 2) ze)) (uC (n:=2) rfl (z8 (zC (i:=3) iG.nd rfl (Or.inl rfl)) (z8 (zC (i:=4) iG.nd rfl (Or.inl rfl)) wT)))
    (zh (ya (yn (xz (zaf DBk hr (pv 1) (za (zw ix_tup (pv 4) zg (fun _ _=>rfl)) (za (zw ix_tup (pv 4) zg (fun _ _=>rfl)) ze))) (fun _=>rfl)))
     (zh (ZT hx rfl T.xi.toXC hi hfn Fi (hr.mono (by decide)) Bi rfl T.g (za (pv 3) ze)))
     zD)))
   (zi (Y6 (pv 0) (pv 1) rfl)
   (zh (Y6 (pv 0) (xL xo rfl B.list PySem.Pv.boot_list (za (pv 2) ze)) rfl)))),?_⟩
  have s16:=ym
  refine zj (fun σ H'=>Same H H'/\wH k l ns ps 0=none/\∃ v3 v4,σ=[some (.ref x),some (.ref o),some (.ref a),v3,v4]) ?_ ?_
  ·repeat (first | rfl' | simp only[yx,zA,zJ,yz,yA,zy])
   refine⟨⟨_,SqL.of hA⟩,ForEL.by (xs:=xs) (fun i σ H'=>Same H H'/\(∀(j:Nat) (p:zr),j<i->ps[j]? = some p->zL k l ns p.2 p.1=true)/\∃ v3 v4,σ=[some (.ref x),some (.ref o),some (.ref a),v3,v4]) ⟨Same.refl _,fun j p h=>absurd h (cL j),_,_,rfl⟩ ?_ ?_ ?_⟩
   ·rintro i σ H' _ ⟨hs,_⟩
    exact SqL.of (hs _ _ hA)
   ·rintro i y σ H' p hy ⟨hs,hb,v3,v4,rfl⟩ hpn
    obtain⟨r,pr,hri,rfl,hqr⟩:=hI.getR hy
    have hm:=hP r (af hri)
    have s2:=hs.trans (zd (o:=.tup [.int (i:Nat),.ref pr]) hpn)
    have ho2:=ho.same s2
    have hq2:=zl s2 hqr
    obtain⟨C,dy,fs,hf,hoC,hn,_⟩:=ho2.fam
    have hn1:fs.lookup ("before" : Str)=none:=hn _ (by decide) (by decide)
    repeat (first | rfl' | simp only[yx,zA,zJ,yz,yA,zy])
    refine⟨_,SqT.of zf,rfl,_,_,rfl,_,_,rfl,rfl,C,hf,dy,fs,hoC,hn1,_,rfl,_,hq2,_,rfl,_,rfl,_,hq2,_,rfl,o,k,l,ns,r.2,r.1,rfl,ho2,hG,hm.2.1,hm.1,hm.2.2.2,hm.2.2.1,fun H3 s3=>?_⟩
    have s16:=ym
    refine⟨_,rfl,xj (fun e=>⟨by omega,W7 (q1 i (by have:=Xt (j:=0) hb hri e;simpa using this) H3 (s2.trans s3))⟩) fun e=>⟨s2.trans s3,fun j p' hj hp'=>?_⟩⟩
    by_cases hj':j<i
    ·exact hb j p' hj' hp'
    ·have:j=i:=by omega
     rw[this,hri] at hp'
     cases hp'
     simpa using e
   ·rintro σ H' ⟨hs,hb,v3,v4,rfl⟩
    have hxl:=hI.len
    rw[ae] at hxl
    exact⟨hs,vZ fun m p e=>hb m p (by have:=(List.getElem?_eq_some_iff.mp e).1;omega) e,v3,v4,rfl⟩
  rintro σ H1 ⟨s1,hf,v3,v4,rfl⟩
  refine zj (fun σ H'=>H'=upd H1 x (.ins CH dx [("order",.ref o)])/\σ=[some (.ref x),some (.ref o),some (.ref a),v3,v4]) ?_ ?_
  ·repeat (first | rfl' | simp only[yx,zA,zJ,yz,yA,zy])
   exact⟨_,_,_,s1 _ _ hx0,TS.cl,TS.no,by decide,rfl⟩
  rintro σ H2 ⟨rfl,rfl⟩
  repeat (first | rfl' | simp only[yx,zA,zJ,yz,yA,zy])
  have hax:a≠x:=fun e=>by rw[e,hx0] at hA;cases hA
  refine⟨xs,.inl (SqL.of (by rw[zo hax];exact s1 _ _ hA)),fun q hq=>?_⟩
  have hqx:q≠x:=fun e=>by rw[e,zf] at hq;cases hq
  rw[zo hqx] at hq
  have hqH:H q=none:=by
   cases e:H q with
   | none=>rfl
   | some o'=>rw[s1 _ _ e] at hq;cases hq
  refine⟨CH,dx,_,by rw[zo hqx.symm,zf],TS.cl,TS.nr,by show 1<1000;decide,q2 hf q _ (fun b o' hb e=>?_) zf (by rw[zo hqx,zf]) hqH⟩
  rw[zo hb,zo (fun z=>by rw[z,hqH] at e;cases e),zo hb]
  exact s1 _ _ e
def Qq(K:oO)(CH:Addr)(H:Hp)(y o q:Addr)(ps:List zr):Prop:=∃ dx xs,H y=some (.ins CH dx [("order",.ref o),("rules",.ref q)])/\H q=some (.lst xs)/\Iss K H (ps.map dR) xs
def yZ(l m:List Nat)(k:Nat):Bool:=decide ((l.drop k).take m.length=m.take (l.length - k))
def lf(rs:List zr)(i:Nat):List Nat:=(rs.getD i ([],[])).1
theorem wE{rs:List zr}{i:Nat}{r:zr}(h:rs[i]? = some r):lf rs i=r.1:=by unfold lf;rw[ac,h];rfl
def Zp(rs:List zr)(i j n:Nat):List N3:=((aY n).filter fun k=>(decide (i≠j) || decide (k≠0)) && yZ (lf rs i) (lf rs j) k).map fun k=>(i,j,k)
def ovI(rs:List zr)(i m:Nat):List N3:=(aY m).flatMap fun j=>Zp rs i j (lf rs i).length
def ovA(rs:List zr)(m:Nat):List N3:=(aY m).flatMap fun i=>ovI rs i rs.length
theorem jd(rs:List zr)(i j n:Nat):Zp rs i j (n+1)=Zp rs i j n ++ (if ((decide (i≠j) || decide (n≠0)) && yZ (lf rs i) (lf rs j) n)=true then [(i,j,n)] else []):=by
 unfold Zp
 rw[cM,cN,aH]
 congr 1
 simp only[ef,dc]
 split <;> rfl
theorem uS(rs:List zr)(i m:Nat):ovI rs i (m+1)=ovI rs i m ++ Zp rs i m (lf rs i).length:=by
 unfold ovI
 rw[cM,cY]
 simp
theorem kd(rs:List zr)(m:Nat):ovA rs (m+1)=ovA rs m ++ ovI rs m rs.length:=by
 unfold ovA
 rw[cM,cY]
 simp
theorem uU(rs:List zr)(i j n:Nat):(Zp rs i j n).length<=n:=by
 unfold Zp
 rw[ae]
 have:=cQ (fun k=>(decide (i≠j) || decide (k≠0)) && yZ (lf rs i) (lf rs j) k) (aY n)
 rw[dj] at this
 exact this
theorem za4{rs:List zr}(h:jb rs)(i:Nat):(lf rs i).length<=100:=by
 cases e:rs[i]? with
 | none=>unfold lf;rw[ac,e];exact aJ _
 | some r=>rw[wE e];exact (h.2 r (af e)).1
theorem Yq{rs:List zr}(h:jb rs)(i m:Nat):(ovI rs i m).length<=m * 100:=by
 induction m with
 | zero=>exact aJ _
 | succ m ih =>
  rw[uS,am]
  have h1:=uU rs i m (lf rs i).length
  have h2:=za4 h i
  omega
theorem V6{rs:List zr}(h:jb rs)(m:Nat):(ovA rs m).length<=m * 3000:=by
 induction m with
 | zero=>exact aJ _
 | succ m ih =>
  rw[kd,am]
  have h1:=Yq h m rs.length
  have h2:=h.1
  omega
theorem Ww(l m:List Nat)(k:Nat):yZ l m k=true ↔ ∀ j,j<m.length->k+j<l.length->l[k+j]? = m[j]?:=by
 unfold yZ
 rw[decide_eq_true_eq]
 constructor
 ·intro h j hj hk
  have h1:((l.drop k).take m.length)[j]? = (m.take (l.length - k))[j]?:=by rw[h]
  rw[bx hj,e9,bx (by omega)] at h1
  exact h1
 ·intro h
  refine List.ext_getElem? fun j=>?_
  by_cases hj:j<m.length
  ·rw[bx hj,e9]
   by_cases hk:k+j<l.length
   ·rw[bx (by omega)]
    exact h j hj hk
   ·rw[bz (by omega),bz (by rw[aK];omega)]
  ·rw[bz (by rw[aK];omega),bz (by rw[aK];omega)]
def uR:Sp:=fun vs H Q _=>∃(l m:List Nat) (k:Nat),vs=[.str (tx l),.str (tx m),.int (k:Nat)]/\l.length<=1000/\m.length<=1000/\k<=l.length/\Q (.bl (yZ l m k)) H
theorem ZW{l m:List Nat}{k:Nat}{H:Hp}{Q:VK}{E:XK}(h1:l.length<=1000)(h2:m.length<=1000)(h3:k<=l.length)(h:Q (.bl (yZ l m k)) H):uR [.str (tx l),.str (tx m),.int (k:Nat)] H Q E:=⟨l,m,k,rfl,h1,h2,h3,h⟩
theorem QD:zq ["one","other","place"] ["one","other","place"] (zb ug):=⟨rfl,rfl,rfl,by decide +kernel,rfl,by decide +kernel,by decide +kernel⟩
theorem UR{f:Addr}{fd:FuncData}(B:Bt mg)(F:Fun K "agree" "agree" ug f fd) : FnOk P w K mg base CX0 1 f fd ["one","other","place"] uR:=by
 refine F.ok QD (fun vs H Q E h=>?_) (fun cdv A outer s H vs Q E hr h=>?_)
 ·obtain⟨l,m,k,rfl,_⟩:=h
  rfl
 ·obtain⟨l,m,k,rfl,hl,hm,hk,q⟩:=h
  refine⟨_,(zh (zx (ui qT (yl jM (pv 0) (yh (pv 2)) (yh (zB yB (pv 2) (zp zX rfl B.len aB (za (pv 1) ze))))) (yl jM (pv 1) xZ (yh (zB qv (zp zX rfl B.len aB (za (pv 0) ze)) (pv 2)))) (zK _)))),?_⟩
  have s16:=ym
  rfl'
  refine⟨by omega,by omega,by omega,by omega,?_⟩
  rw[Jt _ (by omega) (by omega),ZJ _ (by omega)]
  have e1:((k:Int)+(m.length:Int) - (k:Int)).toNat=m.length:=by omega
  have e2:((l.length:Int) - (k:Int)).toNat=l.length - k:=by omega
  rw[e1,e2]
  exact q
def wA(K:oO):Sp:=fun vs H Q _=>∃(a:Addr) (rs:List zr),vs=[.ref a]/\Is K H (.lst (rs.map dR)) (.ref a)/\jb rs/\∀ D H',H D=none->Same H H'->LsA K H' D ((ovA rs rs.length).map d3)->Q (.ref D) H'
theorem ZS{a:Addr}{rs:List zr}{H:Hp}{Q:VK}{E:XK}(h1:Is K H (.lst (rs.map dR)) (.ref a))(h2:jb rs)(h:∀ D H',H D=none->Same H H'->LsA K H' D ((ovA rs rs.length).map d3)->Q (.ref D) H'):wA K [.ref a] H Q E:=⟨a,rs,rfl,h1,h2,h⟩
theorem gn:zq ["rules","found","i","one","j","other","place"] ["rules"] (zb xF):=⟨rfl,rfl,rfl,by decide +kernel,rfl,by decide +kernel,by decide +kernel⟩
theorem Yk{f:Addr}{fd:FuncData}(B:Bt mg)(F:Fun K "overlaps" "overlaps" xF f fd)(ou:Df P w K mg base CX0 1 "agree" ["one","other","place"] [] uR):FnOk P w K mg base CX0 2 f fd ["rules"] (wA K):=by
 refine F.ok gn (fun vs H Q E h=>?_) (fun cdv A outer s H vs Q E hr h=>?_)
 ·obtain⟨a,rs,rfl,_⟩:=h
  rfl
 ·obtain⟨a,rs,rfl,hR,ok,q⟩:=h
  refine⟨_,(zN (zt (i:=1) gn.nd rfl (Or.inl rfl) (xR ze))
   (zN (yF PassesOwn.never rfl (w9 rfl B.enum (za (pv 0) ze)) (uC (n:=2) rfl (z8 (zC (i:=2) gn.nd rfl (Or.inl rfl)) (z8 (zC (i:=3) gn.nd rfl (Or.inl rfl)) wT)))
    (zh (yF PassesOwn.never rfl (w9 rfl B.enum (za (pv 0) ze)) (uC (n:=2) rfl (z8 (zC (i:=4) gn.nd rfl (Or.inl rfl)) (z8 (zC (i:=5) gn.nd rfl (Or.inl rfl)) wT)))
     (zh (yF PassesOwn.never rfl (W4 rfl B.range (za (kF (zI qT (pv 2) (pv 4) (zK _)) zg zg) (za (zp zX rfl B.len aB (za (zw ix_tup (pv 3) zg (fun _ _=>rfl)) ze)) ze))) (zC (i:=6) gn.nd rfl (Or.inl rfl))
      (zh (ya (xz (cl0 ou hr .nil rfl (za (zw ix_tup (pv 3) zg (fun _ _=>rfl)) (za (zw ix_tup (pv 5) zg (fun _ _=>rfl)) (za (pv 6) ze)))) (fun _=>rfl))
       (zh (xJ (vR bc bB bC yW (pv 1) (za (z9 (za (pv 2) (za (pv 4) (za (pv 6) ze)))) ze))))
       zD)))))))
   (zh (zx (pv 1))))),?_⟩
  have s16:=ym
  rfl'
  simp only[Is] at hR
  obtain⟨_,xs,e,hX,hI⟩:=hR
  cases e
  refine⟨by omega,fun D hD=>⟨⟨_,(zd hD).seq hX⟩,ForEL.by (xs:=xs) (fun i σ H'=>∃ v2 v3 v4 v5 v6,σ=[some (.ref a),some (.ref D),v2,v3,v4,v5,v6]/\Same H H'/\LsA K H' D ((ovA rs i).map d3)) ⟨none,none,none,none,none,rfl,zd hD,LsA.nil⟩ ?_ ?_ ?_⟩⟩
  ·rintro i σ H' hi ⟨v2,v3,v4,v5,v6,rfl,hs,_⟩
   exact hs.seq hX
  ·rintro i x σ H' p hx ⟨v2,v3,v4,v5,v6,rfl,hs,hL⟩ hp
   obtain⟨r,pr,hri,rfl,hqr⟩:=hI.getR hx
   have er:=wE hri
   have hr1:=(ok.2 r (af hri)).1
   rfl'
   refine⟨_,SqT.of zf,rfl,_,_,rfl,_,_,rfl,rfl,⟨_,((hs.trans (zd hp)).seq hX)⟩,ForEL.by (xs:=xs) (fun j σ H''=>∃ v4 v5 v6,σ=[some (.ref a),some (.ref D),some (.int (i:Nat)),some (.ref pr),v4,v5,v6]/\Same H H''/\LsA K H'' D ((ovA rs i ++ ovI rs i j).map d3)) ⟨v4,v5,v6,rfl,hs.trans (zd hp),by rw[show ovI rs i 0=[] from rfl,aS];exact hL.same (zd hp)⟩ ?_ ?_ ?_⟩
   ·rintro j σ H2 hj ⟨v4,v5,v6,rfl,hs2,_⟩
    exact hs2.seq hX
   ·rintro j y σ H2 p2 hy ⟨v4,v5,v6,rfl,hs2,hL2⟩ hp2
    obtain⟨r2,pr2,hri2,rfl,hqr2⟩:=hI.getR hy
    have er2:=wE hri2
    have hr2:=(ok.2 r2 (af hri2)).1
    have hs3:=hs2.trans (zd (o:=.tup [.int (j:Nat),.ref pr2]) hp2)
    have hq1:=zl hs3 hqr
    have el:(tx r.1).length=r.1.length:=ye _
    rfl'
    refine⟨_,SqT.of zf,rfl,_,_,rfl,_,_,rfl,rfl,rfl,xj (fun h=>?_) fun h=>?_⟩
    ·have hij:i=j:=by injection h with h;omega
     have z0:Zp rs i j (1+0)=[]:=by
      subst hij
      rw[show 1+0=0+1 from rfl,jd]
      simp [Zp]
     have zn:Zp rs i j (1+((r.1.length:Int) - 1).toNat)=Zp rs i j r.1.length:=by
      by_cases h0:r.1.length=0
      ·rw[h0]
       exact z0
      ·rw[show 1+((r.1.length:Int) - 1).toNat=r.1.length by omega]
     refine⟨_,hq1,_,rfl,_,⟨by omega,rfl⟩,by decide,by decide,by omega,by omega,ForR.by (fun t σ H3=>∃ v6,σ=[some (.ref a),some (.ref D),some (.int (i:Nat)),some (.ref pr),some (.int (j:Nat)),some (.ref pr2),v6]/\Same H H3/\LsA K H3 D ((ovA rs i ++ ovI rs i j ++ Zp rs i j (1+t)).map d3)) ⟨v6,rfl,hs3,(by rw[z0,aS];exact hL2.same (zd hp2))⟩ ?_ ?_⟩
     ·rintro n σ H3 hn ⟨v6,rfl,hs4,hL4⟩
      have hn':1+n<r.1.length:=by omega
      have en:((1:Int)+(n:Int))=((1+n:Nat):Int):=by omega
      rw[en]
      obtain⟨ys,hY,hJ⟩:=hL4
      have hlen:=hJ.len
      have l1:=V6 ok i
      have l2:=Yq ok i j
      have l3:=uU rs i j (1+n)
      have i1:=(List.getElem?_eq_some_iff.mp hri).1
      have i2:=(List.getElem?_eq_some_iff.mp hri2).1
      have i3:=ok.1
      simp only[ae,am] at hlen
      have es:=jd rs i j (1+n)
      have etest:(decide (i≠j) || decide (1+n≠0))=true:=by rw[show decide (1+n≠0)=true from decide_eq_true (by omega),dv]
      rw[etest,Bool.true_and,er,er2] at es
      rfl'
      refine⟨_,zl hs4 hqr,_,rfl,_,zl hs4 hqr2,_,rfl,ZW (by omega) (by omega) (by omega) ⟨_,rfl,xj (fun hb=>⟨.inl ⟨_,SqL.of hY⟩,by omega,fun t ht=>⟨_,zd ht _ _ hY,by omega,zG (hs4.trans (zd ht)) hD,?_⟩⟩) fun hb=>⟨hs4,ys,hY,?_⟩⟩⟩
      ·rw[hb,if_pos rfl] at es
       rw[show 1+(n+1)=1+n+1 by omega,es,<- ax,aH]
       exact LsA.pushT hY hJ ht zaJ (Xs _) (by simp only[zR,xt,and_self])
      ·have hb':yZ r.1 r2.1 (1+n)=false:=by simpa using hb
       rw[hb',if_neg aF,aS] at es
       rw[show 1+(n+1)=1+n+1 by omega,es]
       exact hJ
     ·rintro σ H3 ⟨v6,rfl,hs4,hL4⟩
      refine⟨⟨_,_,_,rfl⟩,hs4,?_⟩
      rw[uS,er,<- ax]
      rw[el,zn] at hL4
      exact hL4
    ·have hij:i≠j:=fun z=>h (by rw[z])
     refine⟨_,hq1,_,rfl,_,⟨by omega,rfl⟩,by decide,by decide,by omega,by omega,ForR.by (fun t σ H3=>∃ v6,σ=[some (.ref a),some (.ref D),some (.int (i:Nat)),some (.ref pr),some (.int (j:Nat)),some (.ref pr2),v6]/\Same H H3/\LsA K H3 D ((ovA rs i ++ ovI rs i j ++ Zp rs i j (0+t)).map d3)) ⟨v6,rfl,hs3,(by rw[show Zp rs i j (0+0)=[] from rfl,aS];exact hL2.same (zd hp2))⟩ ?_ ?_⟩
     ·rintro n σ H3 hn ⟨v6,rfl,hs4,hL4⟩
      have hn':0+n<r.1.length:=by omega
      have en:((0:Int)+(n:Int))=((0+n:Nat):Int):=by omega
      rw[en]
      obtain⟨ys,hY,hJ⟩:=hL4
      have hlen:=hJ.len
      have l1:=V6 ok i
      have l2:=Yq ok i j
      have l3:=uU rs i j (0+n)
      have i1:=(List.getElem?_eq_some_iff.mp hri).1
      have i2:=(List.getElem?_eq_some_iff.mp hri2).1
      have i3:=ok.1
      simp only[ae,am] at hlen
      have es:=jd rs i j (0+n)
      have etest:(decide (i≠j) || decide (0+n≠0))=true:=by rw[show decide (i≠j)=true from decide_eq_true hij,Bool.true_or]
      rw[etest,Bool.true_and,er,er2] at es
      rfl'
      refine⟨_,zl hs4 hqr,_,rfl,_,zl hs4 hqr2,_,rfl,ZW (by omega) (by omega) (by omega) ⟨_,rfl,xj (fun hb=>⟨.inl ⟨_,SqL.of hY⟩,by omega,fun t ht=>⟨_,zd ht _ _ hY,by omega,zG (hs4.trans (zd ht)) hD,?_⟩⟩) fun hb=>⟨hs4,ys,hY,?_⟩⟩⟩
      ·rw[hb,if_pos rfl] at es
       rw[show 0+(n+1)=0+n+1 by omega,es,<- ax,aH]
       exact LsA.pushT hY hJ ht zaJ (Xs _) (by simp only[zR,xt,and_self])
      ·have hb':yZ r.1 r2.1 (0+n)=false:=by simpa using hb
       rw[hb',if_neg aF,aS] at es
       rw[show 0+(n+1)=0+n+1 by omega,es]
       exact hJ
     ·rintro σ H3 ⟨v6,rfl,hs4,hL4⟩
      refine⟨⟨_,_,_,rfl⟩,hs4,?_⟩
      rw[uS,er,<- ax]
      rw[el,show 0+((r.1.length:Int) - 0).toNat=r.1.length by omega] at hL4
      exact hL4
   ·rintro σ H2 ⟨v4,v5,v6,rfl,hs2,hL2⟩
    have e:=hI.len
    rw[ae] at e
    rw[e,<- kd] at hL2
    exact⟨⟨_,_,_,_,_,rfl⟩,hs2,hL2⟩
  ·rintro σ H' ⟨v2,v3,v4,v5,v6,rfl,hs,hL⟩
   have e:=hI.len
   rw[ae] at e
   rw[e] at hL
   rfl'
   exact q D H' hD hs hL
def yc(l m:List Nat)(k:Nat):List Nat:=l ++ m.drop (l.length - k)
theorem wS(l m:List Nat)(k:Nat)(hk:k<=l.length):(yc l m k).length=max l.length (k+m.length):=by
 unfold yc
 rw[am,br]
 omega
theorem jO(l m:List Nat)(k:Nat):zu (yc l m k) 0 l=true:=by
  unfold zu yc
  refine decide_eq_true ⟨by decide,by rw[am];omega,?_⟩
  rw[show (0:Int).toNat=0 from rfl,dI,aU (au _),aQ]
theorem qW{l m:List Nat}{k:Nat}(hk:k<=l.length)(h:yZ l m k=true):zu (yc l m k) (k:Nat) m=true:=by
 unfold yZ at h
 rw[decide_eq_true_eq] at h
 have hl:=wS l m k hk
 unfold zu
 refine decide_eq_true ⟨by omega,by omega,?_⟩
 rw[show ((k:Nat):Int).toNat=k from rfl]
 unfold yc
 rw[bM hk]
 by_cases hm:m.length<=l.length - k
 ·rw[aU (by rw[br];omega),h,bf hm]
 ·rw[bf (by rw[br];omega)] at h
  rw[h,bK,aQ]
theorem QN{rs:List zr}{i j n:Nat}{t:N3}(h:t ∈ Zp rs i j n):t.1=i/\t.2.1=j/\t.2.2<n/\yZ (lf rs i) (lf rs j) t.2.2=true:=by
 unfold Zp at h
 obtain⟨k,hk,rfl⟩:=List.mem_map.mp h
 rw[List.mem_filter,eP,cE] at hk
 exact⟨rfl,rfl,hk.1,hk.2.2⟩
theorem ut{rs:List zr}{t:N3}(h:t ∈ ovA rs rs.length):t.1<rs.length/\t.2.1<rs.length/\t.2.2<(lf rs t.1).length/\yZ (lf rs t.1) (lf rs t.2.1) t.2.2=true:=by
 unfold ovA ovI at h
 obtain⟨i,hi,h⟩:=List.mem_flatMap.mp h
 obtain⟨j,hj,h⟩:=List.mem_flatMap.mp h
 obtain⟨e1,e2,e3,e4⟩:=QN h
 rw[e1,e2]
 exact⟨List.mem_range.mp hi,List.mem_range.mp hj,e3,e4⟩
def qm(K:oO):Sp:=fun vs H Q _=>∃(a t:Addr) (rs:List zr) (i j k:Nat) (r r2:zr),vs=[.ref a,.ref t]/\Is K H (.lst (rs.map dR)) (.ref a)/\SqT K H t [.int (i:Nat),.int (j:Nat),.int (k:Nat)]/\jb rs/\rs[i]? = some r/\rs[j]? = some r2/\k<=r.1.length/\yZ r.1 r2.1 k=true /\
 ∀ p H',H p=none->Same H H'->H' p=some (.tup [.str (tx (yc r.1 r2.1 k)),.str (tx (yS (yc r.1 r2.1 k) 0 r.1 r.2)),.str (tx (yS (yc r.1 r2.1 k) (k:Nat) r2.1 r2.2))])->Q (.ref p) H'
theorem Y9{a t:Addr}{rs:List zr}{i j k:Nat}{r r2:zr}{H:Hp}{Q:VK}{E:XK}(h1:Is K H (.lst (rs.map dR)) (.ref a))(h2:SqT K H t [.int (i:Nat),.int (j:Nat),.int (k:Nat)])(h3:jb rs)(h4:rs[i]? = some r)(h5:rs[j]? = some r2)(h6:k<=r.1.length)(h7:yZ r.1 r2.1 k=true)
 (h:∀ p H',H p=none->Same H H'->H' p=some (.tup [.str (tx (yc r.1 r2.1 k)),.str (tx (yS (yc r.1 r2.1 k) 0 r.1 r.2)),.str (tx (yS (yc r.1 r2.1 k) (k:Nat) r2.1 r2.2))])->Q (.ref p) H'):qm K [.ref a,.ref t] H Q E:=⟨a,t,rs,i,j,k,r,r2,rfl,h1,h2,h3,h4,h5,h6,h7,h⟩
theorem Vm{CU:Addr}{l o n:List Nat}{k:Int}{H:Hp}{Q:VK}{E:XK}(h1:l.length<=10000)(h2:o.length<=10000)(h3:n.length<=10000)(hs:zu l k o=true)(q:Q (.str (tx (yS l k o n))) H):ZF CU [.str (tx l),.int k,.str (tx o),.str (tx n)] H Q E:=⟨l,o,n,k,rfl,h1,h2,h3,fun _=>q,fun h=>by rw[hs] at h;cases h⟩
theorem lP:zq ["rules","overlap","one","other","place","word"] ["rules","overlap"] (zb jB):=⟨rfl,rfl,rfl,by decide +kernel,rfl,by decide +kernel,by decide +kernel⟩
theorem JD{f CU:Addr}{fd:FuncData}(B:Bt mg)(F:Fun K "peak" "peak" jB f fd)(nJ:Df P w K mg base (CXx P w) 3 "put" ["word","place","old","new"] [] (ZF CU)):FnOk P w K mg base CX0 4 f fd ["rules","overlap"] (qm K):=by
 refine F.ok lP (fun vs H Q E h=>?_) (fun cdv A outer s H vs Q E hr h=>?_)
 ·obtain⟨a,t,rs,i,j,k,r,r2,rfl,_⟩:=h
  rfl
 ·obtain⟨a,t,rs,i,j,k,r,r2,rfl,hR,ht,ok,hr1,hr2,hk,hag,q⟩:=h
  refine⟨_,(zi (zt (i:=2) lP.nd rfl (Or.inl rfl) (zw ix_list (pv 0) (zw ix_tup (pv 1) zg (fun _ _=>rfl)) (fun _ _=>rfl)))
   (zi (zt (i:=3) lP.nd rfl (Or.inl rfl) (zw ix_list (pv 0) (zw ix_tup (pv 1) zg (fun _ _=>rfl)) (fun _ _=>rfl)))
   (zi (zt (i:=4) lP.nd rfl (Or.inl rfl) (zw ix_tup (pv 1) zg (fun _ _=>rfl)))
   (zi (zt (i:=5) lP.nd rfl (Or.inl rfl) (zB yB (zw ix_tup (pv 2) zg (fun _ _=>rfl)) (yl jM (zw ix_tup (pv 3) zg (fun _ _=>rfl)) (yh (zB qv (zp zX rfl B.len aB (za (zw ix_tup (pv 2) zg (fun _ _=>rfl)) ze)) (pv 4))) xZ)))
   (zh (zx (z9 (za (pv 5) (za (clP xe0 nJ hr .nil rfl (za (pv 5) (za zg (za (zw ix_tup (pv 2) zg (fun _ _=>rfl)) (za (zw ix_tup (pv 2) zg (fun _ _=>rfl)) ze))))) (za (clP xe0 nJ hr .nil rfl (za (pv 5) (za (pv 4) (za (zw ix_tup (pv 3) zg (fun _ _=>rfl)) (za (zw ix_tup (pv 3) zg (fun _ _=>rfl)) ze))))) ze)))))))))),?_⟩
  have s16:=ym
  simp only[Is] at hR
  obtain⟨_,xs,e,hX,hI⟩:=hR
  cases e
  obtain⟨p1,a1,q1⟩:=zbR hI hr1
  obtain⟨p2,a2,q2⟩:=zbR hI hr2
  have b1:=ok.2 r (af hr1)
  have b2:=ok.2 r2 (af hr2)
  refine zj (fun σ H'=>H'=H/\σ=[some (.ref a),some (.ref t),some (.ref p1),none,none,none]) ?_ ?_
  ·rfl'
   exact⟨_,ht,_,rfl,_,_,rfl,hX,a1⟩
  rintro σ H1 ⟨rfl,rfl⟩
  refine zj (fun σ H'=>H'=H1/\σ=[some (.ref a),some (.ref t),some (.ref p1),some (.ref p2),none,none]) ?_ ?_
  ·rfl'
   exact⟨_,ht,_,rfl,_,_,rfl,hX,a2⟩
  rintro σ H2 ⟨rfl,rfl⟩
  refine zj (fun σ H'=>H'=H2/\σ=[some (.ref a),some (.ref t),some (.ref p1),some (.ref p2),some (.int (k:Nat)),none]) ?_ ?_
  ·rfl'
   exact⟨_,ht,rfl⟩
  rintro σ H3 ⟨rfl,rfl⟩
  refine zj (fun σ H'=>H'=H3/\σ=[some (.ref a),some (.ref t),some (.ref p1),some (.ref p2),some (.int (k:Nat)),some (.str (tx (yc r.1 r2.1 k)))]) ?_ ?_
  ·rfl'
   refine⟨_,q1,_,rfl,_,q2,_,rfl,_,q1,_,rfl,_,⟨by rw[ye];omega,rfl⟩,.inr ⟨_,rfl,by rw[ye];omega,_,rfl,?_,?_⟩⟩
   ·rw[ye,XL]
    have:=wQ r2.1 (some ((r.1.length:Int) - (k:Int))) none
    omega
   ·rw[ye,XL,ZN,qj _ (by omega),show ((r.1.length:Int) - (k:Int)).toNat=r.1.length - k by omega]
    rfl
  rintro σ H4 ⟨rfl,rfl⟩
  have hw:=wS r.1 r2.1 k hk
  rfl'
  exact⟨_,q1,_,rfl,_,q1,_,rfl,Vm (by omega) (by omega) (by omega) (jO _ _ _) ⟨_,q2,_,rfl,_,q2,_,rfl,Vm (by omega) (by omega) (by omega) (qW hk hag) ⟨by omega,fun p hp=>q p _ hp (zd hp) zf⟩⟩⟩
def FmOk(ps:List zr)(most:Int)(m:Str->Option V):Prop:=∀ k v,m k=some v->∃(w:List Nat) (J:Nat),k=tx w/\v=.str (tx (wAt ps w J))/\Wi ps w J/\zF (wAt ps w J) ps=none/\(J:Int)<=most
theorem FmOk.get{ps:List zr}{most:Int}{m:Str->Option V}(h:FmOk ps most m){w:List Nat}{v:V}(e:m (tx w)=some v){J:Nat}(hl:Wi ps w J)(hf:zF (wAt ps w J) ps=none):v=.str (tx (wAt ps w J)):=by
 obtain⟨w',J',e1,e2,e3,e4,_⟩:=h _ _ e
 have e5:=jT e1
 subst e5
 rw[e2,Qp e3 e4 hl hf]
theorem FmOk.put{ps:List zr}{most:Int}{m:Str->Option V}(h:FmOk ps most m){w:List Nat}{J:Nat}(hl:Wi ps w J)(hf:zF (wAt ps w J) ps=none)(hJ:(J:Int)<=most):FmOk ps most (fun x=>if x=tx w then some (.str (tx (wAt ps w J))) else m x):=fun k v e=>by
 by_cases hk:k=tx w
 ·simp only[hk,if_true] at e
  cases e
  exact⟨w,J,hk,rfl,hl,hf,hJ⟩
 ·simp only[hk,if_false] at e
  exact h k v e
def kC(P:Program)(w:World)(K:oO)(CF:Addr):Sp:=fun vs H Q E=>∃(a F:Addr) (l:List Nat) (ps:List zr) (m:Int) (J n:Nat) (mp:Str->Option V),vs=[.ref a,.str (tx l),.int m,.ref F]/\LsA K H a (ps.map dR)/\NeL ps/\ps.length<=100/\(∀ p ∈ ps,p.1.length<=1000/\p.2.length<=1000)/\Rd ps l J/\H F=some (jp P w F mp n)/\FmOk ps m mp/\n<=10000 /\
 ((zF (wAt ps l J) ps=none/\(J:Int)<=m/\∀(mp':Str->Option V) (n':Nat) (H':Hp),SamT F H H'->H' F=some (jp P w F mp' n')->FmOk ps m mp'->n'<=n+1->Q (.str (tx (wAt ps l J))) H') \/
  (zF (wAt ps l J) ps≠none/\(J:Int)=m/\∀ H',Same H H'->E (.ref CF) none H'))
theorem XM:zq ["rules","word","most","forms"] ["rules","word","most","forms"] (zb wb):=⟨rfl,rfl,rfl,by decide +kernel,rfl,by decide +kernel,by decide +kernel⟩
theorem Wa{f CF:Addr}{fd:FuncData}{lr:Tok}(B:Bt mg)(F:Fun K "form_of" "form_of" wb f fd)(ng:Df P w K mg base (CXx P w) 4 "gone" ["rules","word","most"] [] (wU K CF))(DD_gone:Df P w K mg base (CXx P w) 4 "gone" ["rules","word","most"] [.int 4000 lr] (wU K CF)):FnOk P w K mg base (CXx P w) 5 f fd ["rules","word","most","forms"] (kC P w K CF):=by
 refine Fun.okX F XM (fun vs H Q E h=>?_) (fun cdv A outer s H vs Q E hr hx h=>?_)
 ·obtain⟨a,F0,l,ps,m,J,n,mp,rfl,_⟩:=h
  rfl
 ·obtain⟨a,F0,l,ps,m,J,n,mp,rfl,hA,hN,hpl,hP,hR,hF,hM,hn,hq⟩:=h
  refine⟨_,(zi (ya (zI QA (pv 1) (pv 3) (by with_unfolding_all rfl))
    (zh (Q1 (zw ix_tup (clP hx ng hr .nil rfl (za (pv 0) (za (pv 1) (za (pv 2) ze)))) zg (fun _ _=>rfl)) (zbh (pv 3) (pv 1) U6 (by intro _;rfl))))
    zD)
   (zh (zx (zw Kg (pv 3) (pv 1) (fun _ _=>rfl))))),?_⟩
  have s16:=ym
  have s16:=ym
  refine zj (fun σ H'=>SamT F0 H H'/\zF (wAt ps l J) ps=none/\(J:Int)<=m/\(∃(mp':Str->Option V) (n':Nat),H' F0=some (jp P w F0 mp' n')/\FmOk ps m mp'/\n'<=n+1/\mp' (tx l)=some (.str (tx (wAt ps l J))))/\σ=[some (.ref a),some (.str (tx l)),some (.int m),some (.ref F0)]) ?_ ?_
  ·rfl'
   refine⟨F0,mp,n,tx l,rfl,rfl,hF,_,rfl,xj (fun hnone=>⟨a,l,ps,m,J,rfl,hA,hN,hpl,hP,hR,?_⟩) fun hsome=>?_⟩
   ·rcases hq with ⟨hf,hJ,_⟩ | h
    ·refine .inl ⟨hf,hJ,fun p S H' s' hp _ _=>⟨p,rfl,_,SqT.of hp,_,rfl,?_⟩⟩
     simp only[zcT]
     rfl'
     exact⟨F0,mp,n,tx l,rfl,rfl,s' _ _ hF,by omega,fun b o hb e=>by rw[zo hb];exact s' _ _ e,hf,hJ,_,_,zf,hM.put hR.live hf hJ,au _,if_pos rfl⟩
    ·exact .inr h
   ·cases hv:mp (tx l) with
    | none=>rw[hv] at hsome;exact absurd rfl hsome
    | some v =>
     obtain⟨w',J',e1,e2,e3,e4,e5⟩:=hM _ _ hv
     have e6:=jT e1
     subst e6
     rcases hq with ⟨hf,hJ,_⟩ | ⟨hf,hJ,_⟩
     ·exact⟨fun b o _ e=>e,hf,hJ,mp,n,hF,hM,by omega,by rw[hM.get hv hR.live hf] at hv;exact hv⟩
     ·exfalso
      rcases d7 J' J with h | h
      ·exact hR.live J' h e4
      ·have:J'=J:=by omega
       subst this
       exact hf e4
  rintro σ H1 ⟨s1,hf,hJ,⟨mp',n',h1,h2,h3,h4⟩,rfl⟩
  rfl'
  refine⟨F0,mp',n',tx l,_,rfl,rfl,h1,h4,?_⟩
  rcases hq with ⟨_,_,q⟩ | ⟨h,_⟩
  ·exact q mp' n' H1 s1 h1 h2 h3
  ·exact absurd hf h
def pkA(ps:List zr)(t:N3):List Nat:=yS (yc (lf ps t.1) (lf ps t.2.1) t.2.2) 0 (lf ps t.1) (ps.getD t.1 ([],[])).2
def pkB(ps:List zr)(t:N3):List Nat:=yS (yc (lf ps t.1) (lf ps t.2.1) t.2.2) (t.2.2:Nat) (lf ps t.2.1) (ps.getD t.2.1 ([],[])).2
inductive zaa(ps:List zr)(m:Int)(l:List Nat):Option Nat->Prop where
 | yes {J:Nat} (h:Rd ps l J) (h1:zF (wAt ps l J) ps=none) (h2:(J:Int)<=m):zaa ps m l (some J)
 | no {J:Nat} (h:Rd ps l J) (h1:zF (wAt ps l J) ps≠none) (h2:(J:Int)=m):zaa ps m l none
def qf(P:Program)(w:World)(K:oO)(CF:Addr):Sp:=fun vs H Q E=>∃(a t F:Addr) (ps:List zr) (tr:N3) (m:Int) (n:Nat) (mp:Str->Option V) (g1 g2:Option Nat),vs=[.ref a,.ref t,.int m,.ref F]/\LsA K H a (ps.map dR)/\NeL ps/\jb ps/\SqT K H t [.int (tr.1:Nat),.int (tr.2.1:Nat),.int (tr.2.2:Nat)]/\tr ∈ ovA ps ps.length/\H F=some (jp P w F mp n)/\FmOk ps m mp/\n<=9000/\zaa ps m (pkA ps tr) g1/\zaa ps m (pkB ps tr) g2 /\
 (∀(J1 J2:Nat) (mp':Str->Option V) (n':Nat) (H':Hp),g1=some J1->g2=some J2->SamT F H H'->H' F=some (jp P w F mp' n')->FmOk ps m mp'->n'<=n+2->Q (.bl (decide (wAt ps (pkA ps tr) J1=wAt ps (pkB ps tr) J2))) H') /\
 ((g1=none\/g2=none)->∀ H',SamT F H H'->E (.ref CF) none H')
theorem Xw{P:Program}{w:World}{CF a F:Addr}{l:List Nat}{ps:List zr}{m:Int}{n:Nat}{mp:Str->Option V}{g:Option Nat}{H:Hp}{Q:VK}{E:XK}(hA:LsA K H a (ps.map dR))(hN:NeL ps)(hok:jb ps)(hF:H F=some (jp P w F mp n))(hM:FmOk ps m mp)(hn:n<=10000)(hg:zaa ps m l g)
  (h1:∀(J:Nat) (mp':Str->Option V) (n':Nat) (H':Hp),g=some J->SamT F H H'->H' F=some (jp P w F mp' n')->FmOk ps m mp'->n'<=n+1->Q (.str (tx (wAt ps l J))) H') (h2:g=none->∀ H',Same H H'->E (.ref CF) none H'):kC P w K CF [.ref a,.str (tx l),.int m,.ref F] H Q E:=by
 have hP:∀ p ∈ ps,p.1.length<=1000/\p.2.length<=1000:=fun p hp=>by have:=hok.2 p hp;omega
 have hl:ps.length<=100:=by have:=hok.1;omega
 cases hg with
 | yes h e1 e2=>exact⟨a,F,l,ps,m,_,n,mp,rfl,hA,hN,hl,hP,h,hF,hM,hn,.inl ⟨e1,e2,fun mp' n' H' a1 a2 a3 a4=>h1 _ mp' n' H' rfl a1 a2 a3 a4⟩⟩
 | no h e1 e2=>exact⟨a,F,l,ps,m,_,n,mp,rfl,hA,hN,hl,hP,h,hF,hM,hn,.inr ⟨e1,e2,h2 rfl⟩⟩
theorem qw{F t:Addr}{H H':Hp}{P:Program}{w:World}{mp:Str->Option V}{n:Nat}{xs:List V}(s:SamT F H H')(hF:H F=some (jp P w F mp n))(h:SqT K H t xs):SqT K H' t xs:=by
 rcases h with (h | ⟨o,h⟩) | h
 ·exact .inl (.inl (s _ _ (fun z=>by rw[z,hF] at h;cases h) h))
 ·exact .inl (.inr ⟨o,s _ _ (fun z=>by rw[z,hF] at h;cases h) h⟩)
 ·exact .inr h
theorem Xi{F a:Addr}{H H':Hp}{P:Program}{w:World}{mp:Str->Option V}{n:Nat}{ps:List zr}(s:SamT F H H')(hF:H F=some (jp P w F mp n))(h:LsA K H a (ps.map dR)):LsA K H' a (ps.map dR):=by
 obtain⟨xs,h1,h2⟩:=h
 refine⟨xs,s _ _ (fun z=>by rw[z,hF] at h1;cases h1) h1,?_⟩
 have key:∀(qs:List zr) (vs:List V),Iss K H (qs.map dR) vs->Iss K H' (qs.map dR) vs:=by
  intro qs
  induction qs with
  | nil=>intro vs h;simp only[aN,Iss] at h ⊢;exact h
  | cons q qs ih =>
   intro vs h
   simp only[aC,Iss] at h ⊢
   obtain⟨v,r,e,h3,h4⟩:=h
   obtain⟨p,rfl,h5⟩:=zaE h3
   exact⟨_,r,e,Wh (qw s hF h5),ih r h4⟩
 exact key ps xs h2
theorem lK:zq ["rules","overlap","most","forms","sides","one","other"] ["rules","overlap","most","forms"] (zb ve):=⟨rfl,rfl,rfl,by decide +kernel,rfl,by decide +kernel,by decide +kernel⟩
theorem VS{f CF:Addr}{fd:FuncData}(B:Bt mg)(F:Fun K "is_met" "is_met" ve f fd)(nO:Df P w K mg base CX0 4 "peak" ["rules","overlap"] [] (qm K))(nE:Df P w K mg base (CXx P w) 5 "form_of" ["rules","word","most","forms"] [] (kC P w K CF)):FnOk P w K mg base (CXx P w) 6 f fd ["rules","overlap","most","forms"] (qf P w K CF):=by
 refine Fun.okX F lK (fun vs H Q E h=>?_) (fun cdv A outer s H vs Q E hr hx h=>?_)
 ·obtain⟨a,t,F0,ps,tr,m,n,mp,g1,g2,rfl,_⟩:=h
  rfl
 ·obtain⟨a,t,F0,ps,tr,m,n,mp,g1,g2,rfl,hA,hN,hok,ht,htr,hF,hM,hn,hg1,hg2,q1,q2⟩:=h
  refine⟨_,(zi (zt (i:=4) lK.nd rfl (Or.inl rfl) (cl0 nO hr .nil rfl (za (pv 0) (za (pv 1) ze))))
   (zi (zt (i:=5) lK.nd rfl (Or.inl rfl) (clP hx nE hr .nil rfl (za (pv 0) (za (zw ix_tup (pv 4) zg (fun _ _=>rfl)) (za (pv 2) (za (pv 3) ze))))))
   (zi (zt (i:=6) lK.nd rfl (Or.inl rfl) (clP hx nE hr .nil rfl (za (pv 0) (za (zw ix_tup (pv 4) zg (fun _ _=>rfl)) (za (pv 2) (za (pv 3) ze))))))
   (zh (zx (ui qT (pv 5) (pv 6) (zK _))))))),?_⟩
  have s16:=ym
  have s16:=ym
  obtain⟨i1,i2,i3,i4⟩:=ut htr
  obtain⟨r,hr⟩:∃ r,ps[tr.1]? = some r:=⟨_,al i1⟩
  obtain⟨r2,hr2⟩:∃ r,ps[tr.2.1]? = some r:=⟨_,al i2⟩
  have l1:=wE hr
  have l2:=wE hr2
  have d1:ps.getD tr.1 ([],[])=r:=by rw[ac,hr];rfl
  have d2:ps.getD tr.2.1 ([],[])=r2:=by rw[ac,hr2];rfl
  have eA:pkA ps tr=yS (yc r.1 r2.1 tr.2.2) 0 r.1 r.2:=by unfold pkA;rw[l1,l2,d1]
  have eB:pkB ps tr=yS (yc r.1 r2.1 tr.2.2) (tr.2.2:Nat) r2.1 r2.2:=by unfold pkB;rw[l1,l2,d2]
  rw[l1] at i3
  rw[l1,l2] at i4
  refine zj (fun σ H'=>Same H H'/\∃ p:Addr,(∃ x,H' p=some (.tup [x,.str (tx (pkA ps tr)),.str (tx (pkB ps tr))]))/\σ=[some (.ref a),some (.ref t),some (.int m),some (.ref F0),some (.ref p),none,none]) ?_ ?_
  ·rfl'
   exact Y9 hA.is ht hok hr hr2 (by omega) i4 fun p H' _ s' hp=>⟨s',p,⟨_,by rw[eA,eB];exact hp⟩,rfl⟩
  rintro σ H1 ⟨s1,p,⟨x,hp⟩,rfl⟩
  have hF1:=s1 _ _ hF
  refine zj (fun σ H'=>SamT F0 H1 H'/\∃(J1:Nat),g1=some J1/\(∃ mp' n',H' F0=some (jp P w F0 mp' n')/\FmOk ps m mp'/\n'<=n+1)/\σ=[some (.ref a),some (.ref t),some (.int m),some (.ref F0),some (.ref p),some (.str (tx (wAt ps (pkA ps tr) J1))),none]) ?_ ?_
  ·rfl'
   refine⟨_,SqT.of hp,_,rfl,Xw (hA.same s1) hN hok hF1 hM (by omega) hg1 (fun J mp' n' H' e a1 a2 a3 a4=>?_) fun e H' s'=>q2 (.inl e) H' (SamT.of (s1.trans s'))⟩
   exact⟨a1,J,e,⟨mp',n',a2,a3,a4⟩,rfl⟩
  rintro σ H2 ⟨s2,J1,e1,⟨mp1,n1,hF2,hM2,hn2⟩,rfl⟩
  have s12:SamT F0 H H2:=(SamT.of s1).trans s2
  have hpF:p≠F0:=fun z=>by rw[z,hF1] at hp;cases hp
  refine zj (fun σ H'=>SamT F0 H2 H'/\∃(J2:Nat),g2=some J2/\(∃ mp' n',H' F0=some (jp P w F0 mp' n')/\FmOk ps m mp'/\n'<=n+2)/\σ=[some (.ref a),some (.ref t),some (.int m),some (.ref F0),some (.ref p),some (.str (tx (wAt ps (pkA ps tr) J1))),some (.str (tx (wAt ps (pkB ps tr) J2)))]) ?_ ?_
  ·rfl'
   exact⟨_,SqT.of (s2 _ _ hpF hp),_,rfl,Xw (Xi s2 hF1 (hA.same s1)) hN hok hF2 hM2 (by omega) hg2 (fun J mp' n' H' e a1 a2 a3 a4=>⟨a1,J,e,⟨mp',n',a2,a3,by omega⟩,rfl⟩) fun e H' s'=>q2 (.inr e) H' (s12.trans (SamT.of s'))⟩
  rintro σ H3 ⟨s3,J2,e2,⟨mp2,n2,hF3,hM3,hn3⟩,rfl⟩
  rfl'
  exact q1 J1 J2 mp2 n2 H3 e1 e2 (s12.trans s3) hF3 hM3 hn3
def ky(K:oO)(CH:Addr):Sp:=fun vs H Q _=>∃(y o q:Addr) (ps:List zr),vs=[.ref y]/\Qq K CH H y o q ps/\∀(r:Addr) (H':Hp),Same H H'->LsA K H' r (ps.map dR)->H r=none->Q (.ref r) H'
theorem vg:zq ["self"] ["self"] (zb zO):=⟨rfl,rfl,rfl,by decide +kernel,rfl,by decide +kernel,by decide +kernel⟩
theorem vh{f CH:Addr}{fd:FuncData}(B:Bt mg)(TS:zap K mg CH)(F:Fun K "rules_told" "System.rules_told" zO f fd) : FnOk P w K mg base CX0 1 f fd ["self"] (ky K CH):=by
 refine F.ok vg (fun vs H Q E h=>?_) (fun cdv A outer s H vs Q E hr h=>?_)
 ·obtain⟨y,o,q,ps,rfl,_⟩:=h
  rfl
 ·obtain⟨y,o,q,ps,rfl,hy,k⟩:=h
  refine⟨_,(zh (zx (xL xo rfl B.list PySem.Pv.boot_list (za (Xz (pv 0) rfl) ze)))),?_⟩
  have s16:=ym
  rfl'
  obtain⟨dx,xs,h1,h2,h3⟩:=hy
  exact⟨_,_,_,h1,TS.cl,TS.nr,_,rfl,_,rfl,_,.inl (SqL.of h2),fun r hr'=>k r _ (zd hr') ⟨xs,zf,Iss.same (zd hr') _ _ h3⟩ hr'⟩
def goJ(ps:List zr)(m:Nat)(v:List Nat):Option Nat:=(aY (m+1)).find? fun j=>(zF (wAt ps v j) ps).isNone
theorem UQ{ps:List zr}{m:Nat}{v:List Nat}{i:Nat}(e:goJ ps m v=some i):i<=m/\Wi ps v i/\zF (wAt ps v i) ps=none:=by
 unfold goJ at e
 have h1:=dz e
 have h2:zF (wAt ps v i) ps=none:=Option.isNone_iff_eq_none.mp h1
 have hm:=List.mem_range.mp (dZ e)
 refine⟨by omega,fun n hn hno=>?_,h2⟩
 obtain⟨_,as,bs,e2,h3⟩:=List.find?_eq_some_iff_append.mp e
 have hlen:as.length=i:=by
  have:=congrArg (fun l=>l[as.length]?) e2
  simp only[bS (au _),Nat.sub_self,em] at this
  obtain⟨h7,h8⟩:=List.getElem?_eq_some_iff.mp this
  rw[fg] at h8
  exact h8
 have h9:(aY (m+1))[n]? = as[n]?:=by rw[e2,bY (by omega)]
 have h10:n<(aY (m+1)).length:=by rw[dj];omega
 rw[al h10,fg] at h9
 have:=h3 n (af h9.symm)
 rw[hno] at this
 cases this
theorem Qs{ps:List zr}{m:Nat}{v:List Nat}(e:goJ ps m v=none):∀ j,j<=m->zF (wAt ps v j) ps≠none:=fun j hj hno=>by
 unfold goJ at e
 have:=List.find?_eq_none.mp e j (List.mem_range.mpr (by omega))
 rw[hno] at this
 exact this rfl
theorem Us{ps:List zr}{m:Nat}{v:List Nat}(hl:∀ j,j<=m->(wAt ps v j).length<=10000)(hm:m<=10000):zaa ps (m:Int) v (goJ ps m v):=by
 cases e:goJ ps m v with
 | some i =>
  obtain⟨h1,h2,h3⟩:=UQ e
  exact .yes ⟨h2,fun j hj=>hl j (by omega),by omega⟩ h3 (by omega)
 | none =>
  have h:=Qs e
  exact .no (J:=m) ⟨fun i hi=>h i (by omega),fun j hj=>hl j hj,hm⟩ (h m (au _)) rfl
def K6(ps:List zr)(m:Nat)(v:List Nat):List Nat:=wAt ps v ((goJ ps m v).getD 0)
def UC(ps:List zr)(m:Nat)(t:N3):Bool:=decide (K6 ps m (pkA ps t)=K6 ps m (pkB ps t))
def OkG(ps:List zr)(m:Nat)(t:N3):Prop:=(goJ ps m (pkA ps t)).isSome=true/\(goJ ps m (pkB ps t)).isSome=true
def zcO(ps:List zr)(m:Nat):Prop:=m<=10000/\∀ t ∈ ovA ps ps.length,(∀ j,j<=m->(wAt ps (pkA ps t) j).length<=10000)/\∀ j,j<=m->(wAt ps (pkB ps t) j).length<=10000
theorem KZ{ps:List zr}{t:N3}{m J1 J2:Nat}(e1:goJ ps m (pkA ps t)=some J1)(e2:goJ ps m (pkB ps t)=some J2):decide (wAt ps (pkA ps t) J1=wAt ps (pkB ps t) J2)=UC ps m t:=by
 unfold UC K6
 rw[e1,e2]
 rfl
theorem zay{ps:List zr}{m:Nat}{t:N3}(h:goJ ps m (pkA ps t)=none\/goJ ps m (pkB ps t)=none):¬ OkG ps m t:=fun ho=>by
 obtain⟨h1,h2⟩:=ho
 rcases h with h | h
 ·rw[h] at h1
  cases h1
 ·rw[h] at h2
  cases h2
theorem FmOk.nil{ps:List zr}{m:Int}:FmOk ps m fun _=>none:=fun k v e=>by cases e
theorem ZH{F:Addr}{H H':Hp}{P:Program}{w:World}{mp:Str->Option V}{n:Nat}(s:SamT F H H')(hF:H F=some (jp P w F mp n)):∀{ts:List N3} {vs:List V},Iss K H (ts.map d3) vs->Iss K H' (ts.map d3) vs
 | [],vs,h=>by simp only[aN,Iss] at h ⊢;exact h
 | t::ts,vs,h=>by
  simp only[aC,Iss] at h ⊢
  obtain⟨v,r,e,h3,h4⟩:=h
  refine⟨v,r,e,?_,ZH s hF h4⟩
  simp only[d3,Is] at h3 ⊢
  obtain⟨a,xs,e1,e2,e3⟩:=h3
  refine⟨a,xs,e1,qw s hF e2,?_⟩
  simp only[Iss,Is] at e3 ⊢
  exact e3
def unG(ps:List zr)(m:Nat):List N3:=(ovA ps ps.length).filter fun t=>!UC ps m t
def vS(K:oO)(CH CF:Addr):Sp:=fun vs H Q E=>∃(y o q:Addr) (ps:List zr) (m:Nat),vs=[.ref y,.int (m:Nat)]/\Qq K CH H y o q ps/\NeL ps/\jb ps/\(ovA ps ps.length).length<=4000/\zcO ps m /\
 ((∀ t ∈ ovA ps ps.length,OkG ps m t)->∀ D H',Same H H'->H D=none->LsA K H' D ((unG ps m).map d3)->Q (.ref D) H')/\(∀ t ∈ ovA ps ps.length,¬ OkG ps m t->∀ H',Same H H'->E (.ref CF) none H')
theorem mQ:zq ["system","most","rules","forms"] ["system","most"] (zb x0):=⟨rfl,rfl,rfl,by decide +kernel,rfl,by decide +kernel,by decide +kernel⟩
theorem U1{f CF CH:Addr}{fd:FuncData}{dV:Value}(B:Bt mg)(TS:zap K mg CH)(F:FunD K "unmet" "unmet" x0 dV f fd)(nY:Df P w K mg base CX0 2 "overlaps" ["rules"] [] (wA K))(om:Df P w K mg base (CXx P w) 6 "is_met" ["rules","overlap","most","forms"] [] (qf P w K CF))(M_system_rules_told:DM P w K mg base CX0 1 CH "rules_told" ["self"] (ky K CH)):FnOk P w K mg base (CXx P w) 7 f fd ["system","most"] (vS K CH CF):=by
 refine FunD.okX F mQ (fun vs H Q E h=>?_) (fun cdv A outer s H vs Q E hr hx h=>?_)
 ·obtain⟨y,o,q,ps,m,rfl,_⟩:=h
  rfl
 ·obtain⟨y,o,q,ps,m,rfl,hy,hN,hok,hlen,hE,k1,k2⟩:=h
  refine⟨_,(zi (zt (i:=2) mQ.nd rfl (Or.inr rfl) (me0 M_system_rules_told TS.cl hr (pv 0)))
   (zi (zt (i:=3) mQ.nd rfl (Or.inr rfl) KR)
   (zh (zx (W6 (EX:=E) (own:=["overlap"]) (caps:=["rules","most","forms"]) (ix:=[2,1,3]) (tt:=(zbx (tBl (jt (qf P w K CF) [] E (zP (xx 1) (zP (xx 0) (zP (xx 2) (zP (xx 3) vf)))))))) (te:=(xx 0)) rfl (yb (sc:=zb x0) rfl (by decide +kernel) (by decide +kernel) (by decide +kernel) rfl (by decide +kernel) (by decide +kernel) rfl) ⟨rfl,rfl⟩ hx (yC (cl0 nY hr .nil rfl (za (pv 2) ze))) (fun _ _ _ _ _ _=>zC (i:=0) (show List.Nodup [_,_,_,_] by decide) rfl (Or.inl rfl)) (fun _ _ _ _ _ _ _ hx'=>(Uu (yn (xz (clP hx' om hr .nil rfl (za (pv 1) (za (pv 0) (za (pv 2) (za (pv 3) ze))))) (fun _=>rfl))))) (fun _ _ _ _ _ _ _ _=>(pv 0))))))),?_⟩
  have s16:=ym
  have s16:=ym
  obtain⟨dx,xs0,h1,h2,h3⟩:=id hy
  refine zj (fun σ H'=>Same H H'/\∃ r:Addr,LsA K H' r (ps.map dR)/\σ=[some (.ref y),some (.int (m:Nat)),some (.ref r),none]) ?_ ?_
  ·rfl'
   exact⟨_,_,h1,rfl,y,o,q,ps,rfl,hy,fun r H1 s1 hA hr'=>⟨s1,r,hA,rfl⟩⟩
  rintro σ H1 ⟨s1,r,hA,rfl⟩
  refine zj (fun σ H'=>Same H H'/\LsA K H' r (ps.map dR)/\∃ F:Addr,H F=none/\H' F=some (jp P w F (fun _=>none) 0)/\σ=[some (.ref y),some (.int (m:Nat)),some (.ref r),some (.ref F)]) ?_ ?_
  ·rfl'
   simp only[zaD]
   intro F hF
   have s2:=zd (o:=jp P w F (fun _=>none) 0) hF
   rfl'
   exact⟨s1.trans s2,hA.same s2,F,s1.free hF,zf,rfl⟩
  rintro σ H2 ⟨s2,hA2,F,hF0,hF,rfl⟩
  rfl'
  refine ZS hA2.is hok fun O H3 hO s3 hL=>⟨O,rfl,?_,fun D hD=>?_⟩
  ·obtain⟨xs,hX,_⟩:=hL
   exact⟨_,SqL.of hX⟩
  obtain⟨xs,hX,hI⟩:=hL
  have hxl:=hI.len
  rw[ae] at hxl
  have hF3:=s3 _ _ hF
  have s03:=s2.trans s3
  have hDF:D≠F:=fun z=>by rw[z,hF3] at hD;cases hD
  have hOF:O≠F:=fun z=>by rw[z,hF3] at hX;cases hX
  have back:∀{G:Hp},SamT F H3 G->Same H G:=fun {G} sT b o' e=>sT b o' (fun z=>by rw[z,hF0] at e;cases e) (s03 b o' e)
  refine CompL.by (xs:=xs) (fun i acc H'=>SamT F H3 H'/\H' D=some (.lst acc)/\(∃(mp:Str->Option V) (n:Nat),H' F=some (jp P w F mp n)/\FmOk ps (m:Nat) mp/\n<=2 * i)/\Iss K H3 ((((ovA ps ps.length).take i).filter fun t=>!UC ps m t).map d3) acc/\∀ t ∈ (ovA ps ps.length).take i,OkG ps m t) ⟨SamT.of (zd hD),zf,⟨_,0,by rw[zo (fun z=>hDF z.symm)];exact hF3,FmOk.nil,by omega⟩,by simp only[bA,dc,aN,Iss],fun t ht=>by simp at ht⟩ (fun i acc H' _ h=>SqL.of (h.1 _ _ hOF hX)) ?_ ?_
  ·rintro i x acc H' hx ⟨sT,hH,⟨mp,n,hFm,hM,hn⟩,hI',hle⟩
   have hil:=(List.getElem?_eq_some_iff.mp hx).1
   obtain⟨t,p,ht,rfl,hp⟩:=hI.get3 hx
   have htm:=af ht
   have hE':=hE.2 t htm
   have hal:acc.length<=i:=by
    have:=hI'.len
    rw[ae] at this
    have h5:=cQ (fun t=>!UC ps m t) ((ovA ps ps.length).take i)
    rw[aK] at h5
    omega
   simp only[zbx,tBl]
   rfl'
   refine⟨wD,r,p,F,ps,t,(m:Nat),n,mp,_,_,rfl,Xi sT hF3 (hA2.same s3),hN,hok,qw sT hF3 hp,htm,hFm,hM,by omega,Us hE'.1 hE.1,Us hE'.2 hE.1,fun J1 J2 mp' n' H5 e1 e2 s5 hF5 hM5 hn5=>?_,fun h H5 s5=>k2 t htm (zay h) H5 (back (sT.trans s5))⟩
   have hle':∀ t' ∈ (ovA ps ps.length).take (i+1),OkG ps m t':=fun t' ht'=>by
    rw[zW ht] at ht'
    rcases List.mem_append.mp ht' with h | h
    ·exact hle t' h
    ·rw[List.mem_singleton.mp h]
     exact⟨by rw[e1];rfl,by rw[e2];rfl⟩
   rw[KZ e1 e2]
   have hcase:∀ b,UC ps m t=b->(!b)=true->Iss K H3 ((((ovA ps ps.length).take (i+1)).filter fun t=>!UC ps m t).map d3) (acc ++ [.ref p]):=fun b hb hb'=>by
    rw[zW ht,cN,aH]
    refine Iss.append hI' ?_
    rw[ef,hb,if_pos hb']
    simp only[dc,aC,aN,Iss]
    refine⟨_,[],rfl,?_,rfl⟩
    simp only[d3,Is,Iss]
    exact⟨p,_,rfl,hp,_,_,rfl,rfl,_,_,rfl,rfl,_,_,rfl,rfl,rfl⟩
   refine⟨_,rfl,?_⟩
   cases hb:UC ps m t with
   | false =>
    rw[if_pos rfl]
    refine⟨s5 _ _ hDF hH,by omega,CNx.mk hil ⟨fun b o' hbF e=>?_,zf,⟨mp',n',by rw[zo (fun z=>hDF z.symm)];exact hF5,hM5,by omega⟩,hcase _ hb rfl,hle'⟩⟩
    rw[zo (fun z=>by rw[z,hD] at e;cases e)]
    exact s5 b o' hbF (sT b o' hbF e)
   | true =>
    rw[if_neg (by decide)]
    refine CNx.mk hil ⟨sT.trans s5,s5 _ _ hDF hH,⟨mp',n',hF5,hM5,by omega⟩,?_,hle'⟩
    rw[zW ht,cN,ef,hb]
    simp only[Bool.not_true,bO,if_false,dc,aS]
    exact hI'
  ·rintro acc H' ⟨sT,hH,_,hI',hle⟩
   rw[hxl,aQ] at hI' hle
   exact k1 hle D H' (back sT) (s03.free hD) ⟨acc,hH,ZH sT hF3 hI'⟩
theorem zbV{p:Addr}{a b:V}{i j:Nat}{σ:L2.St}{H:Hp}{R:L2.St->Hp->Prop}(h:SqT K H p [a,b])(k:R ((σ.set i (some a)).set j (some b)) H):K8 K 2 (km (xA i) (km (xA j) zad)) (.ref p) σ H R:=by
 simp only[K8,km,xA,zad]
 first
 | exact⟨_,_,rfl,h,rfl,_,_,rfl,_,_,rfl,rfl,k⟩
 | exact⟨_,_,rfl,.inr h,rfl,_,_,rfl,_,_,rfl,rfl,k⟩
theorem EnsA.app{H:Hp}{fs:List Ent}{us:List V}(hf:EnsA K H fs us):∀{es:List Ent} {vs:List V},EnsA K H es vs->EnsA K H (es ++ fs) (vs ++ us)
 | [],vs,h=>by
  simp only[EnsA] at h
  subst h
  exact hf
 | e::es,vs,h=>by
  simp only[EnsA] at h
  obtain⟨x,r,rfl,hx,hr⟩:=h
  simp only[bF,EnsA]
  exact⟨x,r ++ us,rfl,hx,hf.app hr⟩
abbrev MkS(P:Program)(w:World)(K:oO)(mg:Str->Option Value)(base:Heap)(CO CR CW CT CH:Addr):Prop:=DMk P w K mg base (CXx P w) 5 CH ["self","order","rules"] (uW K CO CR CW CT CH)
theorem JO{H:Hp}{Q:Addr->Hp->Prop}{CO CR CW CT CH o a:Addr}{k:Nat}{l:List Nat}{ns:List Int}{ps:List zr}(ho:OrdAt CO CR CW H o k l ns)(hG:OG l ns k)(hA:LsA K H a (ps.map dR))(hin:InL l ps)(hf:wH k l ns ps 0=none)(q:∀(y qa:Addr) (H':Hp),Same H H'->Qq K CH H' y o qa ps->Q y H'):∀ x dx,H x=none->H dx=none->dx≠x->uW K CO CR CW CT CH [.ref x,.ref o,.ref a] (upd (upd H dx (.own x)) x (.ins CH dx [])) (fun v H'=>v=.non/\Q x H') E0:=by
 intro x dx hx hdx hne
 obtain⟨xs,hX,hI⟩:=hA
 have sd:=zd (o:=.own x) hdx
 have k1:Same H (upd (upd H dx (.own x)) x (.ins CH dx [])):=fun b' o' e=>by
  rw[zo (zH e hx)]
  exact sd _ _ e
 refine⟨x,dx,o,a,k,l,ns,ps,xs,rfl,zf,ho.same k1,hG,k1 _ _ hX,Iss.same k1 _ _ hI,hin,(fun i e=>by rw[hf] at e;cases e),fun _ q1 H'' kp hx' hq' hqn=>⟨rfl,?_⟩⟩
 have k3:Same H H'':=fun b' o' e=>kp b' o' (fun z=>by rw[z,hx] at e;cases e) (k1 _ _ e)
 exact q x q1 H'' k3 ⟨dx,xs,hx',hq',Iss.same k3 _ _ hI⟩
theorem BG.inL{k:Nat}{l:List Nat}{ns:List Int}{bs:List Ent}(h:BG k l ns bs):InL l (zc bs):=fun p hp=>by
 obtain⟨e,he,rfl⟩:=List.mem_map.mp hp
 have b:=h.e e he
 exact⟨aO b.a (by decide),aO b.b (by decide),b.ma,b.mb⟩
theorem BG.fault{k:Nat}{l:List Nat}{ns:List Int}{bs:List Ent}(h:BG k l ns bs):wH k l ns (zc bs) 0=none:=vZ fun m p e=>by
 obtain⟨e',he,rfl⟩:=List.mem_map.mp (af e)
 exact h.lt e' he
def j5(K:oO)(CO CR CW CH:Addr):Sp:=fun vs H Q _=>∃(o a:Addr) (k:Nat) (l:List Nat) (ns:List Int) (bs:List Ent),vs=[.ref o,.ref a]/\OrdAt CO CR CW H o k l ns/\OG l ns k/\EnsL K H a bs/\BG k l ns bs/\∀(y qa:Addr) (H':Hp),Same H H'->Qq K CH H' y o qa (zc bs)->Q (.ref y) H'
theorem Zs:zq ["order","entries"] ["order","entries"] (zb xl):=⟨rfl,rfl,rfl,by decide +kernel,rfl,by decide +kernel,by decide +kernel⟩
theorem Zx{f CO CR CW CT CH:Addr}{fd:FuncData}(B:Bt mg)(TS:zap K mg CH)(MS:MkS P w K mg base CO CR CW CT CH)(F:Fun K "system_by" "system_by" xl f fd)(gg:Df P w K mg base CX0 1 "pairs_of" ["entries"] [] (wx K)):FnOk P w K mg base CX0 7 f fd ["order","entries"] (j5 K CO CR CW CH):=by
 refine F.ok Zs (fun vs H Q E h=>?_) (fun cdv A outer s H vs Q E hr h=>?_)
 ·obtain⟨o,a,k,l,ns,bs,rfl,_⟩:=h
  rfl
 ·obtain⟨o,a,k,l,ns,bs,rfl,ho,hG,hA,hB,q⟩:=h
  refine⟨_,(zh (zx (zcI xe0 MS hr rfl TS.g (za (pv 0) (za (cl0 gg hr .nil rfl (za (pv 1) ze)) ze))))),?_⟩
  have s16:=ym
  repeat (first | rfl' | simp only[yx,zA,zJ,yz,yA,zy])
  refine wN hA.is (by have:=hB.n;omega) fun D H' _ s' hL=>?_
  exact JO (ho.same s') hG hL hB.inL hB.fault fun y qa H'' s'' hy=>q y qa H'' (s'.trans s'') hy
def fE(i:Nat)(p:zr):Ent:=(p.1,p.2,[((i:Int),(0:Int),true)])
def fEs(rs:List zr):Nat->List Ent
 | 0=>[]
 | n+1=>fEs rs n ++ ((rs[n]?).map (fE n)).toList
theorem Qb{rs:List zr}{n:Nat}{p:zr}(h:rs[n]? = some p):fEs rs (n+1)=fEs rs n ++ [fE n p]:=by
 show fEs rs n ++ ((rs[n]?).map (fE n)).toList=_
 rw[h]
 rfl
theorem VF(rs:List zr):∀ n,(fEs rs n).length<=n
 | 0=>au _
 | n+1=>by
  have:=VF rs n
  show (fEs rs n ++ ((rs[n]?).map (fE n)).toList).length<=_
  rw[am]
  cases rs[n]? with
  | none=>simp;omega
  | some p=>simp;omega
theorem ke{rs:List zr}:∀{n:Nat} {e:Ent},e ∈ fEs rs n->∃ i p,i<n/\rs[i]? = some p/\e=fE i p
 | 0,e,h=>(nomatch h)
 | n+1,e,h=>by
  have h':e ∈ fEs rs n ++ ((rs[n]?).map (fE n)).toList:=h
  rcases List.mem_append.mp h' with h | h
  ·obtain⟨i,p,hi,hp,he⟩:=ke h
   exact⟨i,p,by omega,hp,he⟩
  ·cases hn:rs[n]? with
   | none=>rw[hn] at h;simp at h
   | some p =>
    rw[hn] at h
    exact⟨n,p,by omega,hn,by simpa using h⟩
def kr(K:oO):Sp:=fun vs H Q _=>∃(a:Addr) (rs:List zr),vs=[.ref a]/\LsA K H a (rs.map dR)/\rs.length<=20/\∀(D:Addr) (H':Hp),Same H H'->H D=none->EnsM K H' D (fEs rs rs.length)->Q (.ref D) H'
theorem uM:zq ["pacts"] ["pacts"] (zb zV):=⟨rfl,rfl,rfl,by decide +kernel,rfl,by decide +kernel,by decide +kernel⟩
theorem uK{f:Addr}{fd:FuncData}(B:Bt mg)(F:Fun K "first_entries" "first_entries" zV f fd) : FnOk P w K mg base CX0 1 f fd ["pacts"] (kr K):=by
 refine F.ok uM (fun vs H Q E h=>?_) (fun cdv A outer s H vs Q E hr h=>?_)
 ·obtain⟨a,rs,rfl,_⟩:=h
  rfl
 ·obtain⟨a,rs,rfl,hA,hrl,q⟩:=h
  refine⟨_,(zh (zx (xY (g:=K8 K 2 (km (xA 0) (km (xA 1) zad))) (own:=["number","pact"]) (caps:=[]) (ix:=[]) (tt:=vT) (te:=(Uz (zP (tOp (uO K) (xx 1) (tC (.int 0))) (zP (tOp (uO K) (xx 1) (tC (.int 1))) (zP (zcq (zP (Uz (zP (xx 0) (zP (tC (.int 0)) (zP (tC (.bl true)) vf)))) vf)) vf))))) rfl (yb (sc:=zb zV) rfl (by decide +kernel) (by decide +kernel) (by decide +kernel) rfl (by decide +kernel) (by decide +kernel) rfl) (w9 rfl B.enum (za (pv 0) ze)) (fun _ _ _ _ _ _=>uC (n:=2) rfl (z8 (zC (i:=0) (show List.Nodup [_,_] by decide) rfl (Or.inl rfl)) (z8 (zC (i:=1) (show List.Nodup [_,_] by decide) rfl (Or.inl rfl)) wT))) (fun _ _ _ _ _ _=>xv) (fun _ _ _ _ _ _=>(z9 (za (zw ix_tup (pv 1) zg (fun _ _=>rfl)) (za (zw ix_tup (pv 1) zg (fun _ _=>rfl)) (za (xR (za (z9 (za (pv 0) (za zg (za xM ze)))) ze)) ze)))))))),?_⟩
  have s16:=ym
  have s16:=ym
  obtain⟨xs,hX,hI⟩:=id hA
  have hxl:=hI.len
  rw[ae] at hxl
  repeat (first | rfl' | simp only[yx,zA,zJ,yz,yA,zy])
  rw[zah]
  repeat (first | rfl' | simp only[yx,zA,zJ,yz,yA,zy])
  refine⟨⟨_,SqL.of hX⟩,fun D hD=>CompEL.by (xs:=xs) (fun i acc H'=>Same H H'/\H' D=some (.lst acc)/\acc.length<=i/\EnsA K (ju D H') (fEs rs i) acc) ⟨zd hD,zf,au _,rfl⟩ (fun i acc H' _ h=>SqL.of (h.1 _ _ hX)) ?_ ?_⟩
  ·rintro i x acc H' p hx ⟨hs,hH,hal,hEn⟩ hp
   have hil:=(List.getElem?_eq_some_iff.mp hx).1
   obtain⟨r,pr,hri,rfl,hqr⟩:=hI.getR hx
   have u1:=zd (o:=HO.tup [.int (i:Nat),.ref pr]) hp
   have hq:=zl (hs.trans u1) hqr
   refine zbV (SqT.of zf) ?_
   simp only[vT]
   rfl'
   refine⟨Q4,_,hq,_,rfl,_,hq,_,rfl,by omega,fun p1 hp1=>⟨by omega,fun p2 hp2=>⟨by omega,fun p3 hp3=>?_⟩⟩⟩
   have u2:=zd (o:=HO.tup [.int (i:Nat),.int 0,.bl true]) hp1
   have u3:=zd (o:=HO.lst [.ref p1]) hp2
   have u4:=zd (o:=HO.tup [.str (tx r.1),.str (tx r.2),.ref p2]) hp3
   have u:=u1.trans (u2.trans (u3.trans u4))
   have hD4:=u _ _ hH
   have hp2D:p2≠D:=fun z=>by rw[z,u2 _ _ (u1 _ _ hH)] at hp2;cases hp2
   refine⟨hD4,by omega,CNx.mk hil ⟨zG (hs.trans u) hD,zf,by rw[am];simp only[aM,cw];omega,?_⟩⟩
   rw[Qb hri]
   refine (hEn.same ((wP u).trans xS)).snoc (EnA.same ?_ xS)
   refine EnA.new (e:=fE i r) hD4 zf ⟨_,u4 _ _ zf,?_⟩ hp2D
   show Iss K _ [dSt ((i:Int),(0:Int),true)] _
   exact VX (jL (SqT.of (u4 _ _ (u3 _ _ zf))))
  ·rintro acc H' ⟨hs,hH,hal,hEn⟩
   rw[hxl] at hEn
   exact q D H' hs hD ⟨acc,hH,hEn.same wX⟩
def jR(es:List Ent):Bool:=decide (12<es.length) || es.any fun e=>decide (10<max e.1.length e.2.1.length)
structure TMc(mg:Str->Option Value):Prop where
 u:∃ t,mg "MOST_USES_completing" = some (.int 40 t)
 e:∃ t,mg "MOST_ENTRIES" = some (.int 12 t)
 d:∃ t,mg "MOST_SIDE_completing" = some (.int 10 t)
 p:∃ t,mg "MOST_PEAKS" = some (.int 8 t)
def jk(K:oO):Sp:=fun vs H Q _=>∃(a:Addr) (es:List Ent),vs=[.ref a]/\EnsL K H a es/\es.length<64/\(∀ e ∈ es,e.1.length<=10000/\e.2.1.length<=10000)/\∀ H',Same H H'->Q (.bl (jR es)) H'
theorem Zf:zq ["entries"] ["entries"] (zb yI):=⟨rfl,rfl,rfl,by decide +kernel,rfl,by decide +kernel,by decide +kernel⟩
theorem ZM{f:Addr}{fd:FuncData}(B:Bt mg)(hany:zdu mg)(TM:TMc mg)(F:Fun K "is_beyond" "is_beyond" yI f fd) : FnOk P w K mg base CX0 1 f fd ["entries"] (jk K):=by
 obtain⟨⟨t9,g9⟩,⟨t8,g8⟩⟩:=And.intro TM.e TM.d
 refine F.ok Zf (fun vs H Q E h=>?_) (fun cdv A outer s H vs Q E hr h=>?_)
 ·obtain⟨a,es,rfl,_⟩:=h
  rfl
 ·obtain⟨a,es,rfl,hA,hl,hE,q⟩:=h
  refine⟨_,(zi (ya (zI qx (zp zX rfl B.len aB (za (pv 0) ze)) (xh (v:=.int 12) rfl g9 ⟨t9,rfl⟩) (zK _))
    (zh (zx xM))
    zD)
   (zh (zx (zp (zb8 rfl) rfl hany PyProof.Rows.boot_any (za (xY (own:=["entry"]) (caps:=[]) (ix:=[]) (tt:=vT) (te:=(tOp zbU (tCB KI (zP (tCB (zae K) (zP (tOp (uO K) (xx 0) (tC (.int 0))) vf)) (zP (tCB (zae K) (zP (tOp (uO K) (xx 0) (tC (.int 1))) vf)) vf))) (tC (.int 10)))) rfl (yb (sc:=zb yI) rfl (by decide +kernel) (by decide +kernel) (by decide +kernel) rfl (by decide +kernel) (by decide +kernel) rfl) (yC (pv 0)) (fun _ _ _ _ _ _=>zC (i:=0) (show List.Nodup [_] by decide) rfl (Or.inl rfl)) (fun _ _ _ _ _ _=>xv) (fun _ _ _ _ _ _=>(ui qx (zp (Uk rfl) rfl B.max u8 (za (zp zX rfl B.len aB (za (zw ix_tup (pv 0) zg (fun _ _=>rfl)) ze)) (za (zp zX rfl B.len aB (za (zw ix_tup (pv 0) zg (fun _ _=>rfl)) ze)) ze))) (xh (v:=.int 10) rfl g8 ⟨t8,rfl⟩) (zK _)))) ze))))),?_⟩
  have s16:=ym
  have s16:=ym
  obtain⟨xs,hX,hEn⟩:=id hA
  have hxl:=hEn.len
  refine zj (fun σ H'=>H'=H/\¬ 12<es.length/\σ=[some (.ref a)]) ?_ ?_
  ·repeat (first | rfl' | simp only[yx,zA,zJ,yz,yA,zy])
   refine⟨_,.inl ⟨_,hX,rfl⟩,xj (fun h=>?_) fun h=>by omega⟩
   have e:jR es=true:=by
    unfold jR
    rw[decide_eq_true (by omega),Bool.true_or]
   rw[<- e]
   exact q H (Same.refl _)
  rintro σ H1 ⟨rfl,h12,rfl⟩
  repeat (first | rfl' | simp only[yx,zA,zJ,yz,yA,zy])
  refine⟨⟨_,hX⟩,fun D hD=>CompL.by (xs:=xs) (fun i acc H'=>Same H1 H'/\H' D=some (.lst acc)/\acc=((es.take i).map fun e=>decide (10<max e.1.length e.2.1.length)).map V.bl) ⟨zd hD,zf,rfl⟩ (fun i acc H' _ h=>h.1.seq hX) ?_ ?_⟩
  ·rintro i x acc H' hx ⟨hs,hH,rfl⟩
   have hil:=(List.getElem?_eq_some_iff.mp hx).1
   obtain⟨e,p,s,he,rfl,hp,_⟩:=hEn.get hx
   have hq:=zl hs hp
   have hb:=hE e (af he)
   simp only[vT]
   rfl'
   refine⟨wD,_,hq,_,rfl,_,⟨by rw[ye];omega,rfl⟩,_,hq,_,rfl,_,⟨by rw[ye];omega,rfl⟩,hH,by rw[ae,ae,aK];omega,CNx.mk hil ⟨zG hs hD,zf,?_⟩⟩
   rw[zW he,aH,aH,ye,ye]
   congr 1
   show [V.bl _]=[V.bl _]
   congr 2
   refine decide_eq_decide.mpr ?_
   split <;> omega
  ·rintro acc H' ⟨hs,hH,rfl⟩
   rw[hxl,aQ] at hH
   refine⟨D,_,rfl,SqL.of hH,?_⟩
   have e:(es.map fun e=>decide (10<max e.1.length e.2.1.length)).any id=jR es:=by
    unfold jR
    rw[decide_eq_false h12,Bool.false_or,List.any_map]
    rfl
   rw[e]
   exact q H' hs
theorem kM{es:List Ent}(h:jR es=false):es.length<=12/\∀ e ∈ es,e.1.length<=10/\e.2.1.length<=10:=by
 unfold jR at h
 rw[Bool.or_eq_false_iff] at h
 refine⟨by have:=of_decide_eq_false h.1;omega,fun e he=>?_⟩
 have:=List.any_eq_false.mp h.2 e he
 have h2:¬ 10<max e.1.length e.2.1.length:=fun z=>this (decide_eq_true z)
 omega
def V5(K:oO)(CO CR CW T:Addr):Sp:=fun vs H Q _=>∃(o a:Addr) (k:Nat) (l:List Nat) (ns:List Int) (es:List Ent),vs=[.ref o,.ref a]/\OrdAt CO CR CW H o k l ns/\OG l ns k/\EnsL K H a es/\es.length<64/\(∀ e ∈ es,EB l e)/\TabOk H T lp lq /\
 (∀(bs:List Ent) (D:Addr) (H':Hp),vU k l ns 20 es (some bs)->BG k l ns bs->jR bs=false->SamT T H H'->TabOk H' T lp lq->EnsM K H' D bs->Q (.ref D) H')/\((vU k l ns 20 es none\/∃ bs,vU k l ns 20 es (some bs)/\jR bs=true)->∀ H',SamT T H H'->TabOk H' T lp lq->Q .non H')
structure zcG(K:oO)(CF:Addr):Prop where
 s:cJ K (.ref CF) (.ref CF)=some true
theorem lc:zq ["order","entries","slim"] ["order","entries"] (zb zZ):=⟨rfl,rfl,rfl,by decide +kernel,rfl,by decide +kernel,by decide +kernel⟩
theorem um{f CO CR CW TB CF:Addr}{fd:FuncData}(B:Bt mg)(TFx:K7 K mg CF)(TSb:zcG K CF)(F:Fun K "thinned_within" "thinned_within" zZ f fd)(og:Df P w K mg base (CXx P w) 7 "thinned" ["order","entries"] [] (Yc K CO CR CW TB CF))(nU:Df P w K mg base CX0 1 "is_beyond" ["entries"] [] (jk K)):FnOk P w K mg base CX0 8 f fd ["order","entries"] (V5 K CO CR CW TB):=by
 refine F.ok lc (fun vs H Q E h=>?_) (fun cdv A outer s H vs Q E hr h=>?_)
 ·obtain⟨o,a,k,l,ns,es,rfl,_⟩:=h
  rfl
 ·obtain⟨o,a,k,l,ns,es,rfl,ho,hG,hA,hz,hE,hTab,q1,q2⟩:=h
  refine⟨_,(zi (Qi (i:=2) (th:=(zbA (tC .non))) lc.nd rfl (Or.inl rfl) (.inl rfl) ⟨rfl,rfl⟩ (clX og hr .nil rfl (za (pv 0) (za (pv 1) ze))) rfl TFx.g TFx.xi.ok (fun e=>(zh (zx wl))))
   (zh (zx (kF (xz (cl0 nU hr .nil rfl (za (pv 2) ze)) (fun _=>rfl)) wl (pv 2))))),?_⟩
  have s16:=ym
  have s16:=ym
  refine zj (fun σ H'=>SamT TB H H'/\TabOk H' TB lp lq/\∃(bs:List Ent) (D:Addr),vU k l ns 20 es (some bs)/\BG k l ns bs/\EnsM K H' D bs/\σ=[some (.ref o),some (.ref a),some (.ref D)]) ?_ ?_
  ·simp only[QX]
   repeat (first | rfl' | simp only[yx,zA,zJ,yz,yA,zy])
   exact⟨o,a,k,l,ns,es,rfl,ho,hG,hA,hz,hE,hTab,fun bs D H' h1 h2 h3 h4 h5=>⟨h3,h4,bs,h1,h2,D,h5,rfl⟩,fun h H' h3 h4=>⟨CF,rfl,TSb.s,fun x hx=>q2 (.inl h) _ (h3.trans (SamT.of (zd hx))) (h4.same (zd hx))⟩⟩
  rintro σ H1 ⟨s1,hT1,bs,D,hTh,hB,hM,rfl⟩
  repeat (first | rfl' | simp only[yx,zA,zJ,yz,yA,zy])
  exact⟨D,bs,rfl,hM.l,hB.n,fun e he=>⟨aO (hB.e e he).a (by decide),aO (hB.e e he).b (by decide)⟩,fun H' s'=>⟨_,rfl,xj (fun h=>q2 (.inr ⟨bs,hTh,h⟩) H' (s1.trans (SamT.of s')) (hT1.same s')) fun h=>q1 bs D H' hTh hB (by simpa using h) (s1.trans (SamT.of s')) (hT1.same s') (hM.same s')⟩⟩
theorem qe(w:List Nat)(k:Int)(o n:List Nat):(yS w k o n).length<=w.length+n.length:=by
 unfold yS
 rw[am,am,aK,br]
 omega
theorem BG.ok{k:Nat}{l:List Nat}{ns:List Int}{bs:List Ent}(h:BG k l ns bs)(hl:bs.length<=30):jb (zc bs):=by
 refine⟨by unfold zc;rw[ae];exact hl,fun r hr=>?_⟩
 obtain⟨e,he,rfl⟩:=List.mem_map.mp hr
 exact⟨aO (h.e e he).a (by decide),aO (h.e e he).b (by decide)⟩
theorem za2{ps:List zr}(hok:∀ r ∈ ps,r.1.length<=60/\r.2.length<=60){t:N3}(ht:t ∈ ovA ps ps.length):(pkA ps t).length<=180/\(pkB ps t).length<=180:=by
 obtain⟨i1,i2,i3,i4⟩:=ut ht
 obtain⟨r,hr⟩:∃ r,ps[t.1]? = some r:=⟨_,al i1⟩
 obtain⟨r2,hr2⟩:∃ r,ps[t.2.1]? = some r:=⟨_,al i2⟩
 have l1:=wE hr
 have l2:=wE hr2
 have d1:ps.getD t.1 ([],[])=r:=by rw[ac,hr];rfl
 have d2:ps.getD t.2.1 ([],[])=r2:=by rw[ac,hr2];rfl
 rw[l1] at i3
 have b1:=hok r (af hr)
 have b2:=hok r2 (af hr2)
 have hp:=wS r.1 r2.1 t.2.2 (by omega)
 have p1:=qe (yc r.1 r2.1 t.2.2) 0 r.1 r.2
 have p2:=qe (yc r.1 r2.1 t.2.2) (t.2.2:Nat) r2.1 r2.2
 unfold pkA pkB
 rw[l1,l2,d1,d2]
 omega
theorem zaw{ps:List zr}(hN:NeL ps)(hok:∀ r ∈ ps,r.1.length<=60/\r.2.length<=60):zcO ps 40:=by
 refine⟨by decide,fun t ht=>?_⟩
 obtain⟨h1,h2⟩:=za2 hok ht
 have key:∀(v:List Nat),v.length<=180->∀ j,j<=40->(wAt ps v j).length<=10000:=fun v hv j hj=>by
  have:=qC (l:=v) hN (fun p hp=>(hok p hp).2) j
  have h3:j * 60<=40 * 60:=Nat.mul_le_mul hj (au _)
  omega
 exact⟨key _ h1,key _ h2⟩
def WR(K:oO)(CO CR CW:Addr):Sp:=fun vs H Q _=>∃(o a:Addr) (k:Nat) (l:List Nat) (ns:List Int) (bs:List Ent),vs=[.ref o,.ref a]/\OrdAt CO CR CW H o k l ns/\OG l ns k/\EnsL K H a bs/\BG k l ns bs/\bs.length<=30/\(ovA (zc bs) (zc bs).length).length<=4000 /\
 ((∀ t ∈ ovA (zc bs) (zc bs).length,OkG (zc bs) 40 t)->∀ D H',Same H H'->LsA K H' D ((unG (zc bs) 40).map d3)->Q (.ref D) H')/\(∀ t ∈ ovA (zc bs) (zc bs).length,¬ OkG (zc bs) 40 t->∀ H',Same H H'->Q .non H')
theorem qQ:zq ["order","entries"] ["order","entries"] (zb yu):=⟨rfl,rfl,rfl,by decide +kernel,rfl,by decide +kernel,by decide +kernel⟩
theorem qF{f CO CR CW CF CH:Addr}{fd:FuncData}{lT:Tok}(B:Bt mg)(TFx:K7 K mg CF)(TSb:zcG K CF)(TM:TMc mg)(F:Fun K "unmet_within" "unmet_within" yu f fd)(ow:Df P w K mg base (CXx P w) 7 "unmet" ["system","most"] [] (vS K CH CF))(DD_unmet:Df P w K mg base (CXx P w) 7 "unmet" ["system","most"] [.int 4000 lT] (vS K CH CF))(nV:Df P w K mg base CX0 7 "system_by" ["order","entries"] [] (j5 K CO CR CW CH)):FnOk P w K mg base CX0 9 f fd ["order","entries"] (WR K CO CR CW):=by
 obtain⟨t9,g9⟩:=TM.u
 refine F.ok qQ (fun vs H Q E h=>?_) (fun cdv A outer s H vs Q E hr h=>?_)
 ·obtain⟨o,a,k,l,ns,bs,rfl,_⟩:=h
  rfl
 ·obtain⟨o,a,k,l,ns,bs,rfl,ho,hG,hA,hB,hbl,hol,q1,q2⟩:=h
  refine⟨_,(zh (UJ (th:=(zbA (tC .non))) ⟨rfl,rfl⟩ (clX ow hr .nil rfl (za (cl0 nV hr .nil rfl (za (pv 0) (za (pv 1) ze))) (za (xh (v:=.int 40) rfl g9 ⟨t9,rfl⟩) ze))) rfl TFx.g TFx.xi.ok (fun e=>(zh (zx wl))))),?_⟩
  have s16:=ym
  have s16:=ym
  simp only[Jg]
  repeat (first | rfl' | simp only[yx,zA,zJ,yz,yA,zy])
  have hsd:∀ r ∈ zc bs,r.1.length<=60/\r.2.length<=60:=fun r hr=>by
   obtain⟨e,he,rfl⟩:=List.mem_map.mp hr
   exact⟨(hB.e e he).a,(hB.e e he).b⟩
  exact⟨o,a,k,l,ns,bs,rfl,ho,hG,hA,hB,fun y qa H' s' hy=>⟨y,o,qa,zc bs,40,rfl,hy,hB.ne hG,hB.ok hbl,hol,zaw (hB.ne hG) hsd,fun h D H'' s'' _ hL=>q1 h D H'' (s'.trans s'') hL,fun t ht h H'' s''=>⟨CF,rfl,TSb.s,fun x hx=>q2 t ht h _ (s'.trans (s''.trans (zd hx)))⟩⟩⟩
def jq(es:List Ent)(t:N3):Ent:=(pkA (zc es) t,pkB (zc es) t,byL es [((t.1:Int),(0:Int),false),((t.2.1:Int),(t.2.2:Int),true)])
def uQ(K:oO):Sp:=fun vs H Q _=>∃(a t:Addr) (es:List Ent) (tr:N3),vs=[.ref a,.ref t]/\EnsL K H a es/\SqT K H t [.int (tr.1:Nat),.int (tr.2.1:Nat),.int (tr.2.2:Nat)]/\tr ∈ ovA (zc es) (zc es).length/\jb (zc es)/\(∀ e ∈ es,e.2.2.length<=600)/\∀(p s:Addr) (H':Hp),Same H H'->H' p=some (.tup [.str (tx (jq es tr).1),.str (tx (jq es tr).2.1),.ref s])->LsA K H' s ((jq es tr).2.2.map dSt)->H s=none->Q (.ref p) H'
theorem lM:zq ["entries","overlap","sides","steps"] ["entries","overlap"] (zb xB):=⟨rfl,rfl,rfl,by decide +kernel,rfl,by decide +kernel,by decide +kernel⟩
theorem Yz{f:Addr}{fd:FuncData}(B:Bt mg)(F:Fun K "entry_of" "entry_of" xB f fd)(nO:Df P w K mg base CX0 4 "peak" ["rules","overlap"] [] (qm K))(lm:Df P w K mg base CX0 2 "by_pacts" ["entries","steps"] [] (Ur K))(gg:Df P w K mg base CX0 1 "pairs_of" ["entries"] [] (wx K)):FnOk P w K mg base CX0 5 f fd ["entries","overlap"] (uQ K):=by
 refine F.ok lM (fun vs H Q E h=>?_) (fun cdv A outer s H vs Q E hr h=>?_)
 ·obtain⟨a,t,es,tr,rfl,_⟩:=h
  rfl
 ·obtain⟨a,t,es,tr,rfl,hA,ht,htr,hok,hst,q⟩:=h
  refine⟨_,(zi (zt (i:=2) lM.nd rfl (Or.inl rfl) (cl0 nO hr .nil rfl (za (cl0 gg hr .nil rfl (za (pv 0) ze)) (za (pv 1) ze))))
   (zi (zt (i:=3) lM.nd rfl (Or.inl rfl) (cl0 lm hr .nil rfl (za (pv 0) (za (xR (za (z9 (za (zw ix_tup (pv 1) zg (fun _ _=>rfl)) (za zg (za xM ze)))) (za (z9 (za (zw ix_tup (pv 1) zg (fun _ _=>rfl)) (za (zw ix_tup (pv 1) zg (fun _ _=>rfl)) (za xM ze)))) ze))) ze))))
   (zh (zx (z9 (za (zw ix_tup (pv 2) zg (fun _ _=>rfl)) (za (zw ix_tup (pv 2) zg (fun _ _=>rfl)) (za (pv 3) ze)))))))),?_⟩
  have s16:=ym
  have s16:=ym
  have hlp:(zc es).length=es.length:=by unfold zc;rw[ae]
  obtain⟨i1,i2,i3,i4⟩:=ut htr
  obtain⟨r,hr1⟩:∃ r,(zc es)[tr.1]? = some r:=⟨_,al i1⟩
  obtain⟨r2,hr2⟩:∃ r,(zc es)[tr.2.1]? = some r:=⟨_,al i2⟩
  have l1:=wE hr1
  have l2:=wE hr2
  have d1:(zc es).getD tr.1 ([],[])=r:=by rw[ac,hr1];rfl
  have d2:(zc es).getD tr.2.1 ([],[])=r2:=by rw[ac,hr2];rfl
  have eA:pkA (zc es) tr=yS (yc r.1 r2.1 tr.2.2) 0 r.1 r.2:=by unfold pkA;rw[l1,l2,d1]
  have eB:pkB (zc es) tr=yS (yc r.1 r2.1 tr.2.2) (tr.2.2:Nat) r2.1 r2.2:=by unfold pkB;rw[l1,l2,d2]
  rw[l1] at i3
  rw[l1,l2] at i4
  refine zj (fun σ H'=>Same H H'/\∃ p:Addr,(∃ x,H' p=some (.tup [x,.str (tx (pkA (zc es) tr)),.str (tx (pkB (zc es) tr))]))/\σ=[some (.ref a),some (.ref t),some (.ref p),none]) ?_ ?_
  ·rfl'
   refine wN hA.is (by have:=hok.1;omega) fun D H1 _ s1 hL=>?_
   exact Y9 hL.is (zl s1 ht) hok hr1 hr2 (by omega) i4 fun p H' _ s' hp=>⟨s1.trans s',p,⟨_,by rw[eA,eB];exact hp⟩,rfl⟩
  rintro σ H1 ⟨s1,p,⟨x,hp⟩,rfl⟩
  refine zj (fun σ H'=>Same H1 H'/\∃ S:Addr,H S=none/\LsA K H' S ((jq es tr).2.2.map dSt)/\σ=[some (.ref a),some (.ref t),some (.ref p),some (.ref S)]) ?_ ?_
  ·have ht1:=zl s1 ht
   rfl'
   refine⟨_,ht1,_,rfl,by omega,fun p1 hp1=>?_⟩
   have u1:=zd (o:=HO.tup [.int (tr.1:Nat),.int 0,.bl false]) hp1
   refine⟨_,zl u1 ht1,_,rfl,_,zl u1 ht1,_,rfl,by omega,fun p2 hp2=>⟨by omega,fun p3 hp3=>?_⟩⟩
   have u2:=zd (o:=HO.tup [.int (tr.2.1:Nat),.int (tr.2.2:Nat),.bl true]) hp2
   have u3:=zd (o:=HO.lst [.ref p1,.ref p2]) hp3
   have u:=u1.trans (u2.trans u3)
   refine WH (us:=[((tr.1:Int),(0:Int),false),((tr.2.1:Int),(tr.2.2:Int),true)]) (hA.same (s1.trans u)).is (LsA.is ⟨_,zf,?_⟩) (by simp) hst (fun v hv=>?_) fun D H' hDn s' hL=>⟨u.trans s',D,(s1.trans u).free hDn,hL,rfl⟩
   ·simp only[aC,aN,Iss]
    exact⟨_,_,rfl,jL (SqT.of (u3 _ _ (u2 _ _ zf))),_,_,rfl,jL (SqT.of (u3 _ _ zf)),rfl⟩
   ·simp only[dm,List.not_mem_nil,or_false] at hv
    rcases hv with rfl | rfl
    ·exact⟨by simp,by show (tr.1:Int)<_;omega⟩
    ·exact⟨by simp,by show (tr.2.1:Int)<_;omega⟩
  rintro σ H2 ⟨s2,S,hSn,hS,rfl⟩
  rfl'
  exact⟨_,SqT.of (s2 _ _ hp),_,rfl,_,SqT.of (s2 _ _ hp),_,rfl,by omega,fun p' hp'=>q p' S _ (s1.trans (s2.trans (zd hp'))) zf (hS.same (zd hp')) hSn⟩
theorem Qz{k:Nat}{l:List Nat}{ns:List Int}{e:Ent}(h:¬ jo e):¬ jo (yy k l ns e):=by
 unfold yy
 split
 ·exact h
 ·unfold jo at h ⊢
  rw[xV]
  show ¬ (240<e.2.2.length\/60<e.2.1.length\/60<e.1.length)
  omega
theorem X4{k:Nat}{l:List Nat}{ns:List Int}{bs es:List Ent}{r:Option (List Ent)}(h:xP k l ns bs es r):(∀ e ∈ bs,¬ jo e)->∀ fs,r=some fs->∀ e ∈ fs,¬ jo e:=by
 induction h with
 | nil bs=>exact fun h fs e=>by cases e;exact h
 | same _ _ _ _ ih=>exact ih
 | new _ _ _ h4 _ ih =>
  intro h
  refine ih fun e he=>?_
  rcases List.mem_append.mp he with he | he
  ·exact h e he
  ·rw[List.mem_singleton.mp he]
   exact Qz h4
 | far _ _ _ _=>exact fun _ fs e=>by cases e
 | stuck _=>exact fun _ fs e=>by cases e
theorem qy{k n:Nat}{l:List Nat}{ns:List Int}{es:List Ent}{r:Option (List Ent)}(h:vU k l ns n es r):∀ fs,r=some fs->∀ e ∈ fs,¬ jo e:=by
 induction h with
 | out es=>exact fun fs e=>by cases e
 | bad _ _=>exact fun fs e=>by cases e
 | done _ h2 _=>exact fun fs e=>by cases e;exact X4 h2 (fun e he=>(nomatch he)) _ rfl
 | more _ _ _ _ ih=>exact ih
theorem WN{es:List Ent}{M:Nat}(h:∀ e ∈ es,e.2.2.length<=M)(u:Stp):(Wv es u).length<=M:=by
 have hg:(es.getD u.1.toNat ([],[],[])).2.2.length<=M:=by
  rw[ac]
  cases e:es[u.1.toNat]? with
  | none=>exact aJ _
  | some x=>exact h x (af e)
 unfold Wv
 rw[XF]
 split
 ·exact hg
 ·rw[xV]
  exact hg
inductive Cpl(k:Nat)(l:List Nat)(ns:List Int):Nat->List Ent->List Ent->Bool->List Ent->Prop where
 | out (kept fresh:List Ent):Cpl k l ns 0 kept fresh false kept
 | slim {n:Nat} {kept fresh:List Ent} (h:vU k l ns 20 fresh none\/∃ bs,vU k l ns 20 fresh (some bs)/\jR bs=true):Cpl k l ns (n+1) kept fresh false kept
 | far {n:Nat} {kept fresh bs:List Ent} {t:N3} (h:vU k l ns 20 fresh (some bs)) (hb:jR bs=false) (ht:t ∈ ovA (zc bs) (zc bs).length) (ho:¬ OkG (zc bs) 40 t):Cpl k l ns (n+1) kept fresh false bs
 | whole {n:Nat} {kept fresh bs:List Ent} (h:vU k l ns 20 fresh (some bs)) (hb:jR bs=false) (ho:∀ t ∈ ovA (zc bs) (zc bs).length,OkG (zc bs) 40 t) (hu:unG (zc bs) 40=[]):Cpl k l ns (n+1) kept fresh true bs
 | more {n:Nat} {kept fresh bs es:List Ent} {w:Bool} (h:vU k l ns 20 fresh (some bs)) (hb:jR bs=false) (ho:∀ t ∈ ovA (zc bs) (zc bs).length,OkG (zc bs) 40 t) (hu:unG (zc bs) 40≠[]) (r:Cpl k l ns n bs (bs ++ ((unG (zc bs) 40).take 8).map (jq bs)) w es):Cpl k l ns (n+1) kept fresh w es
theorem zaL{ps:List zr}(hl:ps.length<=12)(h:∀ r ∈ ps,r.1.length<=10):(ovA ps ps.length).length<=4000:=by
 have lfl:∀ i,(lf ps i).length<=10:=fun i=>by
  cases e:ps[i]? with
  | none=>unfold lf;rw[ac,e];exact aJ _
  | some r=>rw[wE e];exact h r (af e)
 have oI:∀ i m,(ovI ps i m).length<=m * 10:=fun i m=>by
  induction m with
  | zero=>exact aJ _
  | succ m ih =>
   rw[uS,am]
   have h1:=uU ps i m (lf ps i).length
   have h2:=lfl i
   omega
 have oA:∀ m,(ovA ps m).length<=m * 120:=fun m=>by
  induction m with
  | zero=>exact aJ _
  | succ m ih =>
   rw[kd,am]
   have h1:=oI m ps.length
   omega
 have:=oA ps.length
 omega
theorem zbP{l:List Nat}{ps:List zr}(hin:∀ r ∈ ps,(∀ c ∈ r.1,c ∈ l)/\∀ c ∈ r.2,c ∈ l)(h10:∀ r ∈ ps,r.1.length<=10/\r.2.length<=10){t:N3}(ht:t ∈ ovA ps ps.length):((pkA ps t).length<=60/\∀ c ∈ pkA ps t,c ∈ l)/\(pkB ps t).length<=60/\∀ c ∈ pkB ps t,c ∈ l:=by
 obtain⟨i1,i2,i3,i4⟩:=ut ht
 obtain⟨r,hr⟩:∃ r,ps[t.1]? = some r:=⟨_,al i1⟩
 obtain⟨r2,hr2⟩:∃ r,ps[t.2.1]? = some r:=⟨_,al i2⟩
 have l1:=wE hr
 have l2:=wE hr2
 have d1:ps.getD t.1 ([],[])=r:=by rw[ac,hr];rfl
 have d2:ps.getD t.2.1 ([],[])=r2:=by rw[ac,hr2];rfl
 rw[l1] at i3
 have b1:=h10 r (af hr)
 have b2:=h10 r2 (af hr2)
 have n1:=hin r (af hr)
 have n2:=hin r2 (af hr2)
 have hp:=wS r.1 r2.1 t.2.2 (by omega)
 have p1:=qe (yc r.1 r2.1 t.2.2) 0 r.1 r.2
 have p2:=qe (yc r.1 r2.1 t.2.2) (t.2.2:Nat) r2.1 r2.2
 have hw:∀ c ∈ yc r.1 r2.1 t.2.2,c ∈ l:=fun c hc=>by
  unfold yc at hc
  rcases List.mem_append.mp hc with h | h
  ·exact n1.1 c h
  ·exact n2.1 c (cf h)
 have put:∀(k:Int) (o n:List Nat),(∀ c ∈ n,c ∈ l)->∀ c ∈ yS (yc r.1 r2.1 t.2.2) k o n,c ∈ l:=fun k o n hn c hc=>by
  unfold yS at hc
  rcases List.mem_append.mp hc with hc | hc
  ·rcases List.mem_append.mp hc with hc | hc
   ·exact hw c (bu hc)
   ·exact hn c hc
  ·exact hw c (cf hc)
 unfold pkA pkB
 rw[l1,l2,d1,d2]
 exact⟨⟨by omega,put _ _ _ n1.2⟩,by omega,put _ _ _ n2.2⟩
theorem Ut{k:Nat}{l:List Nat}{ns:List Int}{bs:List Ent}(hB:BG k l ns bs)(hb:jR bs=false)(hs:∀ e ∈ bs,e.2.2.length<=240){t:N3}(ht:t ∈ ovA (zc bs) (zc bs).length):EB l (jq bs t):=by
 obtain⟨b1,b2⟩:=kM hb
 obtain⟨h1,h2⟩:=zbP (l:=l) (ps:=zc bs) (fun r hr=>by
  obtain⟨e,he,rfl⟩:=List.mem_map.mp hr
  exact⟨(hB.e e he).ma,(hB.e e he).mb⟩) (fun r hr=>by
  obtain⟨e,he,rfl⟩:=List.mem_map.mp hr
  exact b2 e he) ht
 refine⟨h1.1,h2.1,?_,h1.2,h2.2⟩
 show (byL bs [((t.1:Int),(0:Int),false),((t.2.1:Int),(t.2.2:Int),true)]).length<=600
 unfold byL
 rw[List.flatMap_cons,List.flatMap_cons,List.flatMap_nil,aS,am]
 have o1:=WN hs ((t.1:Int),(0:Int),false)
 have o2:=WN hs ((t.2.1:Int),(t.2.2:Int),true)
 omega
theorem EnsM.samT{T:Addr}{H H':Hp}{ps:Array Value}{a:Addr}{es:List Ent}(h:EnsM K H a es)(s:SamT T H H')(hT:H T=some (.tbl ps)):EnsM K H' a es:=by
 obtain⟨xs,h1,h2⟩:=h
 exact⟨xs,s.at hT h1 (fun _ z=>by cases z),EnsA.samT s hT h2⟩
def zcl(K:oO)(T:Addr)(H:Hp)(k:Nat)(l:List Nat)(ns:List Int)(rs:List zr)(m n:Nat)(H':Hp)(Dk Df:Addr):Prop:=∃ kept fresh:List Ent,SamT T H H'/\TabOk H' T lp lq/\EnsM K H' Dk kept/\EnsL K H' Df fresh/\fresh.length<64/\(∀ e ∈ fresh,EB l e)/\BG k l ns kept/\∀ w es,Cpl k l ns n kept fresh w es->Cpl k l ns m [] (fEs rs rs.length) w es
def VR(K:oO)(CO CR CW T:Addr):Sp:=fun vs H Q _=>∃(o a:Addr) (k:Nat) (l:List Nat) (ns:List Int) (rs:List zr) (m:Nat),vs=[.ref o,.ref a,.int (m:Nat)]/\OrdAt CO CR CW H o k l ns/\OG l ns k/\LsA K H a (rs.map dR)/\rs.length<=20/\InL l rs/\(∀ r ∈ rs,r.1.length<=60/\r.2.length<=60)/\m<=1000/\TabOk H T lp lq/\∀(w:Bool) (es:List Ent) (p D:Addr) (H':Hp),Cpl k l ns (m+1) [] (fEs rs rs.length) w es->BG k l ns es->SamT T H H'->TabOk H' T lp lq->H' p=some (.tup [.bl w,.ref D])->EnsM K H' D es->Q (.ref p) H'
theorem fO:zq ["order","pacts","rounds","kept","fresh","turn","slim","lacking"] ["order","pacts","rounds"] (zb yJ):=⟨rfl,rfl,rfl,by decide +kernel,rfl,by decide +kernel,by decide +kernel⟩
theorem ZI{f CO CR CW TB:Addr}{fd:FuncData}(B:Bt mg)(TM:TMc mg)(F:Fun K "completed" "completed" yJ f fd)(nq:Df P w K mg base CX0 1 "first_entries" ["pacts"] [] (kr K))(mS:Df P w K mg base CX0 8 "thinned_within" ["order","entries"] [] (V5 K CO CR CW TB))(nA:Df P w K mg base CX0 9 "unmet_within" ["order","entries"] [] (WR K CO CR CW))(nZ:Df P w K mg base CX0 5 "entry_of" ["entries","overlap"] [] (uQ K)):FnOk P w K mg base CX0 10 f fd ["order","pacts","rounds"] (VR K CO CR CW TB):=by
 obtain⟨t9,g9⟩:=TM.p
 refine F.ok fO (fun vs H Q E h=>?_) (fun cdv A outer s H vs Q E hr h=>?_)
 ·obtain⟨o,a,k,l,ns,rs,m,rfl,_⟩:=h
  rfl
 ·obtain⟨o,a,k,l,ns,rs,m,rfl,ho,hG,hA,hrl,hin,h60,hm,hTab,q⟩:=h
  refine⟨_,(zi (zt (i:=3) fO.nd rfl (Or.inr rfl) (xR ze))
   (zi (zt (i:=4) fO.nd rfl (Or.inl rfl) (cl0 nq hr .nil rfl (za (pv 1) ze)))
   (zi (yF PassesOwn.never rfl (xO rfl B.range (za (zB yB (pv 2) zg) ze)) (zC (i:=5) fO.nd rfl (Or.inl rfl))
    (zi (zt (i:=6) fO.nd rfl (Or.inl rfl) (cl0 mS hr .nil rfl (za (pv 0) (za (pv 4) ze))))
    (zi (ya (zI op_isN' (pv 6) wl (zK _))
     (zh (zx (z9 (za xM (za (pv 3) ze)))))
     zD)
    (zi (zt (i:=3) fO.nd rfl (Or.inr rfl) (pv 6))
    (zi (zt (i:=7) fO.nd rfl (Or.inl rfl) (cl0 nA hr .nil rfl (za (pv 0) (za (pv 3) ze))))
    (zi (ya (zI op_isN' (pv 7) wl (zK _))
     (zh (zx (z9 (za xM (za (pv 3) ze)))))
     zD)
    (zi (ya (zI qT (zp zX rfl B.len aB (za (pv 7) ze)) zg (zK _))
     (zh (zx (z9 (za xM (za (pv 3) ze)))))
     zD)
    (zh (zt (i:=4) fO.nd rfl (Or.inl rfl) (zB yB (pv 3) (xY (own:=["overlap"]) (caps:=["kept"]) (ix:=[3]) (tt:=vT) (te:=(jt (uQ K) [] E0 (zP (xx 1) (zP (xx 0) vf)))) rfl (yb (sc:=zb yJ) rfl (by decide +kernel) (by decide +kernel) (by decide +kernel) rfl (by decide +kernel) (by decide +kernel) rfl) (yC (yl jM (pv 7) xZ (yh (xh (v:=.int 8) rfl g9 ⟨t9,rfl⟩)))) (fun _ _ _ _ _ _=>zC (i:=0) (show List.Nodup [_,_] by decide) rfl (Or.inl rfl)) (fun _ _ _ _ _ _=>xv) (fun _ _ _ _ _ _=>(cl0 nZ hr .nil rfl (za (pv 1) (za (pv 0) ze)))))))))))))))
   (zh (zx (z9 (za xM (za (pv 3) ze)))))))),?_⟩
  have s16:=ym
  have s16:=ym
  have hTt:=hTab
  obtain⟨tp,htp,_⟩:=hTt
  refine zj (fun σ H'=>Same H H'/\∃ Dk:Addr,H' Dk=some (.lst [])/\σ=[some (.ref o),some (.ref a),some (.int (m:Nat)),some (.ref Dk),none,none,none,none]) ?_ ?_
  ·repeat (first | rfl' | simp only[yx,zA,zJ,yz,yA,zy])
   exact⟨by omega,fun p hp=>⟨zd hp,zf⟩⟩
  rintro σ H1 ⟨s1,Dk0,hDk0,rfl⟩
  have hE0:∀ e ∈ fEs rs rs.length,EB l e:=fun e he=>by
   obtain⟨i,p,hi,hp,rfl⟩:=ke he
   have h1:=h60 p (af hp)
   have h2:=hin p (af hp)
   exact⟨h1.1,h1.2,by show ([((i:Int),(0:Int),true)]:List Stp).length<=600;simp,h2.2.2.1,h2.2.2.2⟩
  refine zj (fun σ H'=>∃ Df:Addr,zcl K TB H k l ns rs (m+1) (m+1) H' Dk0 Df/\σ=[some (.ref o),some (.ref a),some (.int (m:Nat)),some (.ref Dk0),some (.ref Df),none,none,none]) ?_ ?_
  ·repeat (first | rfl' | simp only[yx,zA,zJ,yz,yA,zy])
   exact⟨a,rs,rfl,hA.same s1,hrl,fun Df H' s' _ hM=>⟨Df,⟨[],fEs rs rs.length,SamT.of (s1.trans s'),hTab.same (s1.trans s'),⟨[],s' _ _ hDk0,rfl⟩,hM.l,by have:=VF rs rs.length;omega,hE0,⟨by simp,fun e he=>(nomatch he),fun e he=>(nomatch he)⟩,fun w es h=>h⟩,rfl⟩⟩
  rintro σ H2 ⟨Df0,hC0,rfl⟩
  refine zj (fun σ H'=>∃(Dk Df:Addr) (v5 v6 v7:Option V),zcl K TB H k l ns rs (m+1) 0 H' Dk Df/\σ=[some (.ref o),some (.ref a),some (.int (m:Nat)),some (.ref Dk),some (.ref Df),v5,v6,v7]) ?_ ?_
  ·repeat (first | rfl' | simp only[yx,zA,zJ,yz,yA,zy])
   refine⟨by omega,by omega,ForR.by (fun i σ H'=>∃(Dk Df:Addr) (v5 v6 v7:Option V),zcl K TB H k l ns rs (m+1) (m+1 - i) H' Dk Df/\σ=[some (.ref o),some (.ref a),some (.int (m:Nat)),some (.ref Dk),some (.ref Df),v5,v6,v7]) ⟨Dk0,Df0,none,none,none,hC0,rfl⟩ ?_ ?_⟩
   ·rintro i σ H' hi ⟨Dk,Df,v5,v6,v7,⟨kept,fresh,sT,hT,hK,hF,hfl,hfE,hB,hcp⟩,rfl⟩
    have hi':i<m+1:=by omega
    have en:m+1 - i=(m+1 - (i+1))+1:=by omega
    rw[en] at hcp
    have hTt:=hT
    obtain⟨tq,htq,_⟩:=hTt
    have ho':=ho.samT sT htp
    simp only[xA,bj,bi]
    refine zj (fun σ' G=>SamT TB H' G/\TabOk G TB lp lq/\(((vU k l ns 20 fresh none\/∃ bs,vU k l ns 20 fresh (some bs)/\jR bs=true)/\σ'=[some (.ref o),some (.ref a),some (.int (m:Nat)),some (.ref Dk),some (.ref Df),some (.int (0+(i:Int))),some (.non),v7])\/∃(bs:List Ent) (D:Addr),vU k l ns 20 fresh (some bs)/\BG k l ns bs/\jR bs=false/\EnsM K G D bs/\σ'=[some (.ref o),some (.ref a),some (.int (m:Nat)),some (.ref Dk),some (.ref Df),some (.int (0+(i:Int))),some (.ref D),v7])) ?_ ?_
    ·repeat (first | rfl' | simp only[yx,zA,zJ,yz,yA,zy])
     exact⟨o,Df,k,l,ns,fresh,rfl,ho',hG,hF,hfl,hfE,hT,fun bs D G h1 h2 h3 h4 h5 h6=>⟨h4,h5,.inr ⟨bs,h1,h2,h3,D,h6,rfl⟩⟩,fun h G h4 h5=>⟨h4,h5,.inl ⟨h,rfl⟩⟩⟩
    rintro σ' G1 ⟨g1,hT1,hcase⟩
    have hK1:=hK.samT g1 htq
    refine zj (fun σ' G=>Same G1 G/\∃(bs:List Ent) (D:Addr),vU k l ns 20 fresh (some bs)/\BG k l ns bs/\jR bs=false/\EnsM K G D bs/\σ'=[some (.ref o),some (.ref a),some (.int (m:Nat)),some (.ref Dk),some (.ref Df),some (.int (0+(i:Int))),some (.ref D),v7]) ?_ ?_
    ·rcases hcase with ⟨hno,rfl⟩ | ⟨bs,D,h1,h2,h3,h4,rfl⟩
     ·repeat (first | rfl' | simp only[yx,zA,zJ,yz,yA,zy])
      exact⟨by omega,fun p hp=>q false kept p Dk _ (hcp _ _ (.slim hno)) hB (sT.trans (g1.trans (SamT.of (zd hp)))) (hT1.same (zd hp)) zf (hK1.same (zd hp))⟩
     ·repeat (first | rfl' | simp only[yx,zA,zJ,yz,yA,zy])
      exact⟨Same.refl _,bs,h1,h2,h3,h4⟩
    rintro σ' G2 ⟨s2,bs,D,hTh,hBb,hbey,hD,rfl⟩
    refine zj (fun σ' G=>G=G2/\σ'=[some (.ref o),some (.ref a),some (.int (m:Nat)),some (.ref D),some (.ref Df),some (.int (0+(i:Int))),some (.ref D),v7]) ?_ ?_
    ·repeat (first | rfl' | simp only[yx,zA,zJ,yz,yA,zy])
    rintro σ' G3 ⟨rfl,rfl⟩
    have sT3:SamT TB H G3:=sT.trans (g1.trans (SamT.of s2))
    have hT3:=hT1.same s2
    have ho3:=ho.samT sT3 htp
    obtain⟨b12,b10⟩:=kM hbey
    have hpl:(zc bs).length=bs.length:=by unfold zc;rw[ae]
    have hol:=zaL (ps:=zc bs) (by omega) fun r hr=>by
     obtain⟨e,he,rfl⟩:=List.mem_map.mp hr
     exact (b10 e he).1
    have hnear:∀ e ∈ bs,e.2.2.length<=240:=fun e he=>by
     have:=qy hTh bs rfl e he
     unfold jo at this
     omega
    refine zj (fun σ' G=>Same G3 G/\(((∃ t ∈ ovA (zc bs) (zc bs).length,¬ OkG (zc bs) 40 t)/\σ'=[some (.ref o),some (.ref a),some (.int (m:Nat)),some (.ref D),some (.ref Df),some (.int (0+(i:Int))),some (.ref D),some (.non)])\/∃ L:Addr,(∀ t ∈ ovA (zc bs) (zc bs).length,OkG (zc bs) 40 t)/\LsA K G L ((unG (zc bs) 40).map d3)/\σ'=[some (.ref o),some (.ref a),some (.int (m:Nat)),some (.ref D),some (.ref Df),some (.int (0+(i:Int))),some (.ref D),some (.ref L)])) ?_ ?_
    ·repeat (first | rfl' | simp only[yx,zA,zJ,yz,yA,zy])
     exact⟨o,D,k,l,ns,bs,rfl,ho3,hG,hD.l,hBb,by omega,hol,fun h L G s' hL=>⟨s',.inr ⟨h,L,hL,rfl⟩⟩,fun t ht h G s'=>⟨s',.inl ⟨⟨t,ht,h⟩,rfl⟩⟩⟩
    rintro σ' G4 ⟨s4,hcase⟩
    refine zj (fun σ' G=>Same G3 G/\∃ L:Addr,(∀ t ∈ ovA (zc bs) (zc bs).length,OkG (zc bs) 40 t)/\LsA K G L ((unG (zc bs) 40).map d3)/\σ'=[some (.ref o),some (.ref a),some (.int (m:Nat)),some (.ref D),some (.ref Df),some (.int (0+(i:Int))),some (.ref D),some (.ref L)]) ?_ ?_
    ·rcases hcase with ⟨⟨t,ht,hno⟩,rfl⟩ | ⟨L,h1,h2,rfl⟩
     ·repeat (first | rfl' | simp only[yx,zA,zJ,yz,yA,zy])
      exact⟨by omega,fun p hp=>q false bs p D _ (hcp _ _ (.far hTh hbey ht hno)) hBb (sT3.trans (SamT.of (s4.trans (zd hp)))) (hT3.same (s4.trans (zd hp))) zf (hD.same (s4.trans (zd hp)))⟩
     ·repeat (first | rfl' | simp only[yx,zA,zJ,yz,yA,zy])
      exact⟨s4,h1,h2⟩
    rintro σ' G5 ⟨s5,L,hok,hL,rfl⟩
    refine zj (fun σ' G=>G=G5/\unG (zc bs) 40≠[]/\σ'=[some (.ref o),some (.ref a),some (.int (m:Nat)),some (.ref D),some (.ref Df),some (.int (0+(i:Int))),some (.ref D),some (.ref L)]) ?_ ?_
    ·repeat (first | rfl' | simp only[yx,zA,zJ,yz,yA,zy])
     obtain⟨xs,hX,hI⟩:=id hL
     have hxl:=hI.len
     rw[ae] at hxl
     refine⟨_,.inl ⟨_,SqL.of hX,rfl⟩,xj (fun h=>⟨by omega,fun p hp=>q true bs p D _ (hcp _ _ (.whole hTh hbey hok (List.length_eq_zero_iff.mp (by omega)))) hBb (sT3.trans (SamT.of (s5.trans (zd hp)))) (hT3.same (s5.trans (zd hp))) zf (hD.same (s5.trans (zd hp)))⟩) fun h z=>h ?_⟩
     rw[z] at hxl
     show ((xs.length:Nat):Int)=0
     rw[hxl]
     rfl
    rintro σ' G6 ⟨rfl,hne,rfl⟩
    repeat (first | rfl' | simp only[yx,zA,zJ,yz,yA,zy])
    obtain⟨xs,hX,hI⟩:=id hL
    have hxl:=hI.len
    rw[ae] at hxl
    have hct:Jz xs none (some 8)=xs.take 8:=ZJ xs (k:=8) (by decide)
    refine⟨_,SqL.of hX,fun p hp=>?_⟩
    rw[hct]
    have u1:=zd (o:=HO.lst (xs.take 8)) hp
    have hS7:(upd G6 p (.lst (xs.take 8))) p=some (.lst (xs.take 8)):=zf
    have hX7:=Iss.same u1 _ _ hI
    have hD7:=hD.same (s5.trans u1)
    refine⟨⟨_,SqL.of hS7⟩,fun E1 hE1=>?_⟩
    generalize upd G6 p (.lst (xs.take 8))=G7 at *
    refine CompL.by (xs:=xs.take 8) (fun j acc H'=>Same G7 H'/\H' E1=some (.lst acc)/\acc.length<=j/\EnsA K (ju E1 H') (((unG (zc bs) 40).take j).map (jq bs)) acc) ⟨zd hE1,zf,au _,rfl⟩ (fun j acc H' _ h=>SqL.of (h.1 _ _ hS7)) ?_ ?_
    ·rintro j x acc H' hx ⟨hs,hH,hal,hEn⟩
     have hjl:=(List.getElem?_eq_some_iff.mp hx).1
     have hj8:j<8:=by rw[aK] at hjl;omega
     rw[bx hj8] at hx
     obtain⟨t,pt,ht,rfl,hpt⟩:=hX7.get3 hx
     have htm:=(List.mem_filter.mp (af ht)).1
     simp only[vT]
     rfl'
     refine⟨wD,D,pt,bs,t,rfl,(hD7.same hs).l,zl hs hpt,htm,hBb.ok (by omega),fun e he=>(hBb.e e he).s,fun p' s' H5 h1 h2 h3 h4=>?_⟩
     have hH5:=h1 _ _ hH
     have hsE:s'≠E1:=fun z=>by rw[z,hH] at h4;cases h4
     refine⟨hH5,by omega,CNx.mk hjl ⟨zG (hs.trans h1) hE1,zf,by rw[am];simp only[aM,cw];omega,?_⟩⟩
     rw[zW ht,aH]
     exact (hEn.same ((wP h1).trans xS)).snoc ((EnA.new (e:=jq bs t) hH5 h2 h3 hsE).same xS)
    ·rintro acc H' ⟨hs,hH,hal,hEn⟩
     have hEn':EnsA K H' (((unG (zc bs) 40).take 8).map (jq bs)) acc:=by
      have h1:=hEn.same wX
      rw[aK,hxl] at h1
      have e:(unG (zc bs) 40).take (min 8 (unG (zc bs) 40).length)=(unG (zc bs) 40).take 8:=by
       rw[<- eQ,aQ]
      rw[e] at h1
      exact h1
     have hal8:acc.length<=8:=by rw[aK] at hal;omega
     obtain⟨xk,hxk,hek⟩:=hD7.same hs
     have hkl:=hek.len
     refine⟨E1,rfl,xk,hxk,acc,hH,by omega,fun p2 hp2=>⟨D,p2,⟨bs,_,sT3.trans (SamT.of (s5.trans (u1.trans (hs.trans (zd hp2))))),hT3.same (s5.trans (u1.trans (hs.trans (zd hp2)))),⟨xk,zd hp2 _ _ hxk,hek.same (zd hp2)⟩,⟨xk ++ acc,SqL.of zf,(hEn'.same (zd hp2)).app (hek.same (zd hp2))⟩,?_,fun e he=>?_,hBb,fun w es h=>hcp w es (.more hTh hbey hok hne h)⟩,rfl,rfl⟩⟩
     ·rw[am,ae,aK]
      omega
     ·rcases List.mem_append.mp he with he | he
      ·exact hBb.e e he
      ·obtain⟨t,ht,rfl⟩:=List.mem_map.mp he
       exact Ut hBb hbey hnear (List.mem_filter.mp (bu ht)).1
   ·rintro σ H' ⟨Dk,Df,v5,v6,v7,hC,rfl⟩
    rw[show ((m:Int)+1).toNat=m+1 by omega,Nat.sub_self] at hC
    exact⟨Dk,Df,hC,_,_,_,rfl⟩
  rintro σ H3 ⟨Dk,Df,v5,v6,v7,⟨kept,fresh,sT,hT,hK,hF,hfl,hfE,hB,hcp⟩,rfl⟩
  repeat (first | rfl' | simp only[yx,zA,zJ,yz,yA,zy])
  exact⟨by omega,fun p hp=>q false kept p Dk _ (hcp _ _ (.out kept fresh)) hB (sT.trans (SamT.of (zd hp))) (hT.same (zd hp)) zf (hK.same (zd hp))⟩
theorem jZ{ps:List zr}{w:List Nat}{i:Nat}{q:Int}{f:Bool}{r:zr}(hr:ps[i]? = some r)(h:zu w q (sdl r f).1=true):yo ps w ((i:Int),q,f)=some (yS w q (sdl r f).1 (sdl r f).2):=by
 have hi:=(List.getElem?_eq_some_iff.mp hr).1
 have e:ps.getD ((i:Int),q,f).1.toNat ([],[])=r:=by
  show ps.getD ((i:Int)).toNat ([],[])=r
  rw[aX,ac,hr]
  rfl
 rw[yG (show 0<=((i:Int),q,f).1/\((i:Int),q,f).1<ps.length by constructor <;> simp <;> omega),e,if_pos h]
theorem Y1{rs:List zr}{e:Ent}{n:Nat}(h:e ∈ fEs rs n):EOk rs e:=by
 obtain⟨i,p,hi,hp,rfl⟩:=ke h
 show yd rs p.1 [((i:Int),(0:Int),true)]=some p.2
 have hs:zu p.1 0 (sdl p true).1=true:=by
  show zu p.1 0 p.1=true
  refine decide_eq_true ⟨by omega,by omega,?_⟩
  show (p.1.drop 0).take p.1.length=p.1
  rw[dI,aQ]
 simp only[yd,jZ hp hs,bU]
 show some (yS p.1 0 p.1 p.2)=some p.2
 congr 1
 unfold yS
 show p.1.take 0 ++ p.2 ++ p.1.drop (0+p.1.length)=p.2
 rw[bA,bv,aZ (by omega),aS]
theorem Kj{rs:List zr}{bs:List Ent}(hb:∀ e ∈ bs,EOk rs e){t:N3}(ht:t ∈ ovA (zc bs) (zc bs).length):EOk rs (jq bs t):=by
 obtain⟨i1,i2,i3,i4⟩:=ut ht
 obtain⟨r,hr⟩:∃ r,(zc bs)[t.1]? = some r:=⟨_,al i1⟩
 obtain⟨r2,hr2⟩:∃ r,(zc bs)[t.2.1]? = some r:=⟨_,al i2⟩
 have l1:=wE hr
 have l2:=wE hr2
 have d1:(zc bs).getD t.1 ([],[])=r:=by rw[ac,hr];rfl
 have d2:(zc bs).getD t.2.1 ([],[])=r2:=by rw[ac,hr2];rfl
 rw[l1] at i3
 rw[l1,l2] at i4
 have eA:pkA (zc bs) t=yS (yc r.1 r2.1 t.2.2) 0 r.1 r.2:=by unfold pkA;rw[l1,l2,d1]
 have eB:pkB (zc bs) t=yS (yc r.1 r2.1 t.2.2) (t.2.2:Nat) r2.1 r2.2:=by unfold pkB;rw[l1,l2,d2]
 refine kQ hb ?_
 show yd (zc bs) (pkA (zc bs) t) [((t.1:Int),(0:Int),false),((t.2.1:Int),(t.2.2:Int),true)]=some (pkB (zc bs) t)
 obtain⟨b1,b2⟩:=Xq r.2 (jO r.1 r2.1 t.2.2)
 rw[eA,eB]
 have h1:=jZ (f:=false) (q:=0) hr (w:=yS (yc r.1 r2.1 t.2.2) 0 r.1 r.2) b1
 have h2:=jZ (f:=true) (q:=(t.2.2:Int)) hr2 (w:=yc r.1 r2.1 t.2.2) (qW (by omega) i4)
 have h1':yo (zc bs) (yS (yc r.1 r2.1 t.2.2) 0 r.1 r.2) ((t.1:Int),(0:Int),false)=some (yc r.1 r2.1 t.2.2):=by
  rw[h1]
  congr 1
 have h2':yo (zc bs) (yc r.1 r2.1 t.2.2) ((t.2.1:Int),(t.2.2:Int),true)=some (yS (yc r.1 r2.1 t.2.2) (t.2.2:Nat) r2.1 r2.2):=h2
 simp only[yd,h1',h2',bU]
theorem Vx{k:Nat}{l:List Nat}{ns:List Int}{es bs zs:List Ent}(h:vU k l ns 20 es (some bs))(hb:jR bs=false)(hz:ThinL k l ns zs)(hp:zc bs=zc zs):BG k l ns bs:=by
 obtain⟨b1,_⟩:=kM hb
 have key:∀ e ∈ bs,∃ z ∈ zs,z.1=e.1/\z.2.1=e.2.1:=fun e he=>by
  have:(e.1,e.2.1) ∈ zc zs:=by rw[<- hp];exact List.mem_map.mpr ⟨e,he,rfl⟩
  obtain⟨z,hz,e2⟩:=List.mem_map.mp this
  injection e2 with h1 h2
  exact⟨z,hz,h1,h2⟩
 refine⟨by omega,fun e he=>?_,fun e he=>?_⟩
 ·obtain⟨z,hzm,h1,h2⟩:=key e he
  have hE:=hz.rl.e z hzm
  have hn:=qy h bs rfl e he
  unfold jo at hn
  exact⟨by omega,by omega,by omega,by rw[<- h1];exact hE.ma,by rw[<- h2];exact hE.mb⟩
 ·obtain⟨z,hzm,h1,h2⟩:=key e he
  rw[<- h1,<- h2]
  exact hz.rl.lt z hzm
def Gd(rs:List zr)(k:Nat)(l:List Nat)(ns:List Int)(es:List Ent):Prop:=(∀ e ∈ es,EOk rs e)/\(es=[]\/(ThinL k l ns es/\jR es=false/\BG k l ns es))
theorem Yj{rs:List zr}{k:Nat}{l:List Nat}{ns:List Int}(G:OG l ns k){es bs:List Ent}(h:vU k l ns 20 es (some bs))(hb:jR bs=false)(he:∀ e ∈ es,EB l e)(ho:∀ e ∈ es,EOk rs e):Gd rs k l ns bs:=by
 obtain⟨h1,zs,hz,hp⟩:=Y7 (rs:=rs) G h bs rfl he ho
 have hB:=Vx h hb hz hp
 exact⟨h1,.inr ⟨hz.pairs hp hB.e,hb,hB⟩⟩
theorem Jx{rs:List zr}{k n:Nat}{l:List Nat}{ns:List Int}(G:OG l ns k){kept fresh es:List Ent}{w:Bool}(h:Cpl k l ns n kept fresh w es):(∀ e ∈ fresh,EB l e)->(∀ e ∈ fresh,EOk rs e)->Gd rs k l ns kept->Gd rs k l ns es:=by
 induction h with
 | out kept fresh=>exact fun _ _ h=>h
 | slim _=>exact fun _ _ h=>h
 | far h hb _ _=>exact fun he ho _=>Yj G h hb he ho
 | whole h hb _ _=>exact fun he ho _=>Yj G h hb he ho
 | @more n kept fresh bs es w h hb ho' hu r ih =>
  intro he ho _
  have hg:=Yj (rs:=rs) G h hb he ho
  have hB:BG k l ns bs:=by
   obtain⟨h1,zs,hz,hp⟩:=Y7 (rs:=rs) G h bs rfl he ho
   exact Vx h hb hz hp
  have hnear:∀ e ∈ bs,e.2.2.length<=240:=fun e hm=>by
   have:=qy h bs rfl e hm
   unfold jo at this
   omega
  refine ih (fun e hm=>?_) (fun e hm=>?_) hg
  ·rcases List.mem_append.mp hm with hm | hm
   ·exact hB.e e hm
   ·obtain⟨t,ht,rfl⟩:=List.mem_map.mp hm
    exact Ut hB hb hnear (List.mem_filter.mp (bu ht)).1
  ·rcases List.mem_append.mp hm with hm | hm
   ·exact hg.1 e hm
   ·obtain⟨t,ht,rfl⟩:=List.mem_map.mp hm
    exact Kj hg.1 (List.mem_filter.mp (bu ht)).1
structure TTl(K:oO):Prop where
 tt:aT K (.type "tuple") (.type "tuple")=some true
 bb:aT K (.type "bool") (.type "bool")=some true
def kq(K:oO):Sp:=fun vs H Q _=>∃(p D:Addr) (w:Bool) (es:List Ent),vs=[.ref p]/\H p=some (.tup [.bl w,.ref D])/\EnsL K H D es/\Q (.bl true) H
theorem JZ:zq ["_law_found"] ["_law_found"] (zb jy):=⟨rfl,rfl,rfl,by decide +kernel,rfl,by decide +kernel,by decide +kernel⟩
theorem JH{f:Addr}{fd:FuncData}(B:Bt mg)(TT':TTl K)(F:Fun K "_law_told" "_law_told" jy f fd)(oh:Df P w K mg base CX0 3 "_law_entries" ["_law_found"] [] (Yy K)):FnOk P w K mg base CX0 4 f fd ["_law_found"] (kq K):=by
 refine F.ok JZ (fun vs H Q E h=>?_) (fun cdv A outer s H vs Q E hr h=>?_)
 ·obtain⟨p,D,w,es,rfl,_⟩:=h
  rfl
 ·obtain⟨p,D,w,es,rfl,hp,hE,q⟩:=h
  refine⟨_,(zi (ya (PW.pt (uu (yn (xz (xI rfl B.isi (pv 0) rfl B.tuple PySem.Pv.boot_tuple) (fun _=>rfl))) (uu (zI X7 (zp zX rfl B.len aB (za (pv 0) ze)) zg (zK _)) (vB (yn (xz (xI rfl B.isi (zw ix_tup (pv 0) zg (fun _ _=>rfl)) rfl B.bool PySem.Pv.boot_bool) (fun _=>rfl)))))))
    (zh (zx xM))
    zD)
   (zh (zx (cl0 oh hr .nil rfl (za (zw ix_tup (pv 0) zg (fun _ _=>rfl)) ze))))),?_⟩
  have s16:=ym
  refine zj (fun σ H'=>H'=H/\σ=[some (.ref p)]) ?_ ?_
  ·repeat (first | rfl' | simp only[yx,zA,zJ,yz,yA,zy])
   exact⟨_,.inl (.tup hp),true,TT'.tt,xj (fun e=>by cases e) fun _=>⟨_,.inr ⟨_,SqT.of hp,rfl⟩,xj (fun e=>absurd rfl e) fun _=>⟨_,SqT.of hp,_,rfl,_,.inl (.bl _),true,TT'.bb,xj (fun e=>by cases e) fun _=>trivial⟩⟩⟩
  rintro σ H1 ⟨rfl,rfl⟩
  repeat (first | rfl' | simp only[yx,zA,zJ,yz,yA,zy])
  exact⟨_,SqT.of hp,_,rfl,D,es,rfl,hE.is,q⟩
theorem Xm{w o:List Nat}{q:Nat}(h:zu w (q:Int) o=true):w.take q ++ o ++ w.drop (q+o.length)=w:=by
 unfold zu at h
 obtain⟨_,_,e⟩:=of_decide_eq_true h
 rw[aX] at e
 calc w.take q ++ o ++ w.drop (q+o.length)=w.take q ++ ((w.drop q).take o.length ++ (w.drop q).drop o.length):=by rw[e,dJ,ax]
  _=w.take q ++ w.drop q:=by rw[bK]
  _=w:=bK q w
theorem UW{w:List Nat}{ps:List zr}{u:Nat × Nat}(h:zF w ps=some u):∃ p,ps[u.1]? = some p/\zu w (u.2:Int) p.1=true:=by
 unfold zF at h
 have hm:u ∈ xQ w ps w.length:=eR h
 obtain⟨_,h2⟩:=usesK_mem.mp hm
 obtain⟨_,p,hp,hs⟩:=wG h2
 exact⟨p,hp,hs⟩
theorem Qh{k:Nat}{l:List Nat}{ns:List Int}{u v:List Nat}(h:zL k l ns u v=true):zv k l ns u<=zv k l ns v:=by
 unfold zL at h
 by_cases e:zv k l ns u=zv k l ns v
 ·omega
 ·rw[if_neg e] at h
  have:=of_decide_eq_true h
  omega
theorem Qt{k:Nat}{l:List Nat}{ns:List Int}{w:List Nat}{p:zr}{q:Nat}(G:OG l ns k)(hp:zL k l ns p.2 p.1=true/\(∀ c ∈ p.1,c ∈ l)/\∀ c ∈ p.2,c ∈ l)(hw:∀ c ∈ w,c ∈ l)(h2:zu w (q:Int) p.1=true):zL k l ns (yS w (q:Int) p.1 p.2) w=true/\∀ c ∈ yS w (q:Int) p.1 p.2,c ∈ l:=by
 have e1:=Xm h2
 obtain⟨p1,p2,p3⟩:=hp
 unfold yS
 rw[aX]
 have ha:∀ c ∈ w.take q,c ∈ l:=fun c hc=>hw c (bu hc)
 have hb:∀ c ∈ w.drop (q+p.1.length),c ∈ l:=fun c hc=>hw c (cf hc)
 generalize w.take q=a at *
 generalize w.drop (q+p.1.length)=b at *
 rw[<- e1]
 have ap:∀ x:List Nat,(∀ c ∈ x,c ∈ l)->∀ c ∈ a ++ x,c ∈ l:=fun x hx c hc=>(List.mem_append.mp hc).elim (ha c) (hx c)
 refine⟨?_,fun c hc=>(List.mem_append.mp hc).elim (ap p.2 p3 c) (hb c)⟩
 rw[(vP G hb (ap p.2 p3) (ap p.1 p2)).2,(vP G ha p3 p2).1]
 exact p1
theorem Qc{ps:List zr}{t:N3}(ht:t ∈ ovA ps ps.length):∃ r r2,ps[t.1]? = some r/\ps[t.2.1]? = some r2/\t.2.2<r.1.length/\yZ r.1 r2.1 t.2.2=true/\pkA ps t=yS (yc r.1 r2.1 t.2.2) 0 r.1 r.2/\pkB ps t=yS (yc r.1 r2.1 t.2.2) (t.2.2:Nat) r2.1 r2.2:=by
 obtain⟨i1,i2,i3,i4⟩:=ut ht
 obtain⟨r,hr⟩:∃ r,ps[t.1]? = some r:=⟨_,al i1⟩
 obtain⟨r2,hr2⟩:∃ r,ps[t.2.1]? = some r:=⟨_,al i2⟩
 have l1:=wE hr
 have l2:=wE hr2
 have d1:ps.getD t.1 ([],[])=r:=by rw[ac,hr];rfl
 have d2:ps.getD t.2.1 ([],[])=r2:=by rw[ac,hr2];rfl
 rw[l1] at i3
 rw[l1,l2] at i4
 exact⟨r,r2,hr,hr2,i3,i4,by unfold pkA;rw[l1,l2,d1],by unfold pkB;rw[l1,l2,d2]⟩
theorem YL{ps:List zr}{v:List Nat}{J:Nat}(h:zF (wAt ps v J) ps=none):∀ d,wAt ps v (J+d)=wAt ps v J
 | 0=>rfl
 | d+1=>by
  show YU ps (wAt ps v (J+d))=_
  rw[YL h d]
  unfold YU
  rw[h]
  rfl
def Rw(ps:List zr)(u v:List Nat):Prop:=∃ p,p ∈ ps/\∃ a b,u=a ++ p.1 ++ b/\v=a ++ p.2 ++ b
inductive Rws(ps:List zr):List Nat->List Nat->Prop where
 | nil {u:List Nat}:Rws ps u u
 | cons {u v w:List Nat} (h:Rw ps u v) (h2:Rws ps v w):Rws ps u w
theorem Rws.trans{ps:List zr}{u v w:List Nat}(h:Rws ps u v)(h2:Rws ps v w):Rws ps u w:=by
 induction h with
 | nil=>exact h2
 | cons s _ ih=>exact .cons s (ih h2)
theorem Rws.one{ps:List zr}{u v:List Nat}(h:Rw ps u v):Rws ps u v:=.cons h .nil
theorem Rw.ctx{ps:List zr}{u v:List Nat}(h:Rw ps u v)(c d:List Nat):Rw ps (c ++ u ++ d) (c ++ v ++ d):=by
 obtain⟨p,hp,a,b,rfl,rfl⟩:=h
 exact⟨p,hp,c ++ a,b ++ d,by simp only[ax],by simp only[ax]⟩
theorem Rws.ctx{ps:List zr}{u v:List Nat}(h:Rws ps u v)(c d:List Nat):Rws ps (c ++ u ++ d) (c ++ v ++ d):=by
 induction h with
 | nil=>exact .nil
 | cons s _ ih=>exact .cons (s.ctx c d) ih
theorem vK{w:List Nat}{p:zr}{q:Nat}(h:zu w (q:Int) p.1=true):w=w.take q ++ p.1 ++ w.drop (q+p.1.length)/\yS w (q:Int) p.1 p.2=w.take q ++ p.2 ++ w.drop (q+p.1.length):=by
 refine⟨(Xm h).symm,?_⟩
 unfold yS
 rw[aX]
theorem Ks{ps:List zr}{w:List Nat}{p:zr}{q:Nat}(hp:p ∈ ps)(h:zu w (q:Int) p.1=true):Rw ps w (yS w (q:Int) p.1 p.2) :=
 ⟨p,hp,_,_,(vK h).1,(vK h).2⟩
theorem Vw{ps:List zr}{w:List Nat}{u:Nat × Nat}(h:zF w ps=some u):Rw ps w (Z7 w ps u):=by
 obtain⟨p,h1,h2⟩:=UW h
 unfold Z7
 rw[xK h1]
 exact Ks (af h1) h2
theorem Yl{ps:List zr}{w:List Nat}:∀ j,Rws ps w (wAt ps w j)
 | 0=>.nil
 | j+1=>by
  have ih:=Yl (ps:=ps) (w:=w) j
  cases e:zF (wAt ps w j) ps with
  | none =>
   have:=YL e 1
   rw[this]
   exact ih
  | some u =>
   rw[wv e]
   exact ih.trans (.one (Vw e))
theorem Q8{a o b:List Nat}:zu (a ++ o ++ b) (a.length:Int) o=true:=by
 refine decide_eq_true ⟨by omega,by simp only[am];omega,?_⟩
 rw[aX,ax,cD,cS]
theorem za9{ps:List zr}{i j k:Nat}(hi:i<ps.length)(hj:j<ps.length)(hk:k<(lf ps i).length)(hne:i≠j\/k≠0)(ha:yZ (lf ps i) (lf ps j) k=true):((i,j,k):N3) ∈ ovA ps ps.length:=by
 unfold ovA ovI Zp
 refine List.mem_flatMap.mpr ⟨i,List.mem_range.mpr hi,List.mem_flatMap.mpr ⟨j,List.mem_range.mpr hj,List.mem_map.mpr ⟨k,List.mem_filter.mpr ⟨List.mem_range.mpr hk,?_⟩,rfl⟩⟩⟩
 rw[ha,eV,Bool.or_eq_true,decide_eq_true_iff,decide_eq_true_iff]
 exact hne
theorem Zq{ps:List zr}(hmet:∀ t ∈ ovA ps ps.length,∃ f,Rws ps (pkA ps t) f/\Rws ps (pkB ps t) f){p p':zr}(hp:p ∈ ps)(hp':p' ∈ ps){a b a' b':List Nat}(e:a ++ p.1 ++ b=a' ++ p'.1 ++ b')(hle:a.length<=a'.length):∃ t,Rws ps (a ++ p.2 ++ b) t/\Rws ps (a' ++ p'.2 ++ b') t:=by
 obtain⟨m,rfl⟩:∃ m,a'=a ++ m:=by
  have h1:a=(a' ++ p'.1 ++ b').take a.length:=by rw[<- e,ax,cS]
  rw[ax,aU hle] at h1
  exact⟨a'.drop a.length,by conv=>rhs;rw[h1];simp [cy hle]⟩
 have e1:p.1 ++ b=m ++ p'.1 ++ b':=by
  simp only[ax] at e
  have:=dh e
  rw[this,ax]
 by_cases hk:p.1.length<=m.length
 ·obtain⟨m',rfl⟩:∃ m',m=p.1 ++ m':=by
   have h1:p.1=(m ++ p'.1 ++ b').take p.1.length:=by rw[<- e1,cS]
   rw[ax,aU hk] at h1
   exact⟨m.drop p.1.length,by conv=>rhs;rw[h1];simp [cy hk]⟩
  have e2:b=m' ++ p'.1 ++ b':=by
   simp only[ax] at e1
   have:=dh e1
   rw[this,ax]
  refine⟨a ++ p.2 ++ (m' ++ p'.2 ++ b'),.one ⟨p',hp',a ++ p.2 ++ m',b',by rw[e2];simp only[ax],by simp only[ax]⟩,.one ⟨p,hp,a,m' ++ p'.2 ++ b',by simp only[ax],rfl⟩⟩
 ·have hk':m.length<p.1.length:=Nat.lt_of_not_le hk
  by_cases hsame:p=p'/\m=[]
  ·obtain⟨rfl,rfl⟩:=hsame
   rw[bv] at e1
   have:b=b':=dh e1
   rw[this,aS]
   exact⟨_,.nil,.nil⟩
  ·obtain⟨i,hi⟩:=List.mem_iff_getElem?.mp hp
   obtain⟨j,hj⟩:=List.mem_iff_getElem?.mp hp'
   have li:=wE hi
   have lj:=wE hj
   have hne:i≠j\/m.length≠0:=by
    by_cases hij:i=j
    ·refine .inr fun h0=>hsame ⟨?_,List.length_eq_zero_iff.mp h0⟩
     rw[hij,hj] at hi
     exact (Option.some.inj hi).symm
    ·exact .inl hij
   have hag:yZ p.1 p'.1 m.length=true:=(Ww _ _ _).mpr fun n hn hkn=>by
    have h1:(p.1 ++ b)[m.length+n]? = (m ++ (p'.1 ++ b'))[m.length+n]?:=by rw[e1,ax]
    rw[bY hkn,bS (by omega),Nat.add_sub_cancel_left,bY hn] at h1
    exact h1
   have hov:((i,j,m.length):N3) ∈ ovA ps ps.length:=za9 (List.getElem?_eq_some_iff.mp hi).1 (List.getElem?_eq_some_iff.mp hj).1 (by rw[li];exact hk') hne (by rw[li,lj];exact hag)
   obtain⟨f,f1,f2⟩:=hmet _ hov
   obtain⟨r,r2,hr,hr2,_,_,eA,eB⟩:=Qc hov
   have er:r=p:=by
    have h:ps[i]? = some r:=hr
    rw[hi] at h
    exact (Option.some.inj h).symm
   have er2:r2=p':=by
    have h:ps[j]? = some r2:=hr2
    rw[hj] at h
    exact (Option.some.inj h).symm
   subst er er2
   have eb:b=r2.1.drop (r.1.length - m.length) ++ b'.drop (r.1.length - m.length - r2.1.length):=by
    have h1:(r.1 ++ b).drop r.1.length=(m ++ (r2.1 ++ b')).drop r.1.length:=by rw[e1,ax]
    rw[cD,List.drop_append,aZ (by omega),bv,List.drop_append] at h1
    exact h1
   generalize hc:b'.drop (r.1.length - m.length - r2.1.length)=c at eb
   have hpw:yc r.1 r2.1 m.length ++ c=m ++ r2.1 ++ b':=by
    unfold yc
    rw[ax,<- eb,e1]
   have hpl:=wS r.1 r2.1 m.length (by omega)
   have hA:pkA ps (i,j,m.length)=r.2 ++ r2.1.drop (r.1.length - m.length):=by
    rw[eA]
    unfold yS yc
    show [] ++ r.2 ++ List.drop (0+r.1.length) _=_
    rw[d9,cD,bv]
   have hB:pkB ps (i,j,m.length) ++ c=m ++ r2.2 ++ b':=by
    rw[eB]
    unfold yS
    rw[aX]
    have t1:(yc r.1 r2.1 m.length).take m.length=m:=by
     have:=congrArg (List.take m.length) hpw
     rw[aU (by omega),ax,cS] at this
     exact this
    have t2:(yc r.1 r2.1 m.length).drop (m.length+r2.1.length) ++ c=b':=by
     have:=congrArg (List.drop (m.length+r2.1.length)) hpw
     rw[bM (by omega),show m.length+r2.1.length=(m ++ r2.1).length by rw[am],cD] at this
     rw[am] at this
     exact this
    show (yc r.1 r2.1 m.length).take m.length ++ r2.2 ++ (yc r.1 r2.1 m.length).drop (m.length+r2.1.length) ++ c=_
    rw[t1,ax,t2]
   refine⟨a ++ f ++ c,?_,?_⟩
   ·have:=f1.ctx a c
    rw[hA] at this
    rw[eb]
    simp only[ax] at this ⊢
    exact this
   ·have:=f2.ctx a c
    rw[ax a,hB] at this
    simp only[ax] at this ⊢
    exact this
theorem XW{ps:List zr}(hmet:∀ t ∈ ovA ps ps.length,∃ f,Rws ps (pkA ps t) f/\Rws ps (pkB ps t) f){u v1 v2:List Nat}(h1:Rw ps u v1)(h2:Rw ps u v2):∃ t,Rws ps v1 t/\Rws ps v2 t:=by
 obtain⟨p,hp,a,b,e1,rfl⟩:=h1
 obtain⟨p',hp',a',b',e2,rfl⟩:=h2
 rcases Nat.le_total a.length a'.length with h | h
 ·exact Zq hmet hp hp' (e1.symm.trans e2) h
 ·obtain⟨t,t1,t2⟩:=Zq hmet hp' hp (e2.symm.trans e1) h
  exact⟨t,t2,t1⟩
section
variable{k:Nat}{l:List Nat}{ws:List Int}{ps:List zr}
def Below(k:Nat)(l:List Nat)(ws:List Int)(w v:List Nat):Prop:=(∀ c ∈ v,c ∈ l)/\(v=w\/zL k l ws v w=true)
theorem uP(G:OG l ws k)(hp:∀ p ∈ ps,zL k l ws p.2 p.1=true/\(∀ c ∈ p.1,c ∈ l)/\∀ c ∈ p.2,c ∈ l){u v:List Nat}(hu:∀ c ∈ u,c ∈ l)(h:Rw ps u v):zL k l ws v u=true/\∀ c ∈ v,c ∈ l:=by
 obtain⟨p,hpm,a,b,rfl,rfl⟩:=h
 have:=Qt (q:=a.length) G (hp p hpm) hu Q8
 rw[(vK Q8).2] at this
 rw[ax a,cS,show a.length+p.1.length=(a ++ p.1).length by rw[am],<- ax,cD] at this
 exact this
theorem Below.step(G:OG l ws k)(hp:∀ p ∈ ps,zL k l ws p.2 p.1=true/\(∀ c ∈ p.1,c ∈ l)/\∀ c ∈ p.2,c ∈ l){w u v:List Nat}(hu:Below k l ws w u)(h:Rw ps u v):Below k l ws w v:=by
 obtain⟨h1,h2⟩:=uP G hp hu.1 h
 refine⟨h2,.inr ?_⟩
 rcases hu.2 with rfl | h3
 ·exact h1
 ·exact yH h1 h3
def mu(k:Nat)(l:List Nat)(ws:List Int)(Ws:List (List Nat))(v:List Nat):Nat:=Ws.countP fun y=>zL k l ws y v
theorem Zm{α:Type}{p q:α->Bool}:∀{xs:List α} {x:α},(∀ z ∈ xs,p z=true->q z=true)->x ∈ xs->q x=true->p x=false->xs.countP p<xs.countP q
 | y::xs,x,h,hx,hq,hp=>by
  have mono:xs.countP p<=xs.countP q:=List.countP_mono_left fun z hz=>h z (aw _ hz)
  rcases List.mem_cons.mp hx with rfl | hx
  ·rw[cG hq,di (by rw[hp];decide)]
   omega
  ·have ih:=Zm (fun z hz=>h z (aw _ hz)) hx hq hp
   by_cases hy:p y=true
   ·rw[cG hy,cG (h y az hy)]
    omega
   ·rw[di hy]
    by_cases hy2:q y=true
    ·rw[cG hy2]
     omega
    ·rw[di hy2]
     exact ih
theorem zar{Ws:List (List Nat)}{x y:List Nat}(hx:x ∈ Ws)(h:zL k l ws x y=true):mu k l ws Ws x<mu k l ws Ws y :=
 Zm (fun z _ hz=>yH hz h) hx h yj
end
inductive EqR(ps:List zr):List Nat->List Nat->Prop where
 | refl (u:List Nat):EqR ps u u
 | symm {u v:List Nat} (h:EqR ps u v):EqR ps v u
 | trans {u v w:List Nat} (h:EqR ps u v) (h2:EqR ps v w):EqR ps u w
 | one {u v:List Nat} (h:Rw ps u v):EqR ps u v
theorem xU(ps:List zr):Wx (EqR ps):=⟨.refl,.symm,.trans,fun {u v} a b h=>by
 induction h with
 | refl u=>exact .refl _
 | symm _ ih=>exact .symm ih
 | trans _ _ i1 i2=>exact .trans i1 i2
 | one h=>exact .one (h.ctx a b)⟩
theorem wz{ps:List zr}{p:zr}(h:p ∈ ps):EqR ps p.1 p.2:=.one ⟨p,h,[],[],by simp,by simp⟩
theorem qB{R:List Nat->List Nat->Prop}(hR:Wx R){ps:List zr}(hp:∀ p ∈ ps,R p.1 p.2){u v:List Nat}(h:EqR ps u v):R u v:=by
 induction h with
 | refl u=>exact hR.refl _
 | symm _ ih=>exact hR.symm ih
 | trans _ _ i1 i2=>exact hR.trans i1 i2
 | one h =>
  obtain⟨p,hm,a,b,rfl,rfl⟩:=h
  exact hR.ctx a b (hp p hm)
theorem Kl{R:List Nat->List Nat->Prop}(hR:Wx R){rs:List zr}(hp:∀ p ∈ rs,R p.1 p.2){u v:List Nat}{s:Stp}(h:yo rs u s=some v):R u v:=by
 by_cases hb:0<=s.1/\s.1<rs.length
 ·rw[yG hb] at h
  have hm:rs.getD s.1.toNat ([],[]) ∈ rs:=by
   rw[ac,al (by omega)]
   exact List.getElem_mem _
  generalize rs.getD s.1.toNat ([],[])=r at *
  by_cases hs:zu u s.2.1 (sdl r s.2.2).1=true
  ·rw[if_pos hs] at h
   have h0:0<=s.2.1:=(of_decide_eq_true hs).1
   obtain⟨q,hq⟩:∃ q:Nat,s.2.1=(q:Int):=⟨s.2.1.toNat,by omega⟩
   rw[hq] at h hs
   obtain⟨e1,e2⟩:=vK (p:=sdl r s.2.2) hs
   rw[e2] at h
   cases h
   conv=>arg 1;rw[e1]
   refine hR.ctx _ _ ?_
   unfold sdl
   split
   ·exact hp r hm
   ·exact hR.symm (hp r hm)
  ·rw[if_neg hs] at h
   cases h
 ·rw[y8 hb] at h
  cases h
theorem Xu{R:List Nat->List Nat->Prop}(hR:Wx R){rs:List zr}(hp:∀ p ∈ rs,R p.1 p.2):∀{ss:List Stp} {u v:List Nat},yd rs u ss=some v->R u v
 | [],u,v,h=>by cases h;exact hR.refl _
 | s::ss,u,v,h=>by
  obtain⟨w1,h1,h2⟩:=vH h
  exact hR.trans (Kl hR hp h1) (Xu hR hp h2)
section
variable{k:Nat}{l:List Nat}{ws:List Int}{ps:List zr}
def Dwn(k:Nat)(l:List Nat)(ws:List Int)(ps:List zr):Prop:=∀ p ∈ ps,zL k l ws p.2 p.1=true/\(∀ c ∈ p.1,c ∈ l)/\∀ c ∈ p.2,c ∈ l
theorem zcm(hp:Dwn k l ws ps){u v:List Nat}(h:Rw ps u v):(∀ c ∈ u,c ∈ l) ↔ ∀ c ∈ v,c ∈ l:=by
 obtain⟨p,hm,a,b,rfl,rfl⟩:=h
 obtain⟨_,h1,h2⟩:=hp p hm
 simp only[List.mem_append]
 exact⟨fun h c hc=>hc.elim (fun hc=>hc.elim (fun hc=>h c (.inl (.inl hc))) (h2 c)) (fun hc=>h c (.inr hc)),fun h c hc=>hc.elim (fun hc=>hc.elim (fun hc=>h c (.inl (.inl hc))) (h1 c)) (fun hc=>h c (.inr hc))⟩
theorem Jh(hp:Dwn k l ws ps){u v:List Nat}(h:EqR ps u v):(∀ c ∈ u,c ∈ l) ↔ ∀ c ∈ v,c ∈ l:=by
 induction h with
 | refl u=>exact .rfl
 | symm _ ih=>exact ih.symm
 | trans _ _ i1 i2=>exact i1.trans i2
 | one h=>exact zcm hp h
def zbC(l:List Nat):Nat->List (List Nat)
 | 0=>[[]]
 | n+1=>[]::(zbC l n).flatMap fun w=>l.map (·::w)
theorem XG:∀(n:Nat) (v:List Nat),v.length<=n->(∀ c ∈ v,c ∈ l)->v ∈ zbC l n
 | 0,v,h,_=>by rw[List.length_eq_zero_iff.mp (Nat.le_zero.mp h)];exact az
 | n+1,[],_,_=>az
 | n+1,c::v,h,hm=>aw _ (List.mem_flatMap.mpr ⟨v,XG n v (Nat.le_of_succ_le_succ h) fun x hx=>hm x (aw _ hx),List.mem_map.mpr ⟨c,hm c az,rfl⟩⟩)
theorem QW(G:OG l ws k):∀{v:List Nat},(∀ c ∈ v,c ∈ l)->(v.length:Int)<=zv k l ws v
 | [],_=>wy G fun c hc=>(nomatch hc)
 | c::v,hm=>by
  have h1:=QW G (v:=v) fun x hx=>hm x (aw _ hx)
  have h2:=uk (u:=[c]) G (fun x hx=>hm x (by rw[List.mem_singleton.mp hx];exact az)) (by simp)
  have h3:=xf (k:=k) (l:=l) (ns:=ws) [c] v
  rw[show c::v=[c] ++ v from rfl,h3,am]
  simp only[cu]
  omega
theorem W2(G:OG l ws k)(w:List Nat):∃ Ws:List (List Nat),∀ v,Below k l ws w v->v ∈ Ws:=by
 refine⟨zbC l (zv k l ws w).toNat,fun v hv=>XG _ v ?_ hv.1⟩
 have h1:=QW G hv.1
 have h2:zv k l ws v<=zv k l ws w:=by
  rcases hv.2 with rfl | h
  ·exact fk _
  ·exact Qh h
 omega
theorem YD(G:OG l ws k)(hp:Dwn k l ws ps)(hmet:∀ t ∈ ovA ps ps.length,∃ f,Rws ps (pkA ps t) f/\Rws ps (pkB ps t) f){w:List Nat}{Ws:List (List Nat)}(hin:∀ v,Below k l ws w v->v ∈ Ws):∀(n:Nat) (x:List Nat),mu k l ws Ws x<n->Below k l ws w x->∀ v1 v2,Rws ps x v1->Rws ps x v2->∃ t,Rws ps v1 t/\Rws ps v2 t
 | 0,x,h,_=>absurd h (cL _)
 | n+1,x,hn,hx=>fun v1 v2 h1 h2=>by
  cases h1 with
  | nil=>exact⟨v2,h2,.nil⟩
  | @cons _ y1 _ s1 r1 =>
   cases h2 with
   | nil=>exact⟨v1,.nil,.cons s1 r1⟩
   | @cons _ y2 _ s2 r2 =>
    have b1:=hx.step G hp s1
    have b2:=hx.step G hp s2
    have m1:=zar (Ws:=Ws) (hin _ b1) (uP G hp hx.1 s1).1
    have m2:=zar (Ws:=Ws) (hin _ b2) (uP G hp hx.1 s2).1
    obtain⟨s,j1,j2⟩:=XW hmet s1 s2
    obtain⟨t1,a1,a2⟩:=YD G hp hmet hin n y1 (by omega) b1 v1 s r1 j1
    obtain⟨t,c1,c2⟩:=YD G hp hmet hin n y2 (by omega) b2 t1 v2 (j2.trans a2) r2
    exact⟨t,a1.trans c1,c2⟩
def Met(ps:List zr):Prop:=∀ t ∈ ovA ps ps.length,∃ f,Rws ps (pkA ps t) f/\Rws ps (pkB ps t) f
theorem Kp(G:OG l ws k)(hp:Dwn k l ws ps)(hmet:Met ps){x v1 v2:List Nat}(hx:∀ c ∈ x,c ∈ l)(h1:Rws ps x v1)(h2:Rws ps x v2):∃ t,Rws ps v1 t/\Rws ps v2 t:=by
 obtain⟨Ws,hin⟩:=W2 G x
 exact YD G hp hmet hin _ x (d4 _) ⟨hx,.inl rfl⟩ v1 v2 h1 h2
theorem QY(G:OG l ws k)(hp:Dwn k l ws ps)(hmet:Met ps){u v:List Nat}(h:EqR ps u v):(∀ c ∈ u,c ∈ l)->∃ t,Rws ps u t/\Rws ps v t:=by
 induction h with
 | refl u=>exact fun _=>⟨u,.nil,.nil⟩
 | symm h ih =>
  intro hu
  obtain⟨t,h1,h2⟩:=ih ((Jh hp h).mpr hu)
  exact⟨t,h2,h1⟩
 | trans h _ i1 i2 =>
  intro hu
  have hv:=(Jh hp h).mp hu
  obtain⟨t1,a1,a2⟩:=i1 hu
  obtain⟨t2,b1,b2⟩:=i2 hv
  obtain⟨t,c1,c2⟩:=Kp G hp hmet hv a2 b1
  exact⟨t,a1.trans c1,b2.trans c2⟩
 | one h=>exact fun _=>⟨_,.one h,.nil⟩
theorem zaF(G:OG l ws k)(hp:Dwn k l ws ps){u v:List Nat}(h:Rws ps u v):(∀ c ∈ u,c ∈ l)->Below k l ws u v:=by
 induction h with
 | nil=>exact fun hu=>⟨hu,.inl rfl⟩
 | @cons u v w s _ ih =>
  intro hu
  obtain⟨h1,h2⟩:=uP G hp hu s
  obtain⟨h3,h4⟩:=ih h2
  refine⟨h3,.inr ?_⟩
  rcases h4 with rfl | h4
  ·exact h1
  ·exact yH h4 h1
theorem qA{u v:List Nat}(h:Rws ps u v)(hn:∀ p ∈ ps,¬ Within p.1 u):v=u:=by
 cases h with
 | nil=>rfl
 | cons s _ =>
  obtain⟨p,hm,a,b,e,_⟩:=s
  exact absurd ⟨a,b,e⟩ (hn p hm)
end
theorem uG{a b c:List Nat}(h1:Within a b)(h2:Within b c):Within a c:=by
 obtain⟨x,y,rfl⟩:=h1
 obtain⟨z,t,rfl⟩:=h2
 exact⟨z ++ x,y ++ t,by simp only[ax]⟩
theorem Ym{a b:List Nat}(h1:Within a b)(h2:Within b a):a=b:=by
 obtain⟨x,y,rfl⟩:=h1
 obtain⟨z,t,e⟩:=h2
 have:=congrArg eJ e
 simp only[am] at this
 have hx:x=[]:=List.length_eq_zero_iff.mp (by omega)
 have hy:y=[]:=List.length_eq_zero_iff.mp (by omega)
 rw[hx,hy,bv,aS]
theorem ZZ{α:Type}{r:α->α->Prop}(irr:∀ x,¬ r x x)(tr:∀ x y z,r x y->r y z->r x z):∀{xs ys:List α},xs.Pairwise r->ys.Pairwise r->(∀ x,x ∈ xs ↔ x ∈ ys)->xs=ys
 | [],[],_,_,_=>rfl
 | [],y::ys,_,_,h=>(nomatch (h y).mpr az)
 | x::xs,[],_,_,h=>(nomatch (h x).mp az)
 | x::xs,y::ys,h1,h2,h=>by
  obtain⟨a1,a2⟩:=List.pairwise_cons.mp h1
  obtain⟨b1,b2⟩:=List.pairwise_cons.mp h2
  have e:x=y:=by
   rcases List.mem_cons.mp ((h x).mp az) with e | m1
   ·exact e
   ·rcases List.mem_cons.mp ((h y).mpr az) with e | m2
    ·exact e.symm
    ·exact absurd (tr _ _ _ (a1 y m2) (b1 x m1)) (irr x)
  subst e
  rw[ZZ irr tr a2 b2 fun z=>⟨fun hz=>?_,fun hz=>?_⟩]
  ·rcases List.mem_cons.mp ((h z).mp (aw _ hz)) with rfl | m
   ·exact absurd (a1 z hz) (irr z)
   ·exact m
  ·rcases List.mem_cons.mp ((h z).mpr (aw _ hz)) with rfl | m
   ·exact absurd (b1 z hz) (irr z)
   ·exact m
section
variable{k:Nat}{l:List Nat}{ws:List Int}{es fs:List Ent}
theorem qX{p:zr}(h:p ∈ zc es):∃(i:Nat) (e:Ent),es[i]? = some e/\p=(e.1,e.2.1):=by
 obtain⟨e,he,rfl⟩:=List.mem_map.mp h
 obtain⟨i,hi⟩:=List.mem_iff_getElem?.mp he
 exact⟨i,e,hi,rfl⟩
theorem YB(G:OG l ws k)(h1:ThinL k l ws es)(h2:ThinL k l ws fs)(m2:Met (zc fs))(he:∀ p ∈ zc es,EqR (zc fs) p.1 p.2){p:zr}(hp:p ∈ zc es):∃ q ∈ zc fs,Within q.1 p.1:=by
 refine Classical.byContradiction fun hn=>?_
 obtain⟨d1,d2,d3⟩:=h1.rl.pairs p hp
 obtain⟨t,r1,r2⟩:=QY G h2.rl.pairs m2 (he p hp) d2
 have e:=qA r1 fun q hq hw=>hn ⟨q,hq,hw⟩
 subst e
 rcases (zaF G h2.rl.pairs r2 d3).2 with e | e
 ·rw[<- e,yj] at d1
  cases d1
 ·have:=yH d1 e
  rw[yj] at this
  cases this
theorem ZC(G:OG l ws k)(h1:ThinL k l ws es)(h2:ThinL k l ws fs)(m1:Met (zc es))(m2:Met (zc fs))(he:∀ p ∈ zc es,EqR (zc fs) p.1 p.2)(hf:∀ p ∈ zc fs,EqR (zc es) p.1 p.2){p:zr}(hp:p ∈ zc es):p ∈ zc fs:=by
 obtain⟨q,hq,hw⟩:=YB G h1 h2 m2 he hp
 obtain⟨p',hp',hw'⟩:=YB G h2 h1 m1 hf hq
 obtain⟨i,e,hi,rfl⟩:=qX hp
 obtain⟨j,e',hj,rfl⟩:=qX hp'
 obtain⟨j2,f,hj2,rfl⟩:=qX hq
 have hij:i=j:=bw fun hne=>h1.no1 i j e e' hi hj hne (uG hw' hw)
 subst hij
 rw[hi] at hj
 cases hj
 have ea:e.1=f.1:=Ym hw' hw
 have irb:∀ r ∈ zc fs,¬ Within r.1 e.2.1:=fun r hr hw=>by
  obtain⟨s,hs,hws⟩:=YB G h2 h1 m1 hf hr
  obtain⟨j3,e3,hj3,rfl⟩:=qX hs
  exact h1.no2 i j3 e e3 hi hj3 (uG hws hw)
 have ird:∀ r ∈ zc fs,¬ Within r.1 f.2.1:=fun r hr hw=>by
  obtain⟨j3,f3,hj3,rfl⟩:=qX hr
  exact h2.no2 j2 j3 f f3 hj2 hj3 hw
 have heq:EqR (zc fs) e.2.1 f.2.1:=.trans (.symm (he _ hp)) (by show EqR _ e.1 f.2.1;rw[ea];exact wz hq)
 obtain⟨t,r1,r2⟩:=QY G h2.rl.pairs m2 heq (h1.rl.pairs _ hp).2.2
 have e1:=qA r1 irb
 have e2:=qA r2 ird
 rw[show ((e.1,e.2.1):zr)=(f.1,f.2.1) by rw[ea,<- e1,e2]]
 exact hq
theorem ji(h:ThinL k l ws es):(zc es).Pairwise fun a b:zr=>zL k l ws a.1 b.1=true:=by
 unfold zc
 rw[dQ,dY]
 exact fun i j hi hj hij=>h.up i j _ _ (al hi) (al hj) hij
theorem Qd(G:OG l ws k)(h1:ThinL k l ws es)(h2:ThinL k l ws fs)(m1:Met (zc es))(m2:Met (zc fs))(he:∀ p ∈ zc es,EqR (zc fs) p.1 p.2)(hf:∀ p ∈ zc fs,EqR (zc es) p.1 p.2):zc es=zc fs :=
 ZZ (r:=fun a b:zr=>zL k l ws a.1 b.1=true) (fun x h=>by rw[yj] at h;cases h) (fun x y z h1 h2=>yH h1 h2) (ji h1) (ji h2) fun p=>⟨ZC G h1 h2 m1 m2 he hf,ZC G h2 h1 m2 m1 hf he⟩
end
theorem zbc{ps:List zr}(h:unG ps 40=[]):Met ps:=fun t ht=>by
 have hm:UC ps 40 t=true:=by
  cases e:UC ps 40 t with
  | true=>rfl
  | false =>
   have:t ∈ unG ps 40:=List.mem_filter.mpr ⟨ht,by rw[e];rfl⟩
   rw[h] at this
   cases this
 have e:K6 ps 40 (pkA ps t)=K6 ps 40 (pkB ps t):=of_decide_eq_true hm
 refine⟨K6 ps 40 (pkA ps t),Yl _,?_⟩
 rw[e]
 exact Yl _
theorem VE{k n:Nat}{l:List Nat}{ns:List Int}{kept fresh es:List Ent}{w:Bool}(h:Cpl k l ns n kept fresh w es):w=true->Met (zc es):=by
 induction h with
 | out kept fresh=>exact fun e=>by cases e
 | slim _=>exact fun e=>by cases e
 | far _ _ _ _=>exact fun e=>by cases e
 | whole _ _ _ hu=>exact fun _=>zbc hu
 | more _ _ _ _ _ ih=>exact ih
theorem VO{R:List Nat->List Nat->Prop}(hR:Wx R){k n:Nat}{l:List Nat}{ns:List Int}{kept fresh es:List Ent}{w:Bool}(h:Cpl k l ns n kept fresh w es):w=true->vw R es->vw R fresh:=by
 induction h with
 | out kept fresh=>exact fun e=>by cases e
 | slim _=>exact fun e=>by cases e
 | far _ _ _ _=>exact fun e=>by cases e
 | whole h _ _ _=>exact fun _ hk=>(QZ hR h _ rfl).mp hk
 | more h _ _ _ _ ih=>exact fun e hk=>(QZ hR h _ rfl).mp fun x hx=>ih e hk x (aR _ hx)
theorem Ux{rs:List zr}{i:Nat}{p:zr}(h:rs[i]? = some p):∀{n:Nat},i<n->fE i p ∈ fEs rs n
 | n+1,hi=>by
  show _ ∈ fEs rs n ++ ((rs[n]?).map (fE n)).toList
  rcases Nat.lt_succ_iff_lt_or_eq.mp hi with hi | rfl
  ·exact aR _ (Ux h hi)
  ·rw[h]
   exact aA _ az
theorem WJ{k n m:Nat}{l:List Nat}{ns:List Int}(G:OG l ns k){rs rs':List zr}{k1 k2 es fs:List Ent}(h1:Cpl k l ns n k1 (fEs rs rs.length) true es)(h2:Cpl k l ns m k2 (fEs rs' rs'.length) true fs)(g1:Gd rs k l ns es)(g2:Gd rs' k l ns fs)(t1:ThinL k l ns es)(t2:ThinL k l ns fs)(a1:∀ p ∈ rs',EqR rs p.1 p.2)(a2:∀ p ∈ rs,EqR rs' p.1 p.2):zc es=zc fs:=by
 have key:∀{n:Nat} {rs:List zr} {k1 es:List Ent},Cpl k l ns n k1 (fEs rs rs.length) true es->∀ p ∈ rs,EqR (zc es) p.1 p.2:=fun {n rs k1 es} h p hp=>by
  obtain⟨i,hi⟩:=List.mem_iff_getElem?.mp hp
  exact VO (xU _) h rfl (fun e he=>wz (p:=(e.1,e.2.1)) (List.mem_map.mpr ⟨e,he,rfl⟩)) (fE i p) (Ux hi (List.getElem?_eq_some_iff.mp hi).1)
 have own:∀{rs:List zr} {es:List Ent},Gd rs k l ns es->∀ p ∈ zc es,EqR rs p.1 p.2:=fun {rs es} g p hp=>by
  obtain⟨e,he,rfl⟩:=List.mem_map.mp hp
  exact Xu (xU _) (fun p hp=>wz hp) (g.1 e he)
 refine Qd G t1 t2 (VE h1 rfl) (VE h2 rfl) (fun p hp=>?_) fun p hp=>?_
 ·exact qB (xU _) (key h2) (qB (xU _) a2 (own g1 p hp))
 ·exact qB (xU _) (key h1) (qB (xU _) a1 (own g2 p hp))
def Alk(rs rs':List zr):Prop:=rs'.length=rs.length/\(∀ p ∈ rs',p ∈ rs\/(p.2,p.1) ∈ rs)/\∀ p ∈ rs,p ∈ rs'\/(p.2,p.1) ∈ rs'
theorem Alk.snoc{rs rs':List zr}{r r':zr}(h:Alk rs rs')(e:r'=r\/r'=(r.2,r.1)):Alk (rs ++ [r]) (rs' ++ [r']):=by
 refine⟨by rw[am,am,h.1];rfl,fun p hp=>?_,fun p hp=>?_⟩
 ·rcases List.mem_append.mp hp with hp | hp
  ·exact (h.2.1 p hp).imp (aR _) (aR _)
  ·rw[List.mem_singleton.mp hp]
   rcases e with rfl | rfl
   ·exact .inl (aA _ az)
   ·exact .inr (aA _ az)
 ·rcases List.mem_append.mp hp with hp | hp
  ·exact (h.2.2 p hp).imp (aR _) (aR _)
  ·rw[List.mem_singleton.mp hp]
   rcases e with rfl | rfl
   ·exact .inl (aA _ az)
   ·exact .inr (aA _ az)
theorem Alk.perm{rs rs1 rs2:List zr}(h:Alk rs rs1)(e:rs2.Perm rs1):Alk rs rs2 :=
 ⟨e.length_eq.trans h.1,fun p hp=>h.2.1 p (e.mem_iff.mp hp),fun p hp=>(h.2.2 p hp).imp e.mem_iff.mpr e.mem_iff.mpr⟩
theorem Iss.erase{H:Hp}:∀{ds:List L3.D} {vs:List V} {j:Nat},Iss K H ds vs->Iss K H (ds.eraseIdx j) (vs.eraseIdx j)
 | [],vs,j,h=>by
  simp only[Iss] at h
  subst h
  simp only[dW,Iss]
 | d::ds,vs,j,h=>by
  simp only[Iss] at h
  obtain⟨v,r,rfl,h1,h2⟩:=h
  cases j with
  | zero=>exact h2
  | succ j =>
   simp only[cH,Iss]
   exact⟨v,_,rfl,h1,Iss.erase h2⟩
theorem jS{α:Type}:∀{xs:List α} {j:Nat} {x:α},xs[j]? = some x->(x::xs.eraseIdx j).Perm xs
 | [],j,x,h=>by simp at h
 | y::xs,0,x,h=>by simp at h;rw[h];exact .refl _
 | y::xs,j+1,x,h=>by
  rw[cH]
  exact (List.Perm.swap _ _ _).trans ((jS (by simpa using h)).cons y)
theorem Zi{H H':Hp}{p:Addr}(s:Same H H')(h:H' p=none):H p=none:=by
 cases e:H p with
 | none=>rfl
 | some o =>
  rw[s _ _ e] at h
  cases h
theorem ZG{α β:Type}{g:α->β}:∀{xs:List α} {j:Nat},(xs.map g).eraseIdx j=(xs.eraseIdx j).map g
 | [],j=>by rw[aN,dW,dW];rfl
 | x::xs,0=>rfl
 | x::xs,j+1=>by rw[aC,cH,cH,aC,ZG]
def qz(K:oO):Sp:=fun vs H Q _=>∃(a:Addr) (c:Int) (rs:List zr),vs=[.ref a,.int c]/\uq c/\LsA K H a (rs.map dR)/\rs.length<=20/\∀(D:Addr) (H':Hp) (rs':List zr),H D=none->Same H H'->LsA K H' D (rs'.map dR)->Alk rs rs'->Q (.ref D) H'
theorem gv:zq ["_law_pacts","_law_cell_here","_law_number","_law_left","_law_pact","_law_told_here"] ["_law_pacts","_law_cell_here"] (zb vb):=⟨rfl,rfl,rfl,by decide +kernel,rfl,by decide +kernel,by decide +kernel⟩
theorem Vg{f:Addr}{fd:FuncData}(B:Bt mg)(F:Fun K "_law_turned" "_law_turned" vb f fd)(fY:Df P w K mg base CX0 1 "_law_mixed" ["_law_cell_here","_law_turn"] [] xy):FnOk P w K mg base CX0 2 f fd ["_law_pacts","_law_cell_here"] (qz K):=by
 refine F.ok gv (fun vs H Q E h=>?_) (fun cdv A outer s H vs Q E hr h=>?_)
 ·obtain⟨a,c,rs,rfl,_⟩:=h
  rfl
 ·obtain⟨a,c,rs,rfl,hc,hA,hrl,q⟩:=h
  refine⟨_,(zi (zt (i:=2) gv.nd rfl (Or.inl rfl) (cl0 fY hr .nil rfl (za (pv 1) (za zg ze))))
   (zi (zt (i:=3) gv.nd rfl (Or.inl rfl) (xR ze))
   (zi (yF PassesOwn.never rfl (yC (pv 0)) (zC (i:=4) gv.nd rfl (Or.inl rfl))
    (zi (xJ (vR bc bB bC yW (pv 3) (za (zw ix_list (xR (za (pv 4) (za (z9 (za (zw ix_tup (pv 4) zg (fun _ _=>rfl)) (za (zw ix_tup (pv 4) zg (fun _ _=>rfl)) ze))) ze))) (zB yQ (pv 2) zg) (fun _ _=>rfl)) ze)))
    (zh (zt (i:=2) gv.nd rfl (Or.inl rfl) (zB yV (pv 2) zg)))))
   (zi (zt (i:=2) gv.nd rfl (Or.inl rfl) (cl0 fY hr .nil rfl (za (pv 1) (za zg ze))))
   (zi (zt (i:=5) gv.nd rfl (Or.inl rfl) (xR ze))
   (zi (kH PassesOwn.never (zI op_gt (zp zX rfl B.len aB (za (pv 3) ze)) zg (zK _))
    (zi (xJ (vR bc bB bC yW (pv 5) (za (vR bc PySem.F.slot_list_pop PySem.F.type_list_pop UE (pv 3) (za (zB yQ (pv 2) (zp zX rfl B.len aB (za (pv 3) ze))) ze)) ze)))
    (zh (zt (i:=2) gv.nd rfl (Or.inl rfl) (zB yV (pv 2) (zB op_add (zp zX rfl B.len aB (za (pv 3) ze)) zg))))))
   (zh (zx (pv 5))))))))),?_⟩
  have s16:=ym
  have s16:=ym
  obtain⟨xs,hX,hI⟩:=id hA
  have hxl:=hI.len
  rw[ae] at hxl
  refine zj (fun σ H'=>H'=H/\∃ z:Int,σ=[some (.ref a),some (.int c),some (.int z),none,none,none]) ?_ ?_
  ·rfl'
   exact xq hc (by decide) (by decide) fun z _=>⟨rfl,z,rfl⟩
  rintro σ H1 ⟨rfl,z,rfl⟩
  refine zj (fun σ H'=>∃ D:Addr,H1 D=none/\H'=upd H1 D (.lst [])/\σ=[some (.ref a),some (.int c),some (.int z),some (.ref D),none,none]) ?_ ?_
  ·rfl'
   exact⟨by omega,fun p hp=>⟨p,hp,rfl,rfl⟩⟩
  rintro σ H2 ⟨D,hD,rfl,rfl⟩
  refine zj (fun σ H'=>Same H1 H'/\(∃ rs1:List zr,LsA K H' D (rs1.map dR)/\Alk rs rs1)/\∃(z:Int) (v:Option V),σ=[some (.ref a),some (.int c),some (.int z),some (.ref D),v,none]) ?_ ?_
  ·rfl'
   refine⟨⟨_,SqL.of (zd hD _ _ hX)⟩,ForL.by (xs:=xs) (fun i σ H'=>Same H1 H'/\(∃ rs1:List zr,LsA K H' D (rs1.map dR)/\Alk (rs.take i) rs1)/\∃(z:Int) (v:Option V),σ=[some (.ref a),some (.int c),some (.int z),some (.ref D),v,none]) ⟨zd hD,⟨[],LsA.nil,rfl,fun p h=>(nomatch h),fun p h=>(nomatch h)⟩,_,_,rfl⟩ (fun i σ H' _ h=>SqL.of (h.1 _ _ hX)) ?_ ?_⟩
   ·rintro i x σ H3 hx ⟨s3,⟨rs1,hL1,hAk⟩,z,v,rfl⟩
    have hi:=(List.getElem?_eq_some_iff.mp hx).1
    obtain⟨r,p,hr,rfl,hsq⟩:=hI.getR hx
    have hsq3:=zl s3 hsq
    obtain⟨ys,hY,hJ⟩:=hL1
    have hyl:=hJ.len
    rw[ae,hAk.1,aK] at hyl
    have m0:=be z (b:=2) (by decide)
    have m1:=ba z (b:=2) (by decide)
    simp only[xA,bj,bi]
    refine zj (fun σ H'=>Same H1 H'/\(∃ rs1:List zr,LsA K H' D (rs1.map dR)/\Alk (rs.take (i+1)) rs1)/\σ=[some (.ref a),some (.int c),some (.int z),some (.ref D),some (.ref p),none]) ?_ ?_
    ·rfl'
     have et:rs.take (i+1)=rs.take i ++ [r]:=by
      rw[List.take_add_one,hr]
      rfl
     rw[et]
     refine⟨.inl ⟨_,SqL.of hY⟩,_,hsq3,_,rfl,_,hsq3,_,rfl,by omega,fun p1 hp1=>⟨by omega,fun p2 hp2=>⟨by decide,_,SqL.of zf,?_⟩⟩⟩
     have s5:=(zd (o:=.tup [.str (tx r.2),.str (tx r.1)]) hp1).trans (zd (o:=.lst [V.ref p,V.ref p1]) hp2)
     have hr5:SqT K _ p1 [.str (tx r.2),.str (tx r.1)]:=SqT.of (zd (o:=.lst [V.ref p,V.ref p1]) hp2 _ _ zf)
     rcases (show z % 2=0\/z % 2=1 by omega) with e | e <;> rw[e]
     ·refine⟨_,rfl,ys,s5 _ _ hY,by omega,zG (s3.trans s5) hD,rs1 ++ [r],?_,hAk.snoc (.inl rfl)⟩
      rw[aH]
      exact LsA.snoc (s5 _ _ hY) (Iss.same s5 _ _ hJ) (yT rs1) (jj r) (Wh (zl s5 hsq3))
     ·refine⟨_,rfl,ys,s5 _ _ hY,by omega,zG (s3.trans s5) hD,rs1 ++ [(r.2,r.1)],?_,hAk.snoc (.inr rfl)⟩
      rw[aH]
      exact LsA.snoc (s5 _ _ hY) (Iss.same s5 _ _ hJ) (yT rs1) (jj (r.2,r.1)) (Wh hr5)
    rintro σ H4 ⟨s4,⟨rs4,hL4,hA4⟩,rfl⟩
    rfl'
    exact⟨⟨by decide,by decide⟩,s4,rs4,hL4,hA4⟩
   ·rintro σ H' ⟨s',⟨rs1,h1,h2⟩,z,v,rfl⟩
    rw[bf (by omega)] at h2
    exact⟨s',⟨rs1,h1,h2⟩,z,v,rfl⟩
  rintro σ H3 ⟨s3,⟨rs1,hL1,hAk⟩,z,v,rfl⟩
  refine zj (fun σ H'=>H'=H3/\∃(z:Int) (v:Option V),σ=[some (.ref a),some (.int c),some (.int z),some (.ref D),v,none]) ?_ ?_
  ·rfl'
   exact xq hc (by decide) (by decide) fun z _=>⟨rfl,z,rfl⟩
  rintro σ H4 ⟨rfl,z,v,rfl⟩
  refine zj (fun σ H'=>∃ J:Addr,H4 J=none/\H'=upd H4 J (.lst [])/\∃ v:Option V,σ=[some (.ref a),some (.int c),some (.int z),some (.ref D),v,some (.ref J)]) ?_ ?_
  ·rfl'
   exact⟨by omega,fun p hp=>⟨p,hp,rfl,rfl⟩⟩
  rintro σ H5 ⟨J,hJ,rfl,v,rfl⟩
  have hJD:J≠D:=fun e=>by
   obtain⟨_,h,_⟩:=hL1
   rw[<- e,hJ] at h
   cases h
  have hJ1:H1 J=none:=Zi s3 hJ
  refine zj (fun σ H'=>Same H1 H'/\∃ rs2:List zr,rs2.Perm rs1/\LsA K H' J (rs2.map dR)/\∃(z:Int) (v:Option V),σ=[some (.ref a),some (.int c),some (.int z),some (.ref D),v,some (.ref J)]) ?_ ?_
  ·unfold Y2
   refine⟨fun m σ H'=>Same H1 H'/\∃ la lb:List zr,la.length=m/\(lb ++ la).Perm rs1/\LsA K H' D (la.map dR)/\LsA K H' J (lb.map dR)/\∃(z:Int) (v:Option V),σ=[some (.ref a),some (.int c),some (.int z),some (.ref D),v,some (.ref J)],⟨_,s3.trans (zd hJ),rs1,[],rfl,.refl _,hL1.same (zd hJ),LsA.nil,_,_,rfl⟩,?_⟩
   rintro m σ H' ⟨s',la,lb,rfl,hpm,hLa,hLb,z,v,rfl⟩
   have hpl:=hpm.length_eq
   have ha1:=hAk.1
   rw[am] at hpl
   obtain⟨xa,hXa,hIa⟩:=id hLa
   obtain⟨xb,hXb,hIb⟩:=id hLb
   have hal:=hIa.len
   have hbl:=hIb.len
   rw[ae] at hal hbl
   rfl'
   refine⟨_,.inl ⟨_,SqL.of hXa,rfl⟩,xj (fun hpos=>?_) fun hn=>?_⟩
   ·refine⟨fun σ' H''=>Same H1 H''/\∃ la' lb':List zr,la'.length+1=la.length/\(lb' ++ la').Perm rs1/\LsA K H'' D (la'.map dR)/\LsA K H'' J (lb'.map dR)/\∃(z:Int) (v:Option V),σ'=[some (.ref a),some (.int c),some (.int z),some (.ref D),v,some (.ref J)],?_,?_⟩
    ·rintro σ' H'' ⟨t1,la',lb',t2,t3,t4,t5,z,v,rfl⟩
     exact⟨la'.length,by omega,t1,la',rfl,lb',t3,t4,t5,z,v,rfl⟩
    refine zj (fun σ H''=>Same H1 H''/\∃ la' lb':List zr,la'.length+1=la.length/\(lb' ++ la').Perm rs1/\LsA K H'' D (la'.map dR)/\LsA K H'' J (lb'.map dR)/\σ=[some (.ref a),some (.int c),some (.int z),some (.ref D),v,some (.ref J)]) ?_ ?_
    ·rfl'
     have m0:=be z (b:=(xa.length:Int)) (by omega)
     have m1:=ba z (b:=(xa.length:Int)) (by omega)
     obtain⟨y,e1,_⟩:=vQ (xs:=xa) m0 m1
     obtain⟨j,hj,hy,_⟩:=kB e1
     obtain⟨r,pr,hr,rfl,hsq⟩:=hIa.getR hy
     have ep:=jS hr
     have epl:=ep.length_eq
     rw[aM] at epl
     refine⟨.inl ⟨_,SqL.of hXb⟩,.inl ⟨_,SqL.of hXa⟩,_,.inl ⟨_,SqL.of hXa,rfl⟩,by omega,D,xa,_,j,_,rfl,rfl,hXa,by omega,by omega,hj,hy,?_⟩
     have hXb8:upd H' D (.lst (xa.eraseIdx j)) J=some (.lst xb):=by
      rw[zo hJD]
      exact hXb
     have hIa8:Iss K (upd H' D (.lst (xa.eraseIdx j))) ((la.eraseIdx j).map dR) (xa.eraseIdx j):=by
      have h:=Iss.erase (j:=j) (Iss.updL (zs:=xa.eraseIdx j) hXa _ _ (yT la) hIa)
      rw[ZG] at h
      exact h
     have hIb8:=Iss.updL (zs:=xa.eraseIdx j) hXa _ _ (yT lb) hIb
     refine⟨xb,hXb8,by omega,zG (zG s' hD) hJ1,la.eraseIdx j,epl,lb ++ [r],?_,⟨xa.eraseIdx j,?_,Iss.updL hXb8 _ _ (yT _) hIa8⟩,?_⟩
     ·rw[ax]
      exact (ep.append_left lb).trans hpm
     ·rw[zo (Ne.symm hJD)]
      exact zf
     ·rw[aH]
      exact LsA.snoc hXb8 hIb8 (yT lb) (jj r) (Wh (uV hXa hsq))
    rintro σ H7 ⟨t1,la',lb',t2,t3,t4,t5,rfl⟩
    obtain⟨xc,hXc,hIc⟩:=id t4
    have hcl:=hIc.len
    rw[ae] at hcl
    rfl'
    exact⟨_,.inl ⟨_,SqL.of hXc,rfl⟩,⟨by omega,by omega⟩,t1,la',t2,lb',t3,t4,t5⟩
   ·have hla:la=[]:=List.length_eq_zero_iff.mp (by omega)
    subst hla
    rw[aS] at hpm
    exact⟨s',lb,hpm,xb,hXb,hIb⟩
  rintro σ H6 ⟨s6,rs2,hp,hL2,z,v,rfl⟩
  rfl'
  exact q _ _ rs2 hJ1 s6 hL2 (hAk.perm hp)
structure Drw(H:Hp)(k:Int)(l:List Nat)(ws:List Int)(W:Addr):Prop where
 k0:0<=k
 k3:k<3
 g:j4 l=true
 n:ws.length=l.length
 b:∀ n ∈ ws,1<=n/\n<=1000000
 w:H W=some (.lst (ws.map V.int))
structure PG(l:List Nat)(rs:List zr):Prop where
 n:rs.length<=6
 p:1<=rs.length
 s:∀ r ∈ rs,r.1.length<=3/\r.2.length<=3/\(∀ x ∈ r.1,x ∈ l)/\∀ x ∈ r.2,x ∈ l
theorem PG.ok{l:List Nat}{rs:List zr}(h:PG l rs):jb rs:=⟨by have:=h.n;omega,fun r hr=>by have:=h.s r hr;omega⟩
structure Gdp(l:List Nat)(rs:List zr)(p:zr):Prop where
 a:p.1.length<=60
 b:p.2.length<=60
 ma:∀ c ∈ p.1,c ∈ l
 mb:∀ c ∈ p.2,c ∈ l
 e:EqR rs p.1 p.2
def AG(l:List Nat)(rs rs':List zr):Prop:=(∀ p ∈ rs',Gdp l rs p)/\∀ p ∈ rs,EqR rs' p.1 p.2
theorem AG.more{l:List Nat}{rs rs' rs'':List zr}(h:AG l rs rs')(h1:∀ p ∈ rs'',p ∈ rs'\/Gdp l rs p)(h2:∀ p ∈ rs',p ∈ rs''):AG l rs rs'' :=
 ⟨fun p hp=>(h1 p hp).elim (h.1 p) id,fun p hp=>qB (xU _) (fun p hp=>wz (h2 p hp)) (h.2 p hp)⟩
theorem PG.gdp{l:List Nat}{rs:List zr}(h:PG l rs){p:zr}(hp:p ∈ rs):Gdp l rs p:=by
 obtain⟨h1,h2,h3,h4⟩:=h.s p hp
 exact⟨by omega,by omega,h3,h4,wz hp⟩
theorem Alk.ag{l:List Nat}{rs rs':List zr}(hP:PG l rs)(h:Alk rs rs'):AG l rs rs':=by
 refine⟨fun p hp=>?_,fun p hp=>?_⟩
 ·rcases h.2.1 p hp with h | h
  ·exact hP.gdp h
  ·have g:=hP.gdp h
   exact⟨g.b,g.a,g.mb,g.ma,.symm g.e⟩
 ·rcases h.2.2 p hp with h | h
  ·exact wz h
  ·exact .symm (wz h)
theorem W8(l:List Nat):Wx fun u v:List Nat=>(∀ c ∈ u,c ∈ l) ↔ ∀ c ∈ v,c ∈ l :=
 ⟨fun _=>.rfl,.symm,.trans,fun {u v} a b h=>by
  simp only[List.mem_append]
  exact⟨fun g c hc=>hc.elim (fun hc=>hc.elim (fun hc=>g c (.inl (.inl hc))) (h.mp (fun c hc=>g c (.inl (.inr hc))) c)) (fun hc=>g c (.inr hc)),fun g c hc=>hc.elim (fun hc=>hc.elim (fun hc=>g c (.inl (.inl hc))) (h.mpr (fun c hc=>g c (.inl (.inr hc))) c)) (fun hc=>g c (.inr hc))⟩⟩
theorem PG.walk{l:List Nat}{rs:List zr}(h:PG l rs){w w':List Nat}{ss:List Stp}(hw:∀ c ∈ w,c ∈ l)(hl:w.length<=60)(hl':w'.length<=60)(hs:yd rs w ss=some w'):Gdp l rs (w,w') :=
 ⟨hl,hl',hw,(Xu (W8 l) (fun p hp=>⟨fun _=>(h.s p hp).2.2.2,fun _=>(h.s p hp).2.2.1⟩) hs).mp hw,Xu (xU _) (fun p hp=>wz hp) hs⟩
theorem AG.eb{l:List Nat}{rs rs':List zr}(h:AG l rs rs'):∀ e ∈ fEs rs' rs'.length,EB l e:=fun e he=>by
 obtain⟨i,p,hi,hp,rfl⟩:=ke he
 have g:=h.1 p (af hp)
 exact⟨g.a,g.b,by show ([((i:Int),(0:Int),true)]:List Stp).length<=600;simp,g.ma,g.mb⟩
theorem PG.ag{l:List Nat}{rs:List zr}(h:PG l rs):AG l rs rs:=⟨fun _ hp=>h.gdp hp,fun _ hp=>wz hp⟩
def Tld(K:oO)(H:Hp)(k:Nat)(l:List Nat)(ws:List Int)(rs:List zr)(p:Addr)(w:Bool)(D:Addr)(es:List Ent):Prop:=H p=some (.tup [.bl w,.ref D])/\EnsM K H D es/\Gd rs k l ws es/\∃ m,Cpl k l ws m [] (fEs rs rs.length) w es
theorem Tld.thin{H:Hp}{k:Nat}{l:List Nat}{ws:List Int}{rs:List zr}{p D:Addr}{w:Bool}{es:List Ent}(h:Tld K H k l ws rs p w D es):ThinL k l ws es/\es.length<=12:=by
 rcases h.2.2.1.2 with rfl | ⟨h,hb,_⟩
 ·exact⟨⟨⟨fun e he=>(nomatch he),fun e he=>(nomatch he)⟩,fun i j a b h=>by simp at h,fun i j a b h=>by simp at h,fun i j a b h=>by simp at h⟩,aJ _⟩
 ·exact⟨h,(kM hb).1⟩
def YR(K:oO)(T:Addr):Sp:=fun vs H Q _=>∃(a:Addr) (ns:List Int),vs=[.ref a]/\SqL K H a (ns.map V.int)/\(∀ z ∈ ns,uq z)/\H T=some (.tbl #[])/\∀ H',Q (.bl true) H'
theorem gu:zq ["_law_script","_law_kind","_law_letters_here","_law_weights","_law_count","_law_pacts","_law_again","_law_word_here","_law_order_here","_law_one","_law_other","_law_pairs"] ["_law_script"] (zb uJ):=⟨rfl,rfl,rfl,by decide +kernel,rfl,by decide +kernel,by decide +kernel⟩
theorem zao{f CO CR CW TB:Addr}{fd:FuncData}(B:Bt mg)(F:Fun K "law" "law" uJ f fd)(oE:Df P w K mg base CX0 3 "_law_draw" ["_law_cell_here"] [] Z9)(mq:Df P w K mg base CX0 1 "_law_cell" ["_law_script","_law_k"] [] (qV K))(oo:Df P w K mg base CX0 2 "_law_turned" ["_law_pacts","_law_cell_here"] [] (qz K))(oy:Df P w K mg base CX0 6 "_law_order" ["_law_kind","_law_letters_here","_law_weights"] [] (kR K CO CR CW))(mP:Df P w K mg base CX0 10 "completed" ["order","pacts","rounds"] [] (VR K CO CR CW TB))(oF:Df P w K mg base CX0 2 "_law_pair" ["_law_cell_here","_law_letters_here","_law_most"] [] ql)(ni:Df P w K mg base CX0 1 "_law_word" ["_law_number","_law_letters_here","_law_most"] [] je)(fY:Df P w K mg base CX0 1 "_law_mixed" ["_law_cell_here","_law_turn"] [] xy)(oj:Df P w K mg base CX0 4 "_law_told" ["_law_found"] [] (kq K))(oG:Df P w K mg base CX0 2 "_law_end" ["_law_pacts","_law_word_here","_law_steps_here"] [] (XH K))(oz:Df P w K mg base CX0 3 "_law_chain" ["_law_pacts","_law_word_here","_law_cells","_law_most"] [] (uX K)):FnOk P w K mg base CX0 11 f fd ["_law_script"] (YR K TB):=by
 refine F.ok gu (fun vs H Q E h=>?_) (fun cdv A outer s H vs Q E hr h=>?_)
 ·obtain⟨a,ns,rfl,_⟩:=h
  rfl
 ·obtain⟨a,ns,rfl,hS,hB,hT,q⟩:=h
  refine⟨_,(zi (Q1 (cl0 oE hr .nil rfl (za (cl0 mq hr .nil rfl (za (pv 0) (za zg ze))) ze)) (uC (n:=3) rfl (z8 (zC (i:=1) gu.nd rfl (Or.inl rfl)) (z8 (zC (i:=2) gu.nd rfl (Or.inr rfl)) (z8 (zC (i:=3) gu.nd rfl (Or.inl rfl)) wT)))))
   (zi (zt (i:=4) gu.nd rfl (Or.inl rfl) (cl0 mq hr .nil rfl (za (pv 0) (za zg ze))))
   (zi (vt (i:=5) gu.nd rfl (Or.inl rfl) (Or.inl rfl) (own:=["_law_k"]) (caps:=["_law_script","_law_letters_here"]) (ix:=[0,2]) (tt:=vT) (te:=(jt ql [] E0 (zP (jt (qV K) [] E0 (zP (xx 1) (zP (tOp UL (tC (.int 2)) (xx 0)) vf))) (zP (xx 2) (zP (tC (.int 3)) vf))))) rfl (yb (sc:=zb uJ) rfl (by decide +kernel) (by decide +kernel) (by decide +kernel) rfl (by decide +kernel) (by decide +kernel) rfl) (xO rfl B.range (za (zB yB zg (zB yQ (pv 4) zg)) ze)) (fun _ _ _ _ _ _=>zC (i:=0) (show List.Nodup [_,_,_] by decide) rfl (Or.inl rfl)) (fun _ _ _ _ _ _=>xv) (fun _ _ _ _ _ _=>(cl0 oF hr .nil rfl (za (cl0 mq hr .nil rfl (za (pv 1) (za (zB yB zg (pv 0)) ze))) (za (pv 2) (za zg ze))))))
   (zi (zt (i:=6) gu.nd rfl (Or.inl rfl) (cl0 oo hr .nil rfl (za (pv 5) (za (cl0 mq hr .nil rfl (za (pv 0) (za zg ze))) ze))))
   (zi (ya (zI qT (zB yQ (zB yV (pv 4) zg) zg) zg (zK _))
    (zh (zt (i:=6) gu.nd rfl (Or.inl rfl) (zB yB (pv 6) (xR (za (zw ix_list (pv 5) zg (fun _ _=>rfl)) ze)))))
    zD)
   (zi (ya (zI qT (zB yQ (zB yV (pv 4) zg) zg) zg (zK _))
    (zi (zt (i:=7) gu.nd rfl (Or.inl rfl) (cl0 ni hr .nil rfl (za (cl0 fY hr .nil rfl (za (cl0 mq hr .nil rfl (za (pv 0) (za zg ze))) (za zg ze))) (za (pv 2) (za zg ze)))))
    (zh (xJ (vR bc PySem.F.slot_list_insert PySem.F.type_list_insert KW (pv 6) (za zg (za (z9 (za (pv 7) (za (cl0 oG hr .nil rfl (za (pv 5) (za (pv 7) (za (cl0 oz hr .nil rfl (za (pv 5) (za (pv 7) (za (yl sl_list (pv 0) (yh zg) (yh zg)) (za zg ze))))) ze)))) ze))) ze))))))
    zD)
   (zi (zt (i:=8) gu.nd rfl (Or.inl rfl) (cl0 oy hr .nil rfl (za (pv 1) (za (pv 2) (za (pv 3) ze)))))
   (zi (zt (i:=9) gu.nd rfl (Or.inl rfl) (cl0 mP hr .nil rfl (za (pv 8) (za (xL xo rfl B.list PySem.Pv.boot_list (za (pv 5) ze)) (za (zB yB zg (zB yQ (zB yV (pv 4) zg) zg)) ze)))))
   (zi (zt (i:=10) gu.nd rfl (Or.inl rfl) (cl0 mP hr .nil rfl (za (pv 8) (za (xL xo rfl B.list PySem.Pv.boot_list (za (pv 6) ze)) (za (zB yB zg (zB yQ (zB yV (pv 4) zg) zg)) ze)))))
   (zi (ya (PW.pt (uu (yn (xz (cl0 oj hr .nil rfl (za (pv 9) ze)) (fun _=>rfl))) (vB (yn (xz (cl0 oj hr .nil rfl (za (pv 10) ze)) (fun _=>rfl))))))
    (zh (zx xM))
    zD)
   (zi (ya (PW.pt (uu (yn (xz (zw ix_tup (pv 9) zg (fun _ _=>rfl)) (fun _=>rfl))) (vB (yn (xz (zw ix_tup (pv 10) zg (fun _ _=>rfl)) (fun _=>rfl))))))
    (zh (zx xM))
    zD)
   (zi (vt (i:=11) gu.nd rfl (Or.inl rfl) (Or.inl rfl) (own:=["_law_entry"]) (caps:=[]) (ix:=[]) (tt:=vT) (te:=(Uz (zP (tOp (uO K) (xx 0) (tC (.int 0))) (zP (tOp (uO K) (xx 0) (tC (.int 1))) vf)))) rfl (yb (sc:=zb uJ) rfl (by decide +kernel) (by decide +kernel) (by decide +kernel) rfl (by decide +kernel) (by decide +kernel) rfl) (yC (zw ix_tup (pv 9) zg (fun _ _=>rfl))) (fun _ _ _ _ _ _=>zC (i:=0) (show List.Nodup [_] by decide) rfl (Or.inl rfl)) (fun _ _ _ _ _ _=>xv) (fun _ _ _ _ _ _=>(z9 (za (zw ix_tup (pv 0) zg (fun _ _=>rfl)) (za (zw ix_tup (pv 0) zg (fun _ _=>rfl)) ze)))))
   (zh (zx (ui (Jc (Yi hr)) (pv 11) (xY (own:=["_law_entry"]) (caps:=[]) (ix:=[]) (tt:=vT) (te:=(Uz (zP (tOp (uO K) (xx 0) (tC (.int 0))) (zP (tOp (uO K) (xx 0) (tC (.int 1))) vf)))) rfl (yb (sc:=zb uJ) rfl (by decide +kernel) (by decide +kernel) (by decide +kernel) rfl (by decide +kernel) (by decide +kernel) rfl) (yC (zw ix_tup (pv 10) zg (fun _ _=>rfl))) (fun _ _ _ _ _ _=>zC (i:=0) (show List.Nodup [_] by decide) rfl (Or.inl rfl)) (fun _ _ _ _ _ _=>xv) (fun _ _ _ _ _ _=>(z9 (za (zw ix_tup (pv 0) zg (fun _ _=>rfl)) (za (zw ix_tup (pv 0) zg (fun _ _=>rfl)) ze))))) (zK _)))))))))))))))),?_⟩
  have s16:=ym
  have s16:=ym
  have hTab:TabOk H TB lp lq:=⟨#[],hT,trivial,.inl rfl⟩
  refine zj (fun σ H'=>Same H H'/\∃(k:Int) (l:List Nat) (W:Addr),(∃ ws,Drw H' k l ws W)/\σ=[some (.ref a),some (.int k),some (.str (tx l)),some (.ref W),none,none,none,none,none,none,none,none]) ?_ ?_
  ·rfl'
   refine vI hS hB (by decide) fun c hc=>⟨c,rfl,hc,fun k l ws p W H' a1 a2 a3 a4 a5 s' hp hW=>?_⟩
   exact⟨p,rfl,_,SqT.of hp,rfl,_,_,rfl,_,_,rfl,_,_,rfl,rfl,s',k,l,W,⟨ws,a1,a2,a3,a4,a5,hW⟩,rfl,rfl,rfl⟩
  rintro σ H1 ⟨s1,k,l,W,⟨ws,hw⟩,rfl⟩
  obtain⟨l1,l6,lsm,lnd⟩:=of_decide_eq_true hw.g
  have hG:OG l ws k.toNat:=⟨hw.g,by have:=hw.k0;have:=hw.k3;omega,hw.n,hw.b⟩
  have hS1:=s1.seq hS
  refine zj (fun σ H'=>H'=H1/\∃ n:Int,σ=[some (.ref a),some (.int k),some (.str (tx l)),some (.ref W),some (.int n),none,none,none,none,none,none,none]) ?_ ?_
  ·rfl'
   exact vI hS1 hB (by decide) fun n _=>⟨rfl,n,rfl⟩
  rintro σ H1 ⟨rfl,n,rfl⟩
  refine zj (fun σ H'=>Same H1 H'/\∃ pa:Addr,(∃ rs,LsA K H' pa (rs.map dR)/\PG l rs)/\σ=[some (.ref a),some (.int k),some (.str (tx l)),some (.ref W),some (.int n),some (.ref pa),none,none,none,none,none,none]) ?_ ?_
  ·rfl'
   have e0:=be n (b:=3) (by decide)
   have e1:=ba n (b:=3) (by decide)
   refine⟨by decide,by omega,by omega,fun D hD=>CompR.by (fun i acc H'=>Same H1 H'/\H' D=some (.lst acc)/\∃ rs:List zr,Iss K H' (rs.map dR) acc/\rs.length=i/\∀ r ∈ rs,r.1.length<=3/\r.2.length<=3/\(∀ x ∈ r.1,x ∈ l)/\∀ x ∈ r.2,x ∈ l) ⟨zd hD,zf,[],by simp only[aN,Iss],rfl,fun r h=>(nomatch h)⟩ ?_ ?_⟩
   ·rintro i acc H' hi ⟨hs,hH,rs,hI,hrl,hrb⟩
    have hal:=hI.len
    rw[ae] at hal
    have hi4:i<5:=by omega
    simp only[vT]
    rfl'
    refine⟨wD,vI (hs.seq hS1) hB (by omega) fun c3 hc3=>UH hc3 (by omega) (by omega) (by decide) (by decide) fun o n p ho hn mo mn hp=>⟨zd hp _ _ hH,by omega,CNx.mk hi ⟨zG (hs.trans (zd hp)) hD,zf,rs ++ [(o,n)],?_,by rw[am,hrl];rfl,fun r hr'=>?_⟩⟩⟩
    ·rw[aH]
     exact w8 hH hI hp Qa (yT rs) (by simp only[zR,xt,and_self])
    ·rcases List.mem_append.mp hr' with h | h
     ·exact hrb r h
     ·rw[List.mem_singleton.mp h]
      exact⟨by show o.length<=3;omega,by show n.length<=3;omega,mo,mn⟩
   ·rintro acc H' ⟨hs,hH,rs,hI,hrl,hrb⟩
    exact⟨hs,D,⟨rs,⟨acc,hH,hI⟩,by omega,by omega,hrb⟩,rfl⟩
  rintro σ H2 ⟨s2,pa,⟨rs,hP,hPG⟩,rfl⟩
  obtain⟨px,hPx,hPi⟩:=id hP
  have hpn:=hPG.n
  have hpp:=hPG.p
  refine zj (fun σ H'=>Same H2 H'/\∃ ag:Addr,H2 ag=none/\(∃ rs',LsA K H' ag (rs'.map dR)/\rs'.length=rs.length/\AG l rs rs')/\σ=[some (.ref a),some (.int k),some (.str (tx l)),some (.ref W),some (.int n),some (.ref pa),some (.ref ag),none,none,none,none,none]) ?_ ?_
  ·rfl'
   exact vI (s2.seq hS1) hB (by decide) fun c hc=>⟨pa,c,rs,rfl,hc,hP,by omega,fun D H' rs' hn s' hL hk=>⟨s',D,hn,⟨rs',hL,hk.1,hk.ag hPG⟩,rfl⟩⟩
  rintro σ H3 ⟨s3,ag,hag,⟨rs3,hA3,hn3,hg3⟩,rfl⟩
  refine zj (fun σ H'=>Same H3 H'/\∃ ag:Addr,H2 ag=none/\(∃ rs',LsA K H' ag (rs'.map dR)/\rs'.length<=7/\AG l rs rs')/\σ=[some (.ref a),some (.int k),some (.str (tx l)),some (.ref W),some (.int n),some (.ref pa),some (.ref ag),none,none,none,none,none]) ?_ ?_
  ·rfl'
   refine⟨⟨by decide,by decide⟩,by decide,xj (fun _=>?_) fun _=>⟨Same.refl _,ag,hag,⟨rs3,hA3,by omega,hg3⟩,rfl⟩⟩
   obtain⟨xp,hXp,hIp⟩:=hP.same s3
   obtain⟨xa,hXa,hIa⟩:=hA3
   have hxl:=hIp.len
   have hxa:=hIa.len
   rw[ae] at hxl hxa
   obtain⟨v0,e1,e2⟩:=vQ (xs:=xp) (i:=0) (by decide) (by omega)
   obtain⟨r,pr,hr,rfl,hsq⟩:=hIp.getR e2
   refine⟨_,SqL.of hXp,_,e1,by omega,fun p hp=>⟨xa,zd hp _ _ hXa,_,zf,by simp only[cu];omega,fun p1 hp1=>⟨(zd hp).trans (zd hp1),p1,s3.free ((zd hp).free hp1),⟨rs3 ++ [r],⟨_,zf,?_⟩,by simp only[am,cu];omega,hg3.more (fun p hp=>?_) fun p hp=>aR _ hp⟩,rfl⟩⟩⟩
   ·rw[aH]
    exact Iss.append (Iss.same ((zd hp).trans (zd hp1)) _ _ hIa) (VX (Is.same ((zd hp).trans (zd hp1)) _ _ (Wh hsq)))
   ·rcases List.mem_append.mp hp with hp | hp
    ·exact .inl hp
    ·rw[List.mem_singleton.mp hp]
     exact .inr (hPG.gdp (af hr))
  rintro σ H4 ⟨s4,ag,hag,⟨rs4,hA4,hn4,hg4⟩,rfl⟩
  have hS4:=(s2.trans (s3.trans s4)).seq hS1
  refine zj (fun σ H'=>Same H2 H'/\(∃ rs',LsA K H' ag (rs'.map dR)/\rs'.length<=8/\AG l rs rs')/\∃ v:Option V,σ=[some (.ref a),some (.int k),some (.str (tx l)),some (.ref W),some (.int n),some (.ref pa),some (.ref ag),v,none,none,none,none]) ?_ ?_
  ·rfl'
   refine⟨⟨by decide,by decide⟩,by decide,xj (fun _=>?_) fun _=>⟨s3.trans s4,rs4,hA4,by omega,hg4⟩⟩
   refine zj (fun σ H'=>H'=H4/\∃ w:List Nat,w.length<=3/\(∀ c ∈ w,c ∈ l)/\σ=[some (.ref a),some (.int k),some (.str (tx l)),some (.ref W),some (.int n),some (.ref pa),some (.ref ag),some (.str (tx w)),none,none,none,none]) ?_ ?_
   ·rfl'
    exact vI hS4 hB (by decide) fun c hc=>xq hc (by decide) (by decide) fun z hz=>kY hz (by omega) (by omega) (by decide) (by decide) fun w hw1 hw2=>⟨rfl,w,by omega,hw2,rfl⟩
   rintro σ H5 ⟨rfl,w,hwl,hwi,rfl⟩
   obtain⟨xa,hXa,hIa⟩:=id hA4
   have hal:=hIa.len
   rw[ae] at hal
   rfl'
   refine⟨.inl ⟨_,SqL.of hXa⟩,_,hS4,fun p hp=>?_⟩
   rw[Vt ns (by decide) (by decide)]
   have hcb:∀ z ∈ (ns.drop (7:Int).toNat).take ((14:Int) - 7).toNat,uq z:=fun z hz=>hB z (cf (bu hz))
   have hcl:((ns.drop (7:Int).toNat).take ((14:Int) - 7).toNat).length<=7:=by rw[aK];exact Nat.min_le_left _ _
   generalize (ns.drop (7:Int).toNat).take ((14:Int) - 7).toNat=cs at hcb hcl ⊢
   have sp:=zd (o:=.lst (cs.map V.int)) hp
   have hP5:=hP.same (s3.trans s4)
   refine Uf (hP5.same sp).is hPG.ok (by omega) (by decide) (SqL.of zf) hcb (by omega) fun T H6 ss w' hT s6 hL6 hwk hw' hsl _=>Ku (hP5.same (sp.trans s6)).is hPG.ok (by omega) hL6.is (by omega) hwk ⟨by omega,fun p2 hp2=>?_⟩
   have s7:=(sp.trans s6).trans (zd (o:=.tup [.str (tx w),.str (tx w')]) hp2)
   have hXa7:=s7 _ _ hXa
   refine⟨ag,xa,_,rfl,rfl,hXa7,by omega,zG ((s3.trans s4).trans s7) hag,(w,w')::rs4,⟨_,zf,?_⟩,by rw[aM];omega,hg4.more (fun p hp=>?_) fun p hp=>aw _ hp⟩
   ·rw[aC]
    simp only[Iss]
    exact⟨_,_,rfl,Is.updL hXa7 _ _ (jj _) (Wh (SqT.of zf)),Iss.updL hXa7 _ _ (yT _) (Iss.same s7 _ _ hIa)⟩
   ·rcases List.mem_cons.mp hp with rfl | hp
    ·exact .inr (hPG.walk hwi (by omega) hw' hwk)
    ·exact .inl hp
  rintro σ H5 ⟨s5,⟨rs5,hA5,hn5,hg5⟩,v,rfl⟩
  have sX:=s1.trans (s2.trans s5)
  refine zj (fun σ H'=>Same H5 H'/\∃ o:Addr,OrdAt CO CR CW H' o k.toNat l ws/\σ=[some (.ref a),some (.int k),some (.str (tx l)),some (.ref W),some (.int n),some (.ref pa),some (.ref ag),v,some (.ref o),none,none,none]) ?_ ?_
  ·rfl'
   exact⟨k,l,W,ws,rfl,hw.k0,hw.k3,hw.g,(s2.trans s5) _ _ hw.w,hw.n,hw.b,fun o H' s' ho=>⟨s',o,ho,rfl⟩⟩
  rintro σ H6 ⟨s6,o,ho,rfl⟩
  have hTab6:=hTab.same (sX.trans s6)
  obtain⟨tp,htp,_⟩:=id hTab6
  have hP6:=hP.same (s5.trans s6)
  have hA6:=hA5.same s6
  refine zj (fun σ H'=>SamT TB H6 H'/\TabOk H' TB lp lq/\∃(fp D:Addr) (w:Bool) (es:List Ent),Tld K H' k.toNat l ws rs fp w D es/\σ=[some (.ref a),some (.int k),some (.str (tx l)),some (.ref W),some (.int n),some (.ref pa),some (.ref ag),v,some (.ref o),some (.ref fp),none,none]) ?_ ?_
  ·repeat (first | rfl' | simp only[yx,zA,zJ,yz,yA,zy])
   have hag:=hPG.ag
   have c0:=be (n / 12) (b:=3) (by decide)
   have c1:=ba (n / 12) (b:=3) (by decide)
   obtain⟨px6,hPx6,hPi6⟩:=id hP6
   refine⟨_,.inl (SqL.of hPx6),fun hd hh=>⟨⟨by decide,by decide⟩,by decide,?_⟩⟩
   rw[show 1+n / 12 % 3=((1+n / 12 % 3).toNat:Int) by omega]
   exact⟨o,hd,k.toNat,l,ws,rs,_,rfl,OrdAt.same ho (zd hh),hG,⟨px6,zf,Iss.same (zd hh) _ _ hPi6⟩,by omega,fun p hp=>⟨aO (hag.1 p hp).a (by decide),aO (hag.1 p hp).b (by decide),(hag.1 p hp).ma,(hag.1 p hp).mb⟩,fun p hp=>⟨(hag.1 p hp).a,(hag.1 p hp).b⟩,by omega,hTab6.same (zd hh),fun w es p D H' hC hBG hs hTk hp hM=>⟨(SamT.of (zd hh)).trans hs,hTk,p,⟨D,w,es,hp,hM,Jx hG hC hag.eb (fun e he=>Y1 he) ⟨fun e he=>(nomatch he),.inl rfl⟩,_,hC⟩,rfl⟩⟩
  rintro σ H7 ⟨s7,hTab7,f1,D1,w1,es1,t1,rfl⟩
  obtain⟨tp7,htp7,_⟩:=id hTab7
  refine zj (fun σ H'=>SamT TB H7 H'/\∃(fp D:Addr) (w:Bool) (es:List Ent),Tld K H' k.toNat l ws rs5 fp w D es/\σ=[some (.ref a),some (.int k),some (.str (tx l)),some (.ref W),some (.int n),some (.ref pa),some (.ref ag),v,some (.ref o),some (.ref f1),some (.ref fp),none]) ?_ ?_
  ·repeat (first | rfl' | simp only[yx,zA,zJ,yz,yA,zy])
   have c0:=be (n / 36) (b:=3) (by decide)
   have c1:=ba (n / 36) (b:=3) (by decide)
   obtain⟨px6,hPx6,hPi6⟩:=id (LsA.samT hA6 s7 htp)
   refine⟨_,.inl (SqL.of hPx6),fun hd hh=>⟨⟨by decide,by decide⟩,by decide,?_⟩⟩
   rw[show 1+n / 36 % 3=((1+n / 36 % 3).toNat:Int) by omega]
   exact⟨o,hd,k.toNat,l,ws,rs5,_,rfl,OrdAt.same (ho.samT s7 htp) (zd hh),hG,⟨px6,zf,Iss.same (zd hh) _ _ hPi6⟩,by omega,fun p hp=>⟨aO (hg5.1 p hp).a (by decide),aO (hg5.1 p hp).b (by decide),(hg5.1 p hp).ma,(hg5.1 p hp).mb⟩,fun p hp=>⟨(hg5.1 p hp).a,(hg5.1 p hp).b⟩,by omega,hTab7.same (zd hh),fun w es p D H' hC hBG hs hTk hp hM=>⟨(SamT.of (zd hh)).trans hs,p,⟨D,w,es,hp,hM,Jx hG hC hg5.eb (fun e he=>Y1 he) ⟨fun e he=>(nomatch he),.inl rfl⟩,_,hC⟩,rfl⟩⟩
  rintro σ H8 ⟨s8,f2,D2,w2,es2,t2,rfl⟩
  have t3:Tld K H8 k.toNat l ws rs f1 w1 D1 es1:=⟨s8.at htp7 t1.1 (fun _ z=>by cases z),t1.2.1.samT s8 htp7,t1.2.2⟩
  refine zj (fun σ H'=>H'=H8/\σ=[some (.ref a),some (.int k),some (.str (tx l)),some (.ref W),some (.int n),some (.ref pa),some (.ref ag),v,some (.ref o),some (.ref f1),some (.ref f2),none]) ?_ ?_
  ·repeat (first | rfl' | simp only[yx,zA,zJ,yz,yA,zy])
   exact⟨f1,D1,w1,es1,rfl,t3.1,t3.2.1.l,true,rfl,xj (fun e=>by cases e) fun _=>⟨f2,D2,w2,es2,rfl,t2.1,t2.2.1.l,true,rfl,xj (fun e=>by cases e) fun _=>rfl⟩⟩
  rintro σ H9 ⟨rfl,rfl⟩
  refine zj (fun σ H'=>H'=H9/\w1=true/\w2=true/\σ=[some (.ref a),some (.int k),some (.str (tx l)),some (.ref W),some (.int n),some (.ref pa),some (.ref ag),v,some (.ref o),some (.ref f1),some (.ref f2),none]) ?_ ?_
  ·repeat (first | rfl' | simp only[yx,zA,zJ,yz,yA,zy])
   exact⟨_,SqT.of t3.1,_,rfl,_,rfl,xj (fun _=>q _) fun h1=>⟨_,SqT.of t2.1,_,rfl,_,rfl,xj (fun _=>q _) fun h2=>⟨by simpa using h1,by simpa using h2⟩⟩⟩
  rintro σ H10 ⟨rfl,rfl,rfl,rfl⟩
  refine zj (fun σ H'=>Same H10 H'/\∃ E:Addr,LsA K H' E ((zc es1).map dR)/\σ=[some (.ref a),some (.int k),some (.str (tx l)),some (.ref W),some (.int n),some (.ref pa),some (.ref ag),v,some (.ref o),some (.ref f1),some (.ref f2),some (.ref E)]) ?_ ?_
  ·repeat (first | rfl' | simp only[yx,zA,zJ,yz,yA,zy])
   obtain⟨xe,hXe,hEn⟩:=id t3.2.1
   have hxl:=hEn.len
   have hpl:=vM es1
   have hle:=t3.thin.2
   refine⟨_,SqT.of t3.1,_,rfl,D1,rfl,⟨_,SqL.of hXe⟩,fun D hD=>CompL.by (xs:=xe) (fun i acc H'=>Same H10 H'/\H' D=some (.lst acc)/\Iss K H' (((zc es1).take i).map dR) acc) ⟨zd hD,zf,by simp only[bA,aN,Iss]⟩ (fun i acc H' _ h=>SqL.of (h.1 _ _ hXe)) ?_ ?_⟩
   ·rintro i x acc H' hx ⟨hs,hH,hA⟩
    have hi:=(List.getElem?_eq_some_iff.mp hx).1
    obtain⟨e,pe,se,hei,rfl,hqe,_⟩:=hEn.get hx
    have hm:(zc es1)[i]? = some (e.1,e.2.1):=by unfold zc;rw[aG,hei];rfl
    have hal:=hA.len
    rw[ae,aK] at hal
    simp only[vT]
    rfl'
    refine⟨wD,_,zl hs hqe,_,rfl,_,zl hs hqe,_,rfl,by omega,fun p hp=>⟨zd hp _ _ hH,by omega,CNx.mk hi ⟨zG (hs.trans (zd hp)) hD,zf,?_⟩⟩⟩
    rw[zW hm,aH]
    exact w8 hH hA hp Qa (yT _) (by simp only[zR,xt,and_self])
   ·rintro acc H' ⟨hs,hH,hA⟩
    rw[hxl,<- hpl,aQ] at hA
    exact⟨hs,D,⟨acc,hH,hA⟩,rfl⟩
  rintro σ H11 ⟨s11,E1,hE1,rfl⟩
  obtain⟨m1,hC1⟩:=t3.2.2.2
  obtain⟨m2,hC2⟩:=t2.2.2.2
  have hone:zc es1=zc es2:=WJ hG hC1 hC2 t3.2.2.1 t2.2.2.1 t3.thin.1 t2.thin.1 (fun p hp=>(hg5.1 p hp).e) hg5.2
  have t4:=t2.2.1.same s11
  obtain⟨xe,hXe,hEn⟩:=id t4
  have hxl:=hEn.len
  have hpl:=vM es2
  have hle:=t2.thin.2
  repeat (first | rfl' | simp only[yx,zA,zJ,yz,yA,zy])
  refine⟨_,SqT.of (s11 _ _ t2.1),_,rfl,D2,rfl,⟨_,SqL.of hXe⟩,fun D hD=>CompL.by (xs:=xe) (fun i acc H'=>Same H11 H'/\H' D=some (.lst acc)/\Iss K H' (((zc es2).take i).map dR) acc) ⟨zd hD,zf,by simp only[bA,aN,Iss]⟩ (fun i acc H' _ h=>SqL.of (h.1 _ _ hXe)) ?_ ?_⟩
  ·rintro i x acc H' hx ⟨hs,hH,hA⟩
   have hi:=(List.getElem?_eq_some_iff.mp hx).1
   obtain⟨e,pe,se,hei,rfl,hqe,_⟩:=hEn.get hx
   have hm:(zc es2)[i]? = some (e.1,e.2.1):=by unfold zc;rw[aG,hei];rfl
   have hal:=hA.len
   rw[ae,aK] at hal
   simp only[vT]
   rfl'
   refine⟨wD,_,zl hs hqe,_,rfl,_,zl hs hqe,_,rfl,by omega,fun p hp=>⟨zd hp _ _ hH,by omega,CNx.mk hi ⟨zG (hs.trans (zd hp)) hD,zf,?_⟩⟩⟩
   rw[zW hm,aH]
   exact w8 hH hA hp Qa (yT _) (by simp only[zR,xt,and_self])
  ·rintro acc H' ⟨hs,hH,hA⟩
   rw[hxl,<- hpl,aQ] at hA
   refine WC (.inl ⟨(hE1.same hs).is,LsA.is ⟨acc,hH,hA⟩⟩) (cp (Jm _) (by decide)) ?_
   rw[hone,vD]
   exact q _
end
theorem ZL{us:List Value}(h:us.length=1):∃ a,us=[a]:=List.length_eq_one_iff.mp h
theorem uh{us:List Value}(h:us.length=2):∃ a0 a1,us=[a0,a1]:=by
 cases us with
 | nil=>cases h
 | cons a r =>
  obtain⟨a1,rfl⟩:=ZL (Nat.succ.inj h)
  exact⟨a,a1,rfl⟩
theorem Ya{us:List Value}(h:us.length=3):∃ a0 a1 a2,us=[a0,a1,a2]:=by
 cases us with
 | nil=>cases h
 | cons a r =>
  obtain⟨a1,a2,rfl⟩:=uh (Nat.succ.inj h)
  exact⟨a,a1,a2,rfl⟩
theorem zab{us:List Value}(h:us.length=4):∃ a0 a1 a2 a3,us=[a0,a1,a2,a3]:=by
 cases us with
 | nil=>cases h
 | cons a r =>
  obtain⟨a1,a2,a3,rfl⟩:=Ya (Nat.succ.inj h)
  exact⟨a,a1,a2,a3,rfl⟩
theorem zdl{us:List Value}(h:us.length=5):∃ a0 a1 a2 a3 a4,us=[a0,a1,a2,a3,a4]:=by
 cases us with
 | nil=>cases h
 | cons a r =>
  obtain⟨a1,a2,a3,a4,rfl⟩:=zab (Nat.succ.inj h)
  exact⟨a,a1,a2,a3,a4,rfl⟩
theorem zda{us:List Value}(h:us.length=6):∃ a0 a1 a2 a3 a4 a5,us=[a0,a1,a2,a3,a4,a5]:=by
 cases us with
 | nil=>cases h
 | cons a r =>
  obtain⟨a1,a2,a3,a4,a5,rfl⟩:=zdl (Nat.succ.inj h)
  exact⟨a,a1,a2,a3,a4,a5,rfl⟩
theorem zdz{us:List Value}(h:us.length=7):∃ a0 a1 a2 a3 a4 a5 a6,us=[a0,a1,a2,a3,a4,a5,a6]:=by
 cases us with
 | nil=>cases h
 | cons a r =>
  obtain⟨a1,a2,a3,a4,a5,a6,rfl⟩:=zda (Nat.succ.inj h)
  exact⟨a,a1,a2,a3,a4,a5,a6,rfl⟩
theorem all_mk{l:PySem.W.OpenLaw}{w:World}{K:oO}{h:Heap}{mg:Str->Option Value}{fa f0 f1 f2 f3 f4 f5 f6 f7 f8 f9 f10 f11 f12 f13 f14 f15 f16 f17 f18 f19 f20 f21 f22 f23 f24 f25 f26 f27 f28 f29 f30 f31 f32 f33 f34 f35 f36 f37 f38 f39 f40 f41 f42 f43 f44 f45 f46 nF fM fP fG fF fB fJ fL fQ fH:Addr}{cc TB:Addr}(X:K.In h)(G:h.Ns oK mg)(hfa:mg "law" = some (.ref fa))(hlam:∃ a o fd,mg "in_order" = some (.ref a)/\h.get? a=some o/\o.data=.func fd/\fd.code=.ref cc)(hgT:oK≠TB)
{od0 an0 od1 an1 od2 an2 od3 an3 od4 an4 od5 an5 od6 an6 od7 an7 od8 an8 od9 an9 od10 an10 od11 an11 od12 an12 od13 an13 od14 an14 od15 an15 od16 an16 od17 an17 od18 an18 od19 an19 od20 an20 od21 an21 od22 an22 od23 an23 od24 an24 od25 an25 od26 an26 od27 an27 od28 an28 od29 an29 od30 an30 od31 an31 od32 an32 od33 an33 od34 an34 od35 an35 od36 an36 od37 an37 od38 an38 od39 an39 od40 an40 od41 an41 od42 an42 od43 an43 od44 an44 od45 an45 od46 an46:Option Addr}{sl0 sl1 sl2 sl3 sl4 sl5 sl6 sl7 sl8 sl9 sl10 sl11 sl12 sl13 sl14 sl15 ym sl17 sl18 sl19 sl20 sl21 sl22 sl23 sl24 sl25 sl26 sl27 sl28 sl29 sl30 sl31 sl32 sl33 sl34 sl35 sl36 sl37 sl38 sl39 sl40 sl41 sl42 sl43 sl44 sl45 sl46:Array (Option Value)}{oc0 kV0 dc0 pm0 cd0 ct0 oc1 kV1 dc1 pm1 cd1 ct1 oc2 kV2 dc2 pm2 cd2 ct2 oc3 kV3 dc3 pm3 cd3 ct3 oc4 kV4 dc4 pm4 cd4 ct4 oc5 kV5 dc5 pm5 cd5 ct5 oc6 kV6 dc6 pm6 cd6 ct6 oc7 kV7 dc7 pm7 cd7 ct7 oc8 kV8 dc8 pm8 cd8 ct8 oc9 kV9 dc9 pm9 cd9 ct9 oc10 kV10 dc10 pm10 cd10 ct10 oc11 kV11 dc11 pm11 cd11 ct11 oc12 kV12 dc12 pm12 cd12 ct12 oc13 kV13 dc13 pm13 cd13 ct13 oc14 kV14 dc14 pm14 cd14 ct14 oc15 kV15 dc15 pm15 cd15 ct15 oc16 kV16 dc16 pm16 cd16 ct16 oc17 kV17 dc17 pm17 cd17 ct17 oc18 kV18 dc18 pm18 cd18 ct18 oc19 kV19 dc19 pm19 cd19 ct19 oc20 kV20 dc20 pm20 cd20 ct20 oc21 kV21 dc21 pm21 cd21 ct21 oc22 kV22 dc22 pm22 cd22 ct22 oc23 kV23 dc23 pm23 cd23 ct23 oc24 kV24 dc24 pm24 cd24 ct24 oc25 kV25 dc25 pm25 cd25 ct25 oc26 kV26 dc26 pm26 cd26 ct26 oc27 kV27 dc27 pm27 cd27 ct27 oc28 kV28 dc28 pm28 cd28 ct28 oc29 kV29 dc29 pm29 cd29 ct29 oc30 kV30 dc30 pm30 cd30 ct30 oc31 kV31 dc31 pm31 cd31 ct31 oc32 kV32 dc32 pm32 cd32 ct32 oc33 kV33 dc33 pm33 cd33 ct33 oc34 kV34 dc34 pm34 cd34 ct34 oc35 kV35 dc35 pm35 cd35 ct35 oc36 kV36 dc36 pm36 cd36 ct36 oc37 kV37 dc37 pm37 cd37 ct37 oc38 kV38 dc38 pm38 cd38 ct38 oc39 kV39 dc39 pm39 cd39 ct39 oc40 kV40 dc40 pm40 cd40 ct40 oc41 kV41 dc41 pm41 cd41 ct41 oc42 kV42 dc42 pm42 cd42 ct42 oc43 kV43 dc43 pm43 cd43 ct43 oc44 kV44 dc44 pm44 cd44 ct44 oc45 kV45 dc45 pm45 cd45 ct45 oc46 kV46 dc46 pm46 cd46 ct46:Value}
  {t6 t7:Tok}
  {fI:Addr}
  {odI anI:Option Addr}
  {slI:Array (Option Value)}
  {ocI kVI dcI pmI cdI ctI:Value}
  {t8:Tok}
  {fU:Addr}
  {odU anU:Option Addr}
  {slU:Array (Option Value)}
  {ocU kVU dcU pmU cdU ctU:Value}
  {tmu tms tmd tmp:Tok}
  {tcu tce tcd tcp:Tok}
  {gc:Addr}
  {od_order_init an_order_init:Option Addr}
  {sl_order_init:Array (Option Value)}
  {oc_order_init kV_order_init dc_order_init pm_order_init cd_order_init ct_order_init:Value}
  {gh:Addr}
  {od_order_weight an_order_weight:Option Addr}
  {sl_order_weight:Array (Option Value)}
  {oc_order_weight kV_order_weight dc_order_weight pm_order_weight cd_order_weight ct_order_weight:Value}
  {gB:Addr}
  {od_order_seen an_order_seen:Option Addr}
  {sl_order_seen:Array (Option Value)}
  {oc_order_seen kV_order_seen dc_order_seen pm_order_seen cd_order_seen ct_order_seen:Value}
  {gp:Addr}
  {od_fromright_seen an_fromright_seen:Option Addr}
  {sl_fromright_seen:Array (Option Value)}
  {oc_fromright_seen kV_fromright_seen dc_fromright_seen pm_fromright_seen cd_fromright_seen ct_fromright_seen:Value}
  {gq:Addr}
  {od_byweights_init an_byweights_init:Option Addr}
  {sl_byweights_init:Array (Option Value)}
  {oc_byweights_init kV_byweights_init dc_byweights_init pm_byweights_init cd_byweights_init ct_byweights_init:Value}
  {fZ:Addr}
  {od_byweights_weight an_byweights_weight:Option Addr}
  {sl_byweights_weight:Array (Option Value)}
  {oc_byweights_weight kV_byweights_weight dc_byweights_weight pm_byweights_weight cd_byweights_weight ct_byweights_weight:Value}
  {gd:Addr}
  {od_order_rank an_order_rank:Option Addr}
  {sl_order_rank:Array (Option Value)}
  {oc_order_rank kV_order_rank dc_order_rank pm_order_rank cd_order_rank ct_order_rank:Value}
  {fR:Addr}
  {od_order_before an_order_before:Option Addr}
  {sl_order_before:Array (Option Value)}
  {oc_order_before kV_order_before dc_order_before pm_order_before cd_order_before ct_order_before:Value}
  {gM:Addr}
  {od_system_init an_system_init:Option Addr}
  {sl_system_init:Array (Option Value)}
  {oc_system_init kV_system_init dc_system_init pm_system_init cd_system_init ct_system_init:Value}
  {fW:Addr}
  {od_system_rules_told an_system_rules_told:Option Addr}
  {sl_system_rules_told:Array (Option Value)}
  {oc_system_rules_told kV_system_rules_told dc_system_rules_told pm_system_rules_told cd_system_rules_told ct_system_rules_told:Value}
  {mH:Addr}
  {lr:Tok}
  {d1_gone:Value}
  {d2_gone:Option Addr}
  {d3_gone:Nat}
  {d4_gone:Array (Option Value)}
  {lV:Addr}
  {lT:Tok}
  {d1_unmet:Value}
  {d2_unmet:Option Addr}
  {d3_unmet:Nat}
  {d4_unmet:Array (Option Value)}
  (a0:ak K oK "is_small_letter" = some (some (.ref f0))) (l0:K.lookup f0=some ⟨oc0,od0,.func (av "is_small_letter" "is_small_letter" (zm zU) (zk zU) (zb zU) .none kV0 dc0 pm0 an0 cd0 ct0),sl0⟩) (k0:ar K cd0 "is_small_letter" = true) (p0:aj K (.ref f0)=true)
  (a1:ak K oK "letters_of" = some (some (.ref f1))) (l1:K.lookup f1=some ⟨oc1,od1,.func (av "letters_of" "letters_of" (zm yP) (zk yP) (zb yP) .none kV1 dc1 pm1 an1 cd1 ct1),sl1⟩) (k1:ar K cd1 "letters_of" = true) (p1:aj K (.ref f1)=true)
  (a2:ak K oK "stands_at" = some (some (.ref f2))) (l2:K.lookup f2=some ⟨oc2,od2,.func (av "stands_at" "stands_at" (zm xg) (zk xg) (zb xg) .none kV2 dc2 pm2 an2 cd2 ct2),sl2⟩) (k2:ar K cd2 "stands_at" = true) (p2:aj K (.ref f2)=true)
  (a3:ak K oK "put" = some (some (.ref f3))) (l3:K.lookup f3=some ⟨oc3,od3,.func (av "put" "put" (zm Wo) (zk Wo) (zb Wo) .none kV3 dc3 pm3 an3 cd3 ct3),sl3⟩) (k3:ar K cd3 "put" = true) (p3:aj K (.ref f3)=true)
  (a4:ak K oK "first_within" = some (some (.ref f4))) (l4:K.lookup f4=some ⟨oc4,od4,.func (av "first_within" "first_within" (zm yw) (zk yw) (zb yw) .none kV4 dc4 pm4 an4 cd4 ct4),sl4⟩) (k4:ar K cd4 "first_within" = true) (p4:aj K (.ref f4)=true)
  (a5:ak K oK "first_from" = some (some (.ref f5))) (l5:K.lookup f5=some ⟨oc5,od5,.func (av "first_from" "first_from" (zm yR) (zk yR) (zb yR) .none kV5 dc5 pm5 an5 cd5 ct5),sl5⟩) (k5:ar K cd5 "first_from" = true) (p5:aj K (.ref f5)=true)
  (a6:ak K oK "gone" = some (some (.ref f6))) (l6:K.lookup f6=some ⟨oc6,od6,.func (av "gone" "gone" (zm vk) (zk vk) (zb vk) (.ref mH) kV6 dc6 pm6 an6 cd6 ct6),sl6⟩) (k6:ar K cd6 "gone" = true) (p6:aj K (.ref f6)=true)
  (a7:ak K oK "back" = some (some (.ref f7))) (l7:K.lookup f7=some ⟨oc7,od7,.func (av "back" "back" (zm qr) (zk qr) (zb qr) .none kV7 dc7 pm7 an7 cd7 ct7),sl7⟩) (k7:ar K cd7 "back" = true) (p7:aj K (.ref f7)=true)
  (a8:ak K oK "moved" = some (some (.ref f8))) (l8:K.lookup f8=some ⟨oc8,od8,.func (av "moved" "moved" (zm vq) (zk vq) (zb vq) .none kV8 dc8 pm8 an8 cd8 ct8),sl8⟩) (k8:ar K cd8 "moved" = true) (p8:aj K (.ref f8)=true)
  (a9:ak K oK "by_pacts" = some (some (.ref f9))) (l9:K.lookup f9=some ⟨oc9,od9,.func (av "by_pacts" "by_pacts" (zm xE) (zk xE) (zb xE) .none kV9 dc9 pm9 an9 cd9 ct9),sl9⟩) (k9:ar K cd9 "by_pacts" = true) (p9:aj K (.ref f9)=true)
  (a10:ak K oK "pairs_of" = some (some (.ref f10))) (l10:K.lookup f10=some ⟨oc10,od10,.func (av "pairs_of" "pairs_of" (zm y0) (zk y0) (zb y0) .none kV10 dc10 pm10 an10 cd10 ct10),sl10⟩) (k10:ar K cd10 "pairs_of" = true) (p10:aj K (.ref f10)=true)
  (a11:ak K oK "as_rule" = some (some (.ref f11))) (l11:K.lookup f11=some ⟨oc11,od11,.func (av "as_rule" "as_rule" (zm wf) (zk wf) (zb wf) .none kV11 dc11 pm11 an11 cd11 ct11),sl11⟩) (k11:ar K cd11 "as_rule" = true) (p11:aj K (.ref f11)=true)
  (a12:ak K oK "in_order" = some (some (.ref f12))) (l12:K.lookup f12=some ⟨oc12,od12,.func (av "in_order" "in_order" (zm yK) (zk yK) (zb yK) .none kV12 dc12 pm12 an12 cd12 ct12),sl12⟩) (k12:ar K cd12 "in_order" = true) (p12:aj K (.ref f12)=true)
  (a13:ak K oK "brought_down" = some (some (.ref f13))) (l13:K.lookup f13=some ⟨oc13,od13,.func (av "brought_down" "brought_down" (zm yv) (zk yv) (zb yv) .none kV13 dc13 pm13 an13 cd13 ct13),sl13⟩) (k13:ar K cd13 "brought_down" = true) (p13:aj K (.ref f13)=true)
  (a14:ak K oK "refuse_beyond" = some (some (.ref f14))) (l14:K.lookup f14=some ⟨oc14,od14,.func (av "refuse_beyond" "refuse_beyond" (zm yg) (zk yg) (zb yg) .none kV14 dc14 pm14 an14 cd14 ct14),sl14⟩) (k14:ar K cd14 "refuse_beyond" = true) (p14:aj K (.ref f14)=true)
  (a15:ak K oK "built_anew" = some (some (.ref f15))) (l15:K.lookup f15=some ⟨oc15,od15,.func (av "built_anew" "built_anew" (zm yO) (zk yO) (zb yO) .none kV15 dc15 pm15 an15 cd15 ct15),sl15⟩) (k15:ar K cd15 "built_anew" = true) (p15:aj K (.ref f15)=true)
  (a16:ak K oK "thinned" = some (some (.ref f16))) (l16:K.lookup f16=some ⟨oc16,od16,.func (av "thinned" "thinned" (zm we) (zk we) (zb we) .none kV16 dc16 pm16 an16 cd16 ct16),ym⟩) (k16:ar K cd16 "thinned" = true) (p16:aj K (.ref f16)=true)
  (a17:ak K oK "_law_cell" = some (some (.ref f17))) (l17:K.lookup f17=some ⟨oc17,od17,.func (av "_law_cell" "_law_cell" (zm jH) (zk jH) (zb jH) .none kV17 dc17 pm17 an17 cd17 ct17),sl17⟩) (k17:ar K cd17 "_law_cell" = true) (p17:aj K (.ref f17)=true)
  (a18:ak K oK "_law_mixed" = some (some (.ref f18))) (l18:K.lookup f18=some ⟨oc18,od18,.func (av "_law_mixed" "_law_mixed" (zm vW) (zk vW) (zb vW) .none kV18 dc18 pm18 an18 cd18 ct18),sl18⟩) (k18:ar K cd18 "_law_mixed" = true) (p18:aj K (.ref f18)=true)
  (a19:ak K oK "_law_letters" = some (some (.ref f19))) (l19:K.lookup f19=some ⟨oc19,od19,.func (av "_law_letters" "_law_letters" (zm wd) (zk wd) (zb wd) .none kV19 dc19 pm19 an19 cd19 ct19),sl19⟩) (k19:ar K cd19 "_law_letters" = true) (p19:aj K (.ref f19)=true)
  (a20:ak K oK "_law_word" = some (some (.ref f20))) (l20:K.lookup f20=some ⟨oc20,od20,.func (av "_law_word" "_law_word" (zm jz) (zk jz) (zb jz) .none kV20 dc20 pm20 an20 cd20 ct20),sl20⟩) (k20:ar K cd20 "_law_word" = true) (p20:aj K (.ref f20)=true)
  (a21:ak K oK "_law_pair" = some (some (.ref f21))) (l21:K.lookup f21=some ⟨oc21,od21,.func (av "_law_pair" "_law_pair" (zm jW) (zk jW) (zb jW) .none kV21 dc21 pm21 an21 cd21 ct21),sl21⟩) (k21:ar K cd21 "_law_pair" = true) (p21:aj K (.ref f21)=true)
  (a22:ak K oK "_law_whole" = some (some (.ref f22))) (l22:K.lookup f22=some ⟨oc22,od22,.func (av "_law_whole" "_law_whole" (zm uo) (zk uo) (zb uo) .none kV22 dc22 pm22 an22 cd22 ct22),sl22⟩) (k22:ar K cd22 "_law_whole" = true) (p22:aj K (.ref f22)=true)
  (a23:ak K oK "_law_steps" = some (some (.ref f23))) (l23:K.lookup f23=some ⟨oc23,od23,.func (av "_law_steps" "_law_steps" (zm uc) (zk uc) (zb uc) .none kV23 dc23 pm23 an23 cd23 ct23),sl23⟩) (k23:ar K cd23 "_law_steps" = true) (p23:aj K (.ref f23)=true)
  (a24:ak K oK "_law_used" = some (some (.ref f24))) (l24:K.lookup f24=some ⟨oc24,od24,.func (av "_law_used" "_law_used" (zm jK) (zk jK) (zb jK) .none kV24 dc24 pm24 an24 cd24 ct24),sl24⟩) (k24:ar K cd24 "_law_used" = true) (p24:aj K (.ref f24)=true)
  (a25:ak K oK "_law_uses" = some (some (.ref f25))) (l25:K.lookup f25=some ⟨oc25,od25,.func (av "_law_uses" "_law_uses" (zm jF) (zk jF) (zb jF) .none kV25 dc25 pm25 an25 cd25 ct25),sl25⟩) (k25:ar K cd25 "_law_uses" = true) (p25:aj K (.ref f25)=true)
  (a26:ak K oK "_law_chain" = some (some (.ref f26))) (l26:K.lookup f26=some ⟨oc26,od26,.func (av "_law_chain" "_law_chain" (zm uj) (zk uj) (zb uj) .none kV26 dc26 pm26 an26 cd26 ct26),sl26⟩) (k26:ar K cd26 "_law_chain" = true) (p26:aj K (.ref f26)=true)
  (a27:ak K oK "_law_end" = some (some (.ref f27))) (l27:K.lookup f27=some ⟨oc27,od27,.func (av "_law_end" "_law_end" (zm Wg) (zk Wg) (zb Wg) .none kV27 dc27 pm27 an27 cd27 ct27),sl27⟩) (k27:ar K cd27 "_law_end" = true) (p27:aj K (.ref f27)=true)
  (a28:ak K oK "_law_order" = some (some (.ref f28))) (l28:K.lookup f28=some ⟨oc28,od28,.func (av "_law_order" "_law_order" (zm ux) (zk ux) (zb ux) .none kV28 dc28 pm28 an28 cd28 ct28),sl28⟩) (k28:ar K cd28 "_law_order" = true) (p28:aj K (.ref f28)=true)
  (a29:ak K oK "_law_draw" = some (some (.ref f29))) (l29:K.lookup f29=some ⟨oc29,od29,.func (av "_law_draw" "_law_draw" (zm jJ) (zk jJ) (zb jJ) .none kV29 dc29 pm29 an29 cd29 ct29),sl29⟩) (k29:ar K cd29 "_law_draw" = true) (p29:aj K (.ref f29)=true)
  (a30:ak K oK "_law_entries" = some (some (.ref f30))) (l30:K.lookup f30=some ⟨oc30,od30,.func (av "_law_entries" "_law_entries" (zm wj) (zk wj) (zb wj) .none kV30 dc30 pm30 an30 cd30 ct30),sl30⟩) (k30:ar K cd30 "_law_entries" = true) (p30:aj K (.ref f30)=true)
  (a31:ak K oK "agree" = some (some (.ref f31))) (l31:K.lookup f31=some ⟨oc31,od31,.func (av "agree" "agree" (zm ug) (zk ug) (zb ug) .none kV31 dc31 pm31 an31 cd31 ct31),sl31⟩) (k31:ar K cd31 "agree" = true) (p31:aj K (.ref f31)=true)
  (a32:ak K oK "overlaps" = some (some (.ref f32))) (l32:K.lookup f32=some ⟨oc32,od32,.func (av "overlaps" "overlaps" (zm xF) (zk xF) (zb xF) .none kV32 dc32 pm32 an32 cd32 ct32),sl32⟩) (k32:ar K cd32 "overlaps" = true) (p32:aj K (.ref f32)=true)
  (a33:ak K oK "peak" = some (some (.ref f33))) (l33:K.lookup f33=some ⟨oc33,od33,.func (av "peak" "peak" (zm jB) (zk jB) (zb jB) .none kV33 dc33 pm33 an33 cd33 ct33),sl33⟩) (k33:ar K cd33 "peak" = true) (p33:aj K (.ref f33)=true)
  (a34:ak K oK "form_of" = some (some (.ref f34))) (l34:K.lookup f34=some ⟨oc34,od34,.func (av "form_of" "form_of" (zm wb) (zk wb) (zb wb) .none kV34 dc34 pm34 an34 cd34 ct34),sl34⟩) (k34:ar K cd34 "form_of" = true) (p34:aj K (.ref f34)=true)
  (a35:ak K oK "is_met" = some (some (.ref f35))) (l35:K.lookup f35=some ⟨oc35,od35,.func (av "is_met" "is_met" (zm ve) (zk ve) (zb ve) .none kV35 dc35 pm35 an35 cd35 ct35),sl35⟩) (k35:ar K cd35 "is_met" = true) (p35:aj K (.ref f35)=true)
  (a36:ak K oK "unmet" = some (some (.ref f36))) (l36:K.lookup f36=some ⟨oc36,od36,.func (av "unmet" "unmet" (zm x0) (zk x0) (zb x0) (.ref lV) kV36 dc36 pm36 an36 cd36 ct36),sl36⟩) (k36:ar K cd36 "unmet" = true) (p36:aj K (.ref f36)=true)
  (a37:ak K oK "system_by" = some (some (.ref f37))) (l37:K.lookup f37=some ⟨oc37,od37,.func (av "system_by" "system_by" (zm xl) (zk xl) (zb xl) .none kV37 dc37 pm37 an37 cd37 ct37),sl37⟩) (k37:ar K cd37 "system_by" = true) (p37:aj K (.ref f37)=true)
  (a38:ak K oK "first_entries" = some (some (.ref f38))) (l38:K.lookup f38=some ⟨oc38,od38,.func (av "first_entries" "first_entries" (zm zV) (zk zV) (zb zV) .none kV38 dc38 pm38 an38 cd38 ct38),sl38⟩) (k38:ar K cd38 "first_entries" = true) (p38:aj K (.ref f38)=true)
  (a39:ak K oK "is_beyond" = some (some (.ref f39))) (l39:K.lookup f39=some ⟨oc39,od39,.func (av "is_beyond" "is_beyond" (zm yI) (zk yI) (zb yI) .none kV39 dc39 pm39 an39 cd39 ct39),sl39⟩) (k39:ar K cd39 "is_beyond" = true) (p39:aj K (.ref f39)=true)
  (a40:ak K oK "thinned_within" = some (some (.ref f40))) (l40:K.lookup f40=some ⟨oc40,od40,.func (av "thinned_within" "thinned_within" (zm zZ) (zk zZ) (zb zZ) .none kV40 dc40 pm40 an40 cd40 ct40),sl40⟩) (k40:ar K cd40 "thinned_within" = true) (p40:aj K (.ref f40)=true)
  (a41:ak K oK "unmet_within" = some (some (.ref f41))) (l41:K.lookup f41=some ⟨oc41,od41,.func (av "unmet_within" "unmet_within" (zm yu) (zk yu) (zb yu) .none kV41 dc41 pm41 an41 cd41 ct41),sl41⟩) (k41:ar K cd41 "unmet_within" = true) (p41:aj K (.ref f41)=true)
  (a42:ak K oK "entry_of" = some (some (.ref f42))) (l42:K.lookup f42=some ⟨oc42,od42,.func (av "entry_of" "entry_of" (zm xB) (zk xB) (zb xB) .none kV42 dc42 pm42 an42 cd42 ct42),sl42⟩) (k42:ar K cd42 "entry_of" = true) (p42:aj K (.ref f42)=true)
  (a43:ak K oK "completed" = some (some (.ref f43))) (l43:K.lookup f43=some ⟨oc43,od43,.func (av "completed" "completed" (zm yJ) (zk yJ) (zb yJ) .none kV43 dc43 pm43 an43 cd43 ct43),sl43⟩) (k43:ar K cd43 "completed" = true) (p43:aj K (.ref f43)=true)
  (a44:ak K oK "_law_told" = some (some (.ref f44))) (l44:K.lookup f44=some ⟨oc44,od44,.func (av "_law_told" "_law_told" (zm jy) (zk jy) (zb jy) .none kV44 dc44 pm44 an44 cd44 ct44),sl44⟩) (k44:ar K cd44 "_law_told" = true) (p44:aj K (.ref f44)=true)
  (a45:ak K oK "_law_turned" = some (some (.ref f45))) (l45:K.lookup f45=some ⟨oc45,od45,.func (av "_law_turned" "_law_turned" (zm vb) (zk vb) (zb vb) .none kV45 dc45 pm45 an45 cd45 ct45),sl45⟩) (k45:ar K cd45 "_law_turned" = true) (p45:aj K (.ref f45)=true)
  (a46:ak K oK "law" = some (some (.ref f46))) (l46:K.lookup f46=some ⟨oc46,od46,.func (av "law" "law" (zm uJ) (zk uJ) (zb uJ) .none kV46 dc46 pm46 an46 cd46 ct46),sl46⟩) (k46:ar K cd46 "law" = true) (p46:aj K (.ref f46)=true)
  (g_LetterError:ak K oK "LetterError" = some (some (.ref nF)))
  (g_NoLetters:ak K oK "NoLetters" = some (some (.ref fM)))
  (g_NoOrder:ak K oK "NoOrder" = some (some (.ref fP)))
  (g_Order:ak K oK "Order" = some (some (.ref fG)))
  (g_FromRight:ak K oK "FromRight" = some (some (.ref fF)))
  (g_ByWeights:ak K oK "ByWeights" = some (some (.ref fB)))
  (g_NotTurned:ak K oK "NotTurned" = some (some (.ref fJ)))
  (g_System:ak K oK "System" = some (some (.ref fL)))
  (g_NoUse:ak K oK "NoUse" = some (some (.ref fQ)))
  (g_TooFar:ak K oK "TooFar" = some (some (.ref fH)))
  (kbb:aT K (.type "bool") (.type "bool")=some true)
  (kt:aT K (.type "tuple") (.type "tuple")=some true)
  (ki:aT K (.type "int") (.type "int")=some true)
  (kb:aT K (.type "int") (.type "bool")=some false)
  (kl:aT K (.type "list") (.type "list")=some true)
  (x7:cA K (.builtin "object.__class__") "__get__" = some (some (.builtin "getset_descriptor.__get__")))
  (x8:du K (.builtin "object.__class__")=some true)
  (x1:Z8 K fM=true)
  (x2:ah K (.ref fM) "__setattr__" = some (some (.builtin "object.__setattr__")))
  (x3:ah K (.ref fM) "__getattribute__" = some (some (.builtin "BaseException.__getattribute__")))
  (x4:ah K (.ref fM) "__getattr__" = some none)
  (x5:aj K (.ref fM)=true)
  (x6:ah K (.ref fM) "__class__" = some (some (.builtin "object.__class__")))
  (x9:bP K fM (.type "object")=some true)
  (xi:ah K (.ref fM) "__init__" = some (some (.builtin "ValueError.__init__")))
  (y1:Z8 K fP=true)
  (y2:ah K (.ref fP) "__setattr__" = some (some (.builtin "object.__setattr__")))
  (y3:ah K (.ref fP) "__getattribute__" = some (some (.builtin "BaseException.__getattribute__")))
  (y4:ah K (.ref fP) "__getattr__" = some none)
  (y5:aj K (.ref fP)=true)
  (y6:ah K (.ref fP) "__class__" = some (some (.builtin "object.__class__")))
  (y9:bP K fP (.type "object")=some true)
  (yi:ah K (.ref fP) "__init__" = some (some (.builtin "ValueError.__init__")))
  (most:ak K oK "MOST_LETTERS" = some (some (.int 6 t6)))
  (mostw:ak K oK "MOST_WEIGHT" = some (some (.int 1000000 t7)))
  (mT:bT K fG eF=true)
  (mU:bQ K fG=true)
  (mV:cz K fG=true)
  (mX:ah K (.ref fG) "__setattr__" = some (some (.builtin "object.__setattr__")))
  (mY:cK K fG=true)
  (mZ:aj K (.ref fG)=true)
  (nc:ah K (.ref fG) "letters" = some none)
  (nP:aT K (.ref fG) (.ref fG)=some true)
  (nQ:ah K (.ref fG) "__class__" = some (some (.builtin "object.__class__")))
  (nR:bP K fG (.type "object")=some true)
  (lu:bT K fF eF=true)
  (lv:bQ K fF=true)
  (lw:cz K fF=true)
  (lx:ah K (.ref fF) "__setattr__" = some (some (.builtin "object.__setattr__")))
  (ly:cK K fF=true)
  (lA:aj K (.ref fF)=true)
  (lB:ah K (.ref fF) "letters" = some none)
  (mr:aT K (.ref fF) (.ref fG)=some true)
  (mv:ah K (.ref fF) "__class__" = some (some (.builtin "object.__class__")))
  (mw:bP K fF (.type "object")=some true)
  (lC:bT K fB eF=true)
  (lD:bQ K fB=true)
  (lE:cz K fB=true)
  (lF:ah K (.ref fB) "__setattr__" = some (some (.builtin "object.__setattr__")))
  (lG:cK K fB=true)
  (lH:aj K (.ref fB)=true)
  (lJ:ah K (.ref fB) "letters" = some none)
  (mx:aT K (.ref fB) (.ref fG)=some true)
  (my:ah K (.ref fB) "__class__" = some (some (.builtin "object.__class__")))
  (mz:bP K fB (.type "object")=some true)
  (nw_ByWeights:ah K (.ref fB) "weights" = some none)
  (sgO:cA K (.ref fG) "__getattribute__" = some (some (.builtin "type.__getattribute__")))
  (rdO:fu K fG (.type "type")=true)
  (win:ak K oK "WINDOW" = some (some (.int 128 t8)))
  (tt1:Z8 K fJ=true)
  (tt2:ah K (.ref fJ) "__setattr__" = some (some (.builtin "object.__setattr__")))
  (tt3:ah K (.ref fJ) "__getattribute__" = some (some (.builtin "BaseException.__getattribute__")))
  (tt4:ah K (.ref fJ) "__getattr__" = some none)
  (tt5:aj K (.ref fJ)=true)
  (tt6:ah K (.ref fJ) "__class__" = some (some (.builtin "object.__class__")))
  (tt9:bP K fJ (.type "object")=some true)
  (nn:ah K (.ref fJ) "number" = some none)
  (ini:ah K (.ref fJ) "__init__" = some (some (.ref fI)))
  (lI:K.lookup fI=some ⟨ocI,odI,.func (av "__init__" "NotTurned.__init__" (zm zY) (zk zY) (zb zY) .none kVI dcI pmI anI cdI ctI),slI⟩)
  (kI:ar K cdI "NotTurned.__init__" = true)
  (pI:aj K (.ref fI)=true)
  (fnI:bg K (.ref fI)=true)
  (mB:bT K fL eF=true)
  (mC:bQ K fL=true)
  (mD:cz K fL=true)
  (mE:ah K (.ref fL) "__setattr__" = some (some (.builtin "object.__setattr__")))
  (mF:cK K fL=true)
  (mG:aj K (.ref fL)=true)
  (no_System:ah K (.ref fL) "order" = some none)
  (nr_System:ah K (.ref fL) "rules" = some none)
  (u1:Z8 K fQ=true)
  (u2:ah K (.ref fQ) "__setattr__" = some (some (.builtin "object.__setattr__")))
  (u3:ah K (.ref fQ) "__getattribute__" = some (some (.builtin "BaseException.__getattribute__")))
  (u4:ah K (.ref fQ) "__getattr__" = some none)
  (u5:aj K (.ref fQ)=true)
  (u6:ah K (.ref fQ) "__class__" = some (some (.builtin "object.__class__")))
  (u9:bP K fQ (.type "object")=some true)
  (ua:ah K (.ref fQ) "at" = some none)
  (iniU:ah K (.ref fQ) "__init__" = some (some (.ref fU)))
  (lU:K.lookup fU=some ⟨ocU,odU,.func (av "__init__" "NoUse.__init__" (zm yN) (zk yN) (zb yN) .none kVU dcU pmU anU cdU ctU),slU⟩)
  (kU:ar K cdU "NoUse.__init__" = true)
  (pU:aj K (.ref fU)=true)
  (fnU:bg K (.ref fU)=true)
  (v1:Z8 K fH=true)
  (v2:ah K (.ref fH) "__setattr__" = some (some (.builtin "object.__setattr__")))
  (v3:ah K (.ref fH) "__getattribute__" = some (some (.builtin "BaseException.__getattribute__")))
  (v4:ah K (.ref fH) "__getattr__" = some none)
  (v5:aj K (.ref fH)=true)
  (v6:ah K (.ref fH) "__class__" = some (some (.builtin "object.__class__")))
  (v9:bP K fH (.type "object")=some true)
  (vi:ah K (.ref fH) "__init__" = some (some (.builtin "ValueError.__init__")))
  (sFF:cJ K (.ref fH) (.ref fH)=some true)
  (ks:aT K (.type "str") (.type "str")=some true)
  (nany:ak K oK "any" = some none)
  (nsorted:ak K oK "sorted" = some none)
  (mou:ak K oK "MOST_USES_thinning" = some (some (.int 40 tmu)))
  (mos:ak K oK "MOST_STEPS" = some (some (.int 240 tms)))
  (mod_:ak K oK "MOST_SIDE_thinning" = some (some (.int 60 tmd)))
  (mop:ak K oK "MOST_PASSES" = some (some (.int 20 tmp)))
  (mcu:ak K oK "MOST_USES_completing" = some (some (.int 40 tcu)))
  (mce:ak K oK "MOST_ENTRIES" = some (some (.int 12 tce)))
  (mcd:ak K oK "MOST_SIDE_completing" = some (some (.int 10 tcd)))
  (mcp:ak K oK "MOST_PEAKS" = some (some (.int 8 tcp)))
  (iN:ah K (.ref fG) "__init__" = some (some (.ref gc)))
  (iO:K.lookup gc=some ⟨oc_order_init,od_order_init,.func (av "__init__" "Order.__init__" (zm yM) (zk yM) (zb yM) .none kV_order_init dc_order_init pm_order_init an_order_init cd_order_init ct_order_init),sl_order_init⟩)
  (iP:ar K cd_order_init "Order.__init__" = true)
  (ig:aj K (.ref gc)=true)
  (ij:bg K (.ref gc)=true)
  (ip:ah K (.ref fG) "weight" = some (some (.ref gh)))
  (iq:K.lookup gh=some ⟨oc_order_weight,od_order_weight,.func (av "weight" "Order.weight" (zm yq) (zk yq) (zb yq) .none kV_order_weight dc_order_weight pm_order_weight an_order_weight cd_order_weight ct_order_weight),sl_order_weight⟩)
  (ir:ar K cd_order_weight "Order.weight" = true)
  (gk:aj K (.ref gh)=true)
  (gJ:bg K (.ref gh)=true)
  (iQ:ah K (.ref fG) "seen" = some (some (.ref gB)))
  (iR:K.lookup gB=some ⟨oc_order_seen,od_order_seen,.func (av "seen" "Order.seen" (zm yL) (zk yL) (zb yL) .none kV_order_seen dc_order_seen pm_order_seen an_order_seen cd_order_seen ct_order_seen),sl_order_seen⟩)
  (iS:ar K cd_order_seen "Order.seen" = true)
  (gC:aj K (.ref gB)=true)
  (ik:bg K (.ref gB)=true)
  (gN:ah K (.ref fF) "seen" = some (some (.ref gp)))
  (gP:K.lookup gp=some ⟨oc_fromright_seen,od_fromright_seen,.func (av "seen" "FromRight.seen" (zm z6) (zk z6) (zb z6) .none kV_fromright_seen dc_fromright_seen pm_fromright_seen an_fromright_seen cd_fromright_seen ct_fromright_seen),sl_fromright_seen⟩)
  (gQ:ar K cd_fromright_seen "FromRight.seen" = true)
  (gr:aj K (.ref gp)=true)
  (gT:bg K (.ref gp)=true)
  (gU:ah K (.ref fB) "__init__" = some (some (.ref gq)))
  (gX:K.lookup gq=some ⟨oc_byweights_init,od_byweights_init,.func (av "__init__" "ByWeights.__init__" (zm z7) (zk z7) (zb z7) .none kV_byweights_init dc_byweights_init pm_byweights_init an_byweights_init cd_byweights_init ct_byweights_init),sl_byweights_init⟩)
  (gY:ar K cd_byweights_init "ByWeights.__init__" = true)
  (gZ:aj K (.ref gq)=true)
  (ic:bg K (.ref gq)=true)
  (gE:ah K (.ref fB) "weight" = some (some (.ref fZ)))
  (gF:K.lookup fZ=some ⟨oc_byweights_weight,od_byweights_weight,.func (av "weight" "ByWeights.weight" (zm zM) (zk zM) (zb zM) .none kV_byweights_weight dc_byweights_weight pm_byweights_weight an_byweights_weight cd_byweights_weight ct_byweights_weight),sl_byweights_weight⟩)
  (gG:ar K cd_byweights_weight "ByWeights.weight" = true)
  (gb:aj K (.ref fZ)=true)
  (gH:bg K (.ref fZ)=true)
  (iT:ah K (.ref fG) "rank" = some (some (.ref gd)))
  (iU:K.lookup gd=some ⟨oc_order_rank,od_order_rank,.func (av "rank" "Order.rank" (zm yD) (zk yD) (zb yD) .none kV_order_rank dc_order_rank pm_order_rank an_order_rank cd_order_rank ct_order_rank),sl_order_rank⟩)
  (iV:ar K cd_order_rank "Order.rank" = true)
  (ge:aj K (.ref gd)=true)
  (gD:bg K (.ref gd)=true)
  (iu:ah K (.ref fG) "before" = some (some (.ref fR)))
  (iw:K.lookup fR=some ⟨oc_order_before,od_order_before,.func (av "before" "Order.before" (zm yt) (zk yt) (zb yt) .none kV_order_before dc_order_before pm_order_before an_order_before cd_order_before ct_order_before),sl_order_before⟩)
  (iz:ar K cd_order_before "Order.before" = true)
  (fS:aj K (.ref fR)=true)
  (gm:bg K (.ref fR)=true)
  (iH:ah K (.ref fL) "__init__" = some (some (.ref gM)))
  (iI:K.lookup gM=some ⟨oc_system_init,od_system_init,.func (av "__init__" "System.__init__" (zm yE) (zk yE) (zb yE) .none kV_system_init dc_system_init pm_system_init an_system_init cd_system_init ct_system_init),sl_system_init⟩)
  (iJ:ar K cd_system_init "System.__init__" = true)
  (iK:aj K (.ref gM)=true)
  (iL:bg K (.ref gM)=true)
  (gw:ah K (.ref fL) "rules_told" = some (some (.ref fW)))
  (gx:K.lookup fW=some ⟨oc_system_rules_told,od_system_rules_told,.func (av "rules_told" "System.rules_told" (zm zO) (zk zO) (zb zO) .none kV_system_rules_told dc_system_rules_told pm_system_rules_told an_system_rules_told cd_system_rules_told ct_system_rules_told),sl_system_rules_told⟩)
  (gy:ar K cd_system_rules_told "System.rules_told" = true)
  (fX:aj K (.ref fW)=true)
  (gz:bg K (.ref fW)=true)
  (mI:K.lookup mH=some ⟨d1_gone,d2_gone,.seq #[.int 4000 lr] d3_gone,d4_gone⟩)
  (lX:K.lookup lV=some ⟨d1_unmet,d2_unmet,.seq #[.int 4000 lT] d3_unmet,d4_unmet⟩)
  (fcO:fv K (.ref fG) (.type "type") "__init__" = some (.val (.ref gc)))
  (fiR_init:ah K (.ref fF) "__init__" = some (some (.ref gc)))
  (fiR_weight:ah K (.ref fF) "weight" = some (some (.ref gh)))
  (fiW_seen:ah K (.ref fB) "seen" = some (some (.ref gB)))
  (fiR_rank:ah K (.ref fF) "rank" = some (some (.ref gd)))
  (fiW_rank:ah K (.ref fB) "rank" = some (some (.ref gd)))
  (fiR_before:ah K (.ref fF) "before" = some (some (.ref fR)))
  (fiW_before:ah K (.ref fB) "before" = some (some (.ref fR)))
  (b0:ak K oK "len" = some none)
  (b1:ak K oK "range" = some none)
  (b2:ak K oK "isinstance" = some none)
  (b3:ak K oK "str" = some none)
  (b4:ak K oK "int" = some none)
  (b5:ak K oK "tuple" = some none)
  (b6:ak K oK "list" = some none)
  (b7:ak K oK "bool" = some none)
  (b8:ak K oK "enumerate" = some none)
  (b9:ak K oK "all" = some none)
  (b10:ak K oK "ValueError" = some none)
  (b11:ak K oK "max" = some none)
  (b12:ak K oK "reversed" = some none)
  (b13:ak K oK "zip" = some none)
  (b14:ak K oK "sum" = some none)
  (b15:ak K oK "sorted" = some none)
  : ∃ fd:FuncData,(∀(s:Shared) (v:Value),BindsTo s fd ⟨[v],[]⟩ [("_law_script",v)])/\∀ base:Heap,K.In base->base.Ns oK mg->base.BuiltinsAt mg TB->PySem.W.CodeHd base cc TB->FnOk l.prog w K mg base CX0 11 fa fd ["_law_script"] (YR K TB):=by
 have e:=hfa.symm.trans (aq X G a46)
 cases e
 have B:Bt mg:=⟨aP X G b0,aP X G b1,aP X G b2,aP X G b3,aP X G b4,aP X G b5,aP X G b6,aP X G b7,aP X G b8,aP X G b9,aP X G b10,aP X G b11,aP X G b12,aP X G b13,aP X G b14,aP X G b15⟩
 have F0:=zE (st:=zU) l0 k0 p0
 have B0:=F0.binds (ps:=["sign"]) fun _ _ _ _ _ _ us hl=>by obtain⟨_,rfl⟩:=ZL hl;rfl
 have M0:=aq X G a0
 have F1:=zE (st:=yP) l1 k1 p1
 have B1:=F1.binds (ps:=["text"]) fun _ _ _ _ _ _ us hl=>by obtain⟨_,rfl⟩:=ZL hl;rfl
 have M1:=aq X G a1
 have F2:=zE (st:=xg) l2 k2 p2
 have B2:=F2.binds (ps:=["word","place","part"]) fun _ _ _ _ _ _ us hl=>by obtain⟨_,_,_,rfl⟩:=Ya hl;rfl
 have M2:=aq X G a2
 have F3:=zE (st:=Wo) l3 k3 p3
 have B3:=F3.binds (ps:=["word","place","old","new"]) fun _ _ _ _ _ _ us hl=>by obtain⟨_,_,_,_,rfl⟩:=zab hl;rfl
 have M3:=aq X G a3
 have F4:=zE (st:=yw) l4 k4 p4
 have B4:=F4.binds (ps:=["rules","word","start","end"]) fun _ _ _ _ _ _ us hl=>by obtain⟨_,_,_,_,rfl⟩:=zab hl;rfl
 have M4:=aq X G a4
 have F5:=zE (st:=yR) l5 k5 p5
 have B5:=F5.binds (ps:=["rules","word","start"]) fun _ _ _ _ _ _ us hl=>by obtain⟨_,_,_,rfl⟩:=Ya hl;rfl
 have M5:=aq X G a5
 have F6:FunD K "gone" "gone" vk (.ref mH) f6 (av "gone" "gone" (zm vk) (zk vk) (zb vk) (.ref mH) kV6 dc6 pm6 an6 cd6 ct6):=⟨⟨_,_,_,_,_,_,_,_,_,rfl,l6,k6⟩⟩
 have M6:=aq X G a6
 have F7:=zE (st:=qr) l7 k7 p7
 have B7:=F7.binds (ps:=["steps"]) fun _ _ _ _ _ _ us hl=>by obtain⟨_,rfl⟩:=ZL hl;rfl
 have M7:=aq X G a7
 have F8:=zE (st:=vq) l8 k8 p8
 have B8:=F8.binds (ps:=["steps","size"]) fun _ _ _ _ _ _ us hl=>by obtain⟨_,_,rfl⟩:=uh hl;rfl
 have M8:=aq X G a8
 have F9:=zE (st:=xE) l9 k9 p9
 have B9:=F9.binds (ps:=["entries","steps"]) fun _ _ _ _ _ _ us hl=>by obtain⟨_,_,rfl⟩:=uh hl;rfl
 have M9:=aq X G a9
 have F10:=zE (st:=y0) l10 k10 p10
 have B10:=F10.binds (ps:=["entries"]) fun _ _ _ _ _ _ us hl=>by obtain⟨_,rfl⟩:=ZL hl;rfl
 have M10:=aq X G a10
 have F11:=zE (st:=wf) l11 k11 p11
 have B11:=F11.binds (ps:=["order","entry"]) fun _ _ _ _ _ _ us hl=>by obtain⟨_,_,rfl⟩:=uh hl;rfl
 have M11:=aq X G a11
 have F12:=zE (st:=yK) l12 k12 p12
 have B12:=F12.binds (ps:=["order","entries"]) fun _ _ _ _ _ _ us hl=>by obtain⟨_,_,rfl⟩:=uh hl;rfl
 have M12:=aq X G a12
 have F13:=zE (st:=yv) l13 k13 p13
 have B13:=F13.binds (ps:=["entries","entry"]) fun _ _ _ _ _ _ us hl=>by obtain⟨_,_,rfl⟩:=uh hl;rfl
 have M13:=aq X G a13
 have F14:=zE (st:=yg) l14 k14 p14
 have B14:=F14.binds (ps:=["entry"]) fun _ _ _ _ _ _ us hl=>by obtain⟨_,rfl⟩:=ZL hl;rfl
 have M14:=aq X G a14
 have F15:=zE (st:=yO) l15 k15 p15
 have B15:=F15.binds (ps:=["order","entries"]) fun _ _ _ _ _ _ us hl=>by obtain⟨_,_,rfl⟩:=uh hl;rfl
 have M15:=aq X G a15
 have F16:=zE (st:=we) l16 k16 p16
 have B16:=F16.binds (ps:=["order","entries"]) fun _ _ _ _ _ _ us hl=>by obtain⟨_,_,rfl⟩:=uh hl;rfl
 have M16:=aq X G a16
 have F17:=zE (st:=jH) l17 k17 p17
 have B17:=F17.binds (ps:=["_law_script","_law_k"]) fun _ _ _ _ _ _ us hl=>by obtain⟨_,_,rfl⟩:=uh hl;rfl
 have M17:=aq X G a17
 have F18:=zE (st:=vW) l18 k18 p18
 have B18:=F18.binds (ps:=["_law_cell_here","_law_turn"]) fun _ _ _ _ _ _ us hl=>by obtain⟨_,_,rfl⟩:=uh hl;rfl
 have M18:=aq X G a18
 have F19:=zE (st:=wd) l19 k19 p19
 have B19:=F19.binds (ps:=["_law_cell_here","_law_many"]) fun _ _ _ _ _ _ us hl=>by obtain⟨_,_,rfl⟩:=uh hl;rfl
 have M19:=aq X G a19
 have F20:=zE (st:=jz) l20 k20 p20
 have B20:=F20.binds (ps:=["_law_number","_law_letters_here","_law_most"]) fun _ _ _ _ _ _ us hl=>by obtain⟨_,_,_,rfl⟩:=Ya hl;rfl
 have M20:=aq X G a20
 have F21:=zE (st:=jW) l21 k21 p21
 have B21:=F21.binds (ps:=["_law_cell_here","_law_letters_here","_law_most"]) fun _ _ _ _ _ _ us hl=>by obtain⟨_,_,_,rfl⟩:=Ya hl;rfl
 have M21:=aq X G a21
 have F22:=zE (st:=uo) l22 k22 p22
 have B22:=F22.binds (ps:=["_law_found"]) fun _ _ _ _ _ _ us hl=>by obtain⟨_,rfl⟩:=ZL hl;rfl
 have M22:=aq X G a22
 have F23:=zE (st:=uc) l23 k23 p23
 have B23:=F23.binds (ps:=["_law_found"]) fun _ _ _ _ _ _ us hl=>by obtain⟨_,rfl⟩:=ZL hl;rfl
 have M23:=aq X G a23
 have F24:=zE (st:=jK) l24 k24 p24
 have B24:=F24.binds (ps:=["_law_pacts","_law_word_here","_law_step"]) fun _ _ _ _ _ _ us hl=>by obtain⟨_,_,_,rfl⟩:=Ya hl;rfl
 have M24:=aq X G a24
 have F25:=zE (st:=jF) l25 k25 p25
 have B25:=F25.binds (ps:=["_law_pacts","_law_word_here","_law_most"]) fun _ _ _ _ _ _ us hl=>by obtain⟨_,_,_,rfl⟩:=Ya hl;rfl
 have M25:=aq X G a25
 have F26:=zE (st:=uj) l26 k26 p26
 have B26:=F26.binds (ps:=["_law_pacts","_law_word_here","_law_cells","_law_most"]) fun _ _ _ _ _ _ us hl=>by obtain⟨_,_,_,_,rfl⟩:=zab hl;rfl
 have M26:=aq X G a26
 have F27:=zE (st:=Wg) l27 k27 p27
 have B27:=F27.binds (ps:=["_law_pacts","_law_word_here","_law_steps_here"]) fun _ _ _ _ _ _ us hl=>by obtain⟨_,_,_,rfl⟩:=Ya hl;rfl
 have M27:=aq X G a27
 have F28:=zE (st:=ux) l28 k28 p28
 have B28:=F28.binds (ps:=["_law_kind","_law_letters_here","_law_weights"]) fun _ _ _ _ _ _ us hl=>by obtain⟨_,_,_,rfl⟩:=Ya hl;rfl
 have M28:=aq X G a28
 have F29:=zE (st:=jJ) l29 k29 p29
 have B29:=F29.binds (ps:=["_law_cell_here"]) fun _ _ _ _ _ _ us hl=>by obtain⟨_,rfl⟩:=ZL hl;rfl
 have M29:=aq X G a29
 have F30:=zE (st:=wj) l30 k30 p30
 have B30:=F30.binds (ps:=["_law_found"]) fun _ _ _ _ _ _ us hl=>by obtain⟨_,rfl⟩:=ZL hl;rfl
 have M30:=aq X G a30
 have F31:=zE (st:=ug) l31 k31 p31
 have B31:=F31.binds (ps:=["one","other","place"]) fun _ _ _ _ _ _ us hl=>by obtain⟨_,_,_,rfl⟩:=Ya hl;rfl
 have M31:=aq X G a31
 have F32:=zE (st:=xF) l32 k32 p32
 have B32:=F32.binds (ps:=["rules"]) fun _ _ _ _ _ _ us hl=>by obtain⟨_,rfl⟩:=ZL hl;rfl
 have M32:=aq X G a32
 have F33:=zE (st:=jB) l33 k33 p33
 have B33:=F33.binds (ps:=["rules","overlap"]) fun _ _ _ _ _ _ us hl=>by obtain⟨_,_,rfl⟩:=uh hl;rfl
 have M33:=aq X G a33
 have F34:=zE (st:=wb) l34 k34 p34
 have B34:=F34.binds (ps:=["rules","word","most","forms"]) fun _ _ _ _ _ _ us hl=>by obtain⟨_,_,_,_,rfl⟩:=zab hl;rfl
 have M34:=aq X G a34
 have F35:=zE (st:=ve) l35 k35 p35
 have B35:=F35.binds (ps:=["rules","overlap","most","forms"]) fun _ _ _ _ _ _ us hl=>by obtain⟨_,_,_,_,rfl⟩:=zab hl;rfl
 have M35:=aq X G a35
 have F36:FunD K "unmet" "unmet" x0 (.ref lV) f36 (av "unmet" "unmet" (zm x0) (zk x0) (zb x0) (.ref lV) kV36 dc36 pm36 an36 cd36 ct36):=⟨⟨_,_,_,_,_,_,_,_,_,rfl,l36,k36⟩⟩
 have M36:=aq X G a36
 have F37:=zE (st:=xl) l37 k37 p37
 have B37:=F37.binds (ps:=["order","entries"]) fun _ _ _ _ _ _ us hl=>by obtain⟨_,_,rfl⟩:=uh hl;rfl
 have M37:=aq X G a37
 have F38:=zE (st:=zV) l38 k38 p38
 have B38:=F38.binds (ps:=["pacts"]) fun _ _ _ _ _ _ us hl=>by obtain⟨_,rfl⟩:=ZL hl;rfl
 have M38:=aq X G a38
 have F39:=zE (st:=yI) l39 k39 p39
 have B39:=F39.binds (ps:=["entries"]) fun _ _ _ _ _ _ us hl=>by obtain⟨_,rfl⟩:=ZL hl;rfl
 have M39:=aq X G a39
 have F40:=zE (st:=zZ) l40 k40 p40
 have B40:=F40.binds (ps:=["order","entries"]) fun _ _ _ _ _ _ us hl=>by obtain⟨_,_,rfl⟩:=uh hl;rfl
 have M40:=aq X G a40
 have F41:=zE (st:=yu) l41 k41 p41
 have B41:=F41.binds (ps:=["order","entries"]) fun _ _ _ _ _ _ us hl=>by obtain⟨_,_,rfl⟩:=uh hl;rfl
 have M41:=aq X G a41
 have F42:=zE (st:=xB) l42 k42 p42
 have B42:=F42.binds (ps:=["entries","overlap"]) fun _ _ _ _ _ _ us hl=>by obtain⟨_,_,rfl⟩:=uh hl;rfl
 have M42:=aq X G a42
 have F43:=zE (st:=yJ) l43 k43 p43
 have B43:=F43.binds (ps:=["order","pacts","rounds"]) fun _ _ _ _ _ _ us hl=>by obtain⟨_,_,_,rfl⟩:=Ya hl;rfl
 have M43:=aq X G a43
 have F44:=zE (st:=jy) l44 k44 p44
 have B44:=F44.binds (ps:=["_law_found"]) fun _ _ _ _ _ _ us hl=>by obtain⟨_,rfl⟩:=ZL hl;rfl
 have M44:=aq X G a44
 have F45:=zE (st:=vb) l45 k45 p45
 have B45:=F45.binds (ps:=["_law_pacts","_law_cell_here"]) fun _ _ _ _ _ _ us hl=>by obtain⟨_,_,rfl⟩:=uh hl;rfl
 have M45:=aq X G a45
 have F46:=zE (st:=uJ) l46 k46 p46
 have B46:=F46.binds (ps:=["_law_script"]) fun _ _ _ _ _ _ us hl=>by obtain⟨_,rfl⟩:=ZL hl;rfl
 have M46:=aq X G a46
 have HCC:cd12=.ref cc:=by
  obtain⟨ai,oi,fdi,m1,m2,m3,m4⟩:=hlam
  have e1:=m1.symm.trans (aq X G a12)
  cases e1
  have e2:=m2.symm.trans (X _ _ l12)
  cases e2
  cases m3
  exact m4
 refine⟨av "law" "law" (zm uJ) (zk uJ) (zb uJ) .none kV46 dc46 pm46 an46 cd46 ct46,fun s v=>.of_eq rfl,fun base _ _ HBT HCH=>?_⟩
 have XIl:XI K fM:=⟨⟨x1,x2,x3,x4,x5⟩,x6,x7,x8,x9⟩
 have XIo:XI K fP:=⟨⟨y1,y2,y3,y4,y5⟩,y6,x7,x8,y9⟩
 have TL:zcL K mg fM:=⟨XIl,xi,aq X G g_NoLetters,t6,aq X G most⟩
 have TN:zcF K mg fP:=⟨XIo,yi,aq X G g_NoOrder,t7,aq X G mostw⟩
 have TO:TOrd K mg fG fF fB:=⟨⟨mT,mU,mV,mX⟩,⟨lu,lv,lw,lx⟩,⟨lC,lD,lE,lF⟩,aq X G g_Order,aq X G g_FromRight,aq X G g_ByWeights,nc,lB,lJ,nw_ByWeights⟩
 have XIt:XI K fJ:=⟨⟨tt1,tt2,tt3,tt4,tt5⟩,tt6,x7,x8,tt9⟩
 have TNt:TNT K mg fJ:=⟨XIt,aq X G g_NotTurned,nn⟩
 have FI:=zE (st:=zY) lI kI pI
 have BI:=FI.binds (ps:=["self","number"]) fun _ _ _ _ _ _ us hl=>by obtain⟨_,_,rfl⟩:=uh hl;rfl
 have TD:DNT l.prog w K mg base fJ:=⟨TNt,_,_,ini,fnI,ur TNt FI,BI⟩
 have TS:zap K mg fL:=⟨⟨mB,mC,mD,mE⟩,aq X G g_System,no_System,nr_System⟩
 have TWi:zcR mg:=⟨t8,aq X G win⟩
 have XIu:XI K fQ:=⟨⟨u1,u2,u3,u4,u5⟩,u6,x7,x8,u9⟩
 have TNu:TNU K mg fQ:=⟨XIu,aq X G g_NoUse,ua⟩
 have FU:=zE (st:=yN) lU kU pU
 have BU:=FU.binds (ps:=["self","at"]) fun _ _ _ _ _ _ us hl=>by obtain⟨_,_,rfl⟩:=uh hl;rfl
 have TUd:DNU l.prog w K mg base fQ:=⟨TNu,_,_,iniU,fnU,kN TNu FU,BU⟩
 have XIf:XI K fH:=⟨⟨v1,v2,v3,v4,v5⟩,v6,x7,x8,v9⟩
 have TF:K7 K mg fH:=⟨XIf,vi,aq X G g_TooFar⟩
 have TMk:TMo mg:=⟨⟨tmu,aq X G mou⟩,⟨tms,aq X G mos⟩,⟨tmd,aq X G mod_⟩,⟨tmp,aq X G mop⟩⟩
 have TMcc:TMc mg:=⟨⟨tcu,aq X G mcu⟩,⟨tce,aq X G mce⟩,⟨tcd,aq X G mcd⟩,⟨tcp,aq X G mcp⟩⟩
 have D0:Df l.prog w K mg base CX0 1 "is_small_letter" ["sign"] [] uT:=⟨_,_,Qu F0,M0,p0,B0⟩
 have D1:Df l.prog w K mg base (CXx l.prog w) 2 "letters_of" ["text"] [] (ww fM):=⟨_,_,ko B TL F1 D0,M1,p1,B1⟩
 have D2:Df l.prog w K mg base CX0 1 "stands_at" ["word","place","part"] [] xW:=⟨_,_,Z2 B F2,M2,p2,B2⟩
 have D3:Df l.prog w K mg base (CXx l.prog w) 3 "put" ["word","place","old","new"] [] (ZF fQ):=⟨_,_,zag B TUd F3 D2,M3,p3,B3⟩
 have il:=zE (st:=yM) iO iP ig
 have iW:=il.binds (ps:=["self","letters"]) fun _ _ _ _ _ _ us hl=>by obtain⟨_,_,rfl⟩:=uh hl;rfl
 have nG:DMk l.prog w K mg base CX0 3 fG ["self","letters"] (qh K):=⟨_,_,⟨mY,iN,ij,mZ⟩,wq B il D1,iW⟩
 have DI:DOI l.prog w K mg base fG:=⟨_,_,⟨sgO,rdO,fcO,ig⟩,wq B il D1,iW⟩
 have iA:=zE (st:=yq) iq ir gk
 have lL:=iA.binds (ps:=["self","word"]) fun _ _ _ _ _ _ us hl=>by obtain⟨_,_,rfl⟩:=uh hl;rfl
 have nt:DM l.prog w K mg base CX0 1 fG "weight" ["self","word"] kO:=⟨_,_,⟨ip,gJ,gk⟩,wF B iA,lL⟩
 have iX:=zE (st:=yL) iR iS gC
 have me:=iX.binds (ps:=["self","word"]) fun _ _ _ _ _ _ us hl=>by obtain⟨_,_,rfl⟩:=uh hl;rfl
 have nH:DM l.prog w K mg base CX0 1 fG "seen" ["self","word"] YY:=⟨_,_,⟨iQ,ik,gC⟩,vO B iX,me⟩
 have lg:=zE (st:=z6) gP gQ gr
 have mJ:=lg.binds (ps:=["self","word"]) fun _ _ _ _ _ _ us hl=>by obtain⟨_,_,rfl⟩:=uh hl;rfl
 have mK:DM l.prog w K mg base CX0 1 fF "seen" ["self","word"] YF:=⟨_,_,⟨gN,gT,gr⟩,ue B lg,mJ⟩
 have lh:=zE (st:=z7) gX gY gZ
 have mL:=lh.binds (ps:=["self","letters","weights"]) fun _ _ _ _ _ _ us hl=>by obtain⟨_,_,_,rfl⟩:=Ya hl;rfl
 have mM:DMk l.prog w K mg base (CXx l.prog w) 4 fB ["self","letters","weights"] (kT K fB):=⟨_,_,⟨lG,gU,ic,lH⟩,uw B TO TN DI lh,mL⟩
 have iD:=zE (st:=zM) gF gG gb
 have mf:=iD.binds (ps:=["self","word"]) fun _ _ _ _ _ _ us hl=>by obtain⟨_,_,rfl⟩:=uh hl;rfl
 have mh:DM l.prog w K mg base CX0 1 fB "weight" ["self","word"] (Yt fB):=⟨_,_,⟨gE,gH,gb⟩,vx B TO iD,mf⟩
 have TT:TWS l.prog w K mg base fG fF fB:=⟨TO,nG,⟨_,_,⟨ly,fiR_init,ij,lA⟩,wq B il D1,iW⟩,mM,nt,⟨_,_,⟨fiR_weight,gJ,gk⟩,wF B iA,lL⟩,mh,nH,mK,⟨_,_,⟨fiW_seen,ik,gC⟩,vO B iX,me⟩⟩
 have im:=zE (st:=yD) iU iV ge
 have iY:=im.binds (ps:=["self","word"]) fun _ _ _ _ _ _ us hl=>by obtain⟨_,_,rfl⟩:=uh hl;rfl
 have nI:DM l.prog w K mg base CX0 2 fG "rank" ["self","word"] (qo fG fF fB):=⟨_,_,⟨iT,gD,ge⟩,wB B TT im,iY⟩
 have DRk:DR l.prog w K mg base fG fF fB:=⟨fun C h=>by rcases h with e | e | e; (rw[e];exact⟨TO.cO,nI⟩); (rw[e];exact⟨TO.cR,⟨_,_,⟨fiR_rank,gD,ge⟩,wB B TT im,iY⟩⟩); (rw[e];exact⟨TO.cW,⟨_,_,⟨fiW_rank,gD,ge⟩,wB B TT im,iY⟩⟩)⟩
 have gK:=zE (st:=yt) iw iz fS
 have iB:=gK.binds (ps:=["self","one","other"]) fun _ _ _ _ _ _ us hl=>by obtain⟨_,_,_,rfl⟩:=Ya hl;rfl
 have nv:DM l.prog w K mg base CX0 3 fG "before" ["self","one","other"] (WB fG fF fB):=⟨_,_,⟨iu,gm,fS⟩,xN B DRk gK,iB⟩
 have DBk:DB l.prog w K mg base fG fF fB:=⟨fun C h=>by rcases h with e | e | e; (rw[e];exact⟨TO.cO,nv⟩); (rw[e];exact⟨TO.cR,⟨_,_,⟨fiR_before,gm,fS⟩,xN B DRk gK,iB⟩⟩); (rw[e];exact⟨TO.cW,⟨_,_,⟨fiW_before,gm,fS⟩,xN B DRk gK,iB⟩⟩)⟩
 have D4:Df l.prog w K mg base CX0 1 "first_within" ["rules","word","start","end"] [] (w6 K):=⟨_,_,qR B F4,M4,p4,B4⟩
 have D5:Df l.prog w K mg base CX0 2 "first_from" ["rules","word","start"] [] (uY K):=⟨_,_,j8 B TWi F5 D4,M5,p5,B5⟩
 have O6:=KD (P:=l.prog) (w:=w) (base:=base) B TF TUd F6 D5 D3
 have D6:Df l.prog w K mg base (CXx l.prog w) 4 "gone" ["rules","word","most"] [] (wU K fH):=⟨_,_,O6,M6,p6,fun s us hK hl=>by obtain⟨_,_,_,rfl⟩:=Ya (us:=us) (by simpa using hl);exact BindsTo.of_defaults rfl (hK _ _ mI) rfl rfl rfl⟩
 have D6d:Df l.prog w K mg base (CXx l.prog w) 4 "gone" ["rules","word","most"] [.int 4000 lr] (wU K fH):=⟨_,_,O6,M6,p6,fun s us hK hl=>by obtain⟨_,_,rfl⟩:=uh (us:=us) (by simpa using hl);exact BindsTo.of_defaults rfl (hK _ _ mI) rfl rfl rfl⟩
 have D7:Df l.prog w K mg base CX0 1 "back" ["steps"] [] (ub K):=⟨_,_,Ko B F7,M7,p7,B7⟩
 have D8:Df l.prog w K mg base CX0 1 "moved" ["steps","size"] [] (qi K):=⟨_,_,US B F8,M8,p8,B8⟩
 have D9:Df l.prog w K mg base CX0 2 "by_pacts" ["entries","steps"] [] (Ur K):=⟨_,_,Yp B F9 D8 D7,M9,p9,B9⟩
 have D10:Df l.prog w K mg base CX0 1 "pairs_of" ["entries"] [] (wx K):=⟨_,_,Yx B F10,M10,p10,B10⟩
 have D11:Df l.prog w K mg base CX0 4 "as_rule" ["order","entry"] [] (wn K fG fF fB):=⟨_,_,Wp B DBk F11 D7,M11,p11,B11⟩
 have D12:Df l.prog w K mg base CX0 6 "in_order" ["order","entries"] [] (u7 K fG fF fB TB):=⟨_,_,Yw B DRk (aP X G nsorted) HCH HBT hgT F12 HCC D11,M12,p12,B12⟩
 have D13:Df l.prog w K mg base (CXx l.prog w) 5 "brought_down" ["entries","entry"] [] (kA K fH):=⟨_,_,jh B TMk F13 D10 D6 D6d D9 D7,M13,p13,B13⟩
 have D14:Df l.prog w K mg base (CXx l.prog w) 1 "refuse_beyond" ["entry"] [] (vN K fH):=⟨_,_,uL B TF TMk F14,M14,p14,B14⟩
 have D15:Df l.prog w K mg base (CXx l.prog w) 6 "built_anew" ["order","entries"] [] (qd K fG fF fB fH):=⟨_,_,Zc B F15 D13 D14 D11,M15,p15,B15⟩
 have D16:Df l.prog w K mg base (CXx l.prog w) 7 "thinned" ["order","entries"] [] (Yc K fG fF fB TB fH):=⟨_,_,X3 B TF TMk F16 D12 D15 D10,M16,p16,B16⟩
 have D17:Df l.prog w K mg base CX0 1 "_law_cell" ["_law_script","_law_k"] [] (qV K):=⟨_,_,KP B F17,M17,p17,B17⟩
 have D18:Df l.prog w K mg base CX0 1 "_law_mixed" ["_law_cell_here","_law_turn"] [] xy:=⟨_,_,QS B F18,M18,p18,B18⟩
 have D19:Df l.prog w K mg base CX0 2 "_law_letters" ["_law_cell_here","_law_many"] [] vc:=⟨_,_,XV B F19 D18,M19,p19,B19⟩
 have D20:Df l.prog w K mg base CX0 1 "_law_word" ["_law_number","_law_letters_here","_law_most"] [] je:=⟨_,_,J8 B F20,M20,p20,B20⟩
 have D21:Df l.prog w K mg base CX0 2 "_law_pair" ["_law_cell_here","_law_letters_here","_law_most"] [] ql:=⟨_,_,JV B F21 D20 D18,M21,p21,B21⟩
 have D22:Df l.prog w K mg base CX0 1 "_law_whole" ["_law_found"] [] qc:=⟨_,_,QK B ⟨ki,kb⟩ F22,M22,p22,B22⟩
 have D23:Df l.prog w K mg base CX0 2 "_law_steps" ["_law_found"] [] (kK K):=⟨_,_,UM B ⟨kl,kt,kbb⟩ F23 D22,M23,p23,B23⟩
 have D24:Df l.prog w K mg base CX0 1 "_law_used" ["_law_pacts","_law_word_here","_law_step"] [] (w4 K):=⟨_,_,JE B F24,M24,p24,B24⟩
 have D25:Df l.prog w K mg base CX0 2 "_law_uses" ["_law_pacts","_law_word_here","_law_most"] [] (j6 K):=⟨_,_,J3 B F25 D24,M25,p25,B25⟩
 have D26:Df l.prog w K mg base CX0 3 "_law_chain" ["_law_pacts","_law_word_here","_law_cells","_law_most"] [] (uX K):=⟨_,_,U9 B F26 D25 D24 D18,M26,p26,B26⟩
 have D27:Df l.prog w K mg base CX0 2 "_law_end" ["_law_pacts","_law_word_here","_law_steps_here"] [] (XH K):=⟨_,_,zbs B F27 D24,M27,p27,B27⟩
 have D28:Df l.prog w K mg base CX0 6 "_law_order" ["_law_kind","_law_letters_here","_law_weights"] [] (kR K fG fF fB):=⟨_,_,UZ B TT F28,M28,p28,B28⟩
 have D29:Df l.prog w K mg base CX0 3 "_law_draw" ["_law_cell_here"] [] Z9:=⟨_,_,K1 B F29 D19 D18,M29,p29,B29⟩
 have D30:Df l.prog w K mg base CX0 3 "_law_entries" ["_law_found"] [] (Yy K):=⟨_,_,Wc B ⟨kl,kt,kbb⟩ ⟨ks⟩ F30 D23,M30,p30,B30⟩
 have lQ:=zE (st:=yE) iI iJ iK
 have nB:=lQ.binds (ps:=["self","order","rules"]) fun _ _ _ _ _ _ us hl=>by obtain⟨_,_,_,rfl⟩:=Ya hl;rfl
 have nC:DMk l.prog w K mg base (CXx l.prog w) 5 fL ["self","order","rules"] (uW K fG fF fB fJ fL):=⟨_,_,⟨mF,iH,iL,mG⟩,jv B TD TS DBk lQ,nB⟩
 have MS:MkS l.prog w K mg base fG fF fB fJ fL:=nC
 have D31:Df l.prog w K mg base CX0 1 "agree" ["one","other","place"] [] uR:=⟨_,_,UR B F31,M31,p31,B31⟩
 have D32:Df l.prog w K mg base CX0 2 "overlaps" ["rules"] [] (wA K):=⟨_,_,Yk B F32 D31,M32,p32,B32⟩
 have D33:Df l.prog w K mg base CX0 4 "peak" ["rules","overlap"] [] (qm K):=⟨_,_,JD B F33 D3,M33,p33,B33⟩
 have D34:Df l.prog w K mg base (CXx l.prog w) 5 "form_of" ["rules","word","most","forms"] [] (kC l.prog w K fH):=⟨_,_,Wa B F34 D6 D6d,M34,p34,B34⟩
 have D35:Df l.prog w K mg base (CXx l.prog w) 6 "is_met" ["rules","overlap","most","forms"] [] (qf l.prog w K fH):=⟨_,_,VS B F35 D33 D34,M35,p35,B35⟩
 have iC:=zE (st:=zO) gx gy fX
 have lY:=iC.binds (ps:=["self"]) fun _ _ _ _ _ _ us hl=>by obtain⟨_,rfl⟩:=ZL hl;rfl
 have lZ:DM l.prog w K mg base CX0 1 fL "rules_told" ["self"] (ky K fL):=⟨_,_,⟨gw,gz,fX⟩,vh B TS iC,lY⟩
 have O36:=U1 (P:=l.prog) (w:=w) (base:=base) B TS F36 D32 D35 lZ
 have D36:Df l.prog w K mg base (CXx l.prog w) 7 "unmet" ["system","most"] [] (vS K fL fH):=⟨_,_,O36,M36,p36,fun s us hK hl=>by obtain⟨_,_,rfl⟩:=uh (us:=us) (by simpa using hl);exact BindsTo.of_defaults rfl (hK _ _ lX) rfl rfl rfl⟩
 have D36d:Df l.prog w K mg base (CXx l.prog w) 7 "unmet" ["system","most"] [.int 4000 lT] (vS K fL fH):=⟨_,_,O36,M36,p36,fun s us hK hl=>by obtain⟨_,rfl⟩:=ZL (us:=us) (by simpa using hl);exact BindsTo.of_defaults rfl (hK _ _ lX) rfl rfl rfl⟩
 have D37:Df l.prog w K mg base CX0 7 "system_by" ["order","entries"] [] (j5 K fG fF fB fL):=⟨_,_,Zx B TS MS F37 D10,M37,p37,B37⟩
 have D38:Df l.prog w K mg base CX0 1 "first_entries" ["pacts"] [] (kr K):=⟨_,_,uK B F38,M38,p38,B38⟩
 have D39:Df l.prog w K mg base CX0 1 "is_beyond" ["entries"] [] (jk K):=⟨_,_,ZM B (aP X G nany) TMcc F39,M39,p39,B39⟩
 have D40:Df l.prog w K mg base CX0 8 "thinned_within" ["order","entries"] [] (V5 K fG fF fB TB):=⟨_,_,um B TF ⟨sFF⟩ F40 D16 D39,M40,p40,B40⟩
 have D41:Df l.prog w K mg base CX0 9 "unmet_within" ["order","entries"] [] (WR K fG fF fB):=⟨_,_,qF B TF ⟨sFF⟩ TMcc F41 D36 D36d D37,M41,p41,B41⟩
 have D42:Df l.prog w K mg base CX0 5 "entry_of" ["entries","overlap"] [] (uQ K):=⟨_,_,Yz B F42 D33 D9 D10,M42,p42,B42⟩
 have D43:Df l.prog w K mg base CX0 10 "completed" ["order","pacts","rounds"] [] (VR K fG fF fB TB):=⟨_,_,ZI B TMcc F43 D38 D40 D41 D42,M43,p43,B43⟩
 have D44:Df l.prog w K mg base CX0 4 "_law_told" ["_law_found"] [] (kq K):=⟨_,_,JH B ⟨kt,kbb⟩ F44 D30,M44,p44,B44⟩
 have D45:Df l.prog w K mg base CX0 2 "_law_turned" ["_law_pacts","_law_cell_here"] [] (qz K):=⟨_,_,Vg B F45 D18,M45,p45,B45⟩
 exact zao B F46 D29 D17 D45 D28 D43 D21 D20 D18 D44 D27 D26
theorem walk{l:PySem.W.OpenLaw}{q:Program}{loose:List Str}{XP:(Str->Option Value)->Heap->Prop}{YP:World->Heap->Prop}{d:DefRec}{K:Params->oO}(hn:l.most=some 63)(hdf:d.params.defaults=[])
  (hY:∀(w:World) (h:Heap),YP w h->(K w.params).In h) (hj:((PyProof.Rows.recsOf q).find? fun r=>r.name == ("in_order" : Str)).isSome=true) (hno:∀ w:World,K4 (K w.params)=true)
  (F:∀(w:World) (mg:Str->Option Value) (fa:Addr) (h:Heap) (cc T:Addr),(K w.params).In h->h.Ns oK mg->mg d.name=some (.ref fa)->(∃ a o fd,mg "in_order" = some (.ref a)/\h.get? a=some o/\o.data=.func fd/\fd.code=.ref cc)->oK≠T ->
   ∃ fd:FuncData,(∀(s:Shared) (u:Value),BindsTo s fd ⟨[u],[]⟩ [("_law_script",u)])/\∀ base:Heap,(K w.params).In base->base.Ns oK mg->base.BuiltinsAt mg T->PySem.W.CodeHd base cc T->FnOk l.prog w (K w.params) mg base CX0 11 fa fd ["_law_script"] (YR (K w.params) T)) :
  PySem.W.WalkO q loose XP YP l.row.toRowW d [] (fun f vs=>fw f vs):=by
 obtain⟨din,hd⟩:=Option.isSome_iff_exists.mp hj
 have hnm:din.name="in_order":=by simpa using dz hd
 exact L3.walk_ofT (n:=63) (k:=11) (x:="_law_script") (CX:=fun _=>CX0) (din:=din) (sp:=fun w T=>YR (K w.params) T) hn (by decide) hdf ⟨rfl,by decide,by decide⟩ (dZ hd) hY hno (fun w mg fa h cc T a b c e g=>F w mg fa h cc T a b c (by rw[hnm] at e;exact e) g) (fun _ _ a ns T hl hB hT hS=>⟨a,ns,rfl,hS,hB,hT,fun _=>rfl⟩) fun _ _ _ _ _ z=>z
end LL
def PySem.W.Fast.tw2221880972299236969:Nat:=0
def PySem.W.Fast.tw12165488895874493069:Nat:=0
def PySem.W.Fast.tw1095208987322497109:Nat:=0
def PySem.W.Fast.tw13244881829688734071:Nat:=0
def PySem.W.Fast.tw307971135381987674:Nat:=0
def PySem.W.Fast.tw15824815410715574309:Nat:=0
def PySem.W.Fast.tw2380789839427299529:Nat:=0
def PySem.W.Fast.tw155393539804499370:Nat:=0
def PySem.W.Fast.tw6944611244747876168:Nat:=0
def PySem.W.Fast.tw3809419235440105058:Nat:=0
def PySem.W.Fast.tw5537847137521876459:Nat:=0
def PySem.W.Fast.tw9972719684109980597:Nat:=0
def PySem.W.Fast.tw14443997259119302530:Nat:=0
def PySem.W.Fast.tw15580661076668480270:Nat:=0
def PySem.W.Fast.tw1660934699452019263:Nat:=0
def PySem.W.Fast.tw7451689018205428492:Nat:=0
def PySem.W.Fast.tw569834586367768116:Nat:=0
def PySem.W.Fast.tw14383163433294162407:Nat:=0
def PySem.W.Fast.tw5850015801196166393:Nat:=0
def PySem.W.Fast.tw8882961571889049629:Nat:=0
def PySem.W.Fast.tw7725237596664225037:Nat:=0
def PySem.W.Fast.tw8066857282559149037:Nat:=0
def PySem.W.Fast.tw9779186105872908293:Nat:=0
def PySem.W.Fast.tw11915479665628008051:Nat:=0
def PySem.W.Fast.tw690845419172045162:Nat:=0
def PySem.W.Fast.tw18092415823642817303:Nat:=0
def PySem.W.Fast.tw15393743879967395766:Nat:=0
def PySem.W.Fast.tw11951054615410527591:Nat:=0
def PySem.W.Fast.tw894257566185722462:Nat:=0
def PySem.W.Fast.tw12647363773272973447:Nat:=0
def PySem.W.Fast.tw8279719511769132143:Nat:=0
def PySem.W.Fast.tw15995029171936556634:Nat:=0
def PySem.W.Fast.tw26070377130389424:Nat:=0
def PySem.W.Fast.tw13068119532795057191:Nat:=0
def PySem.W.Fast.tw12452322963584313361:Nat:=0
def PySem.W.Fast.tw13937021191540828309:Nat:=0
def PySem.W.Fast.tw7470987960974860306:Nat:=0
def PySem.W.Fast.tw6943799598110739499:Nat:=0
def PySem.W.Fast.tw11489774196393575391:Nat:=0
def PySem.W.Fast.tw3106974926277319303:Nat:=0
def PySem.W.Fast.tw2315451167706135280:Nat:=0
def PySem.W.Fast.tw12326940945740243962:Nat:=0
def PySem.W.Fast.tw6221871329950920752:Nat:=0
def PySem.W.Fast.tw2018646064943460569:Nat:=0
def PySem.W.Fast.tw1976040193624157095:Nat:=0
def PySem.W.Fast.tw8013174252899890799:Nat:=0
def PySem.W.Fast.tw6135805539238472285:Nat:=0
def PySem.W.Fast.tw13859160650981305620:Nat:=0
def PySem.W.Fast.tw11550684587565860189:Nat:=0
def PySem.W.Fast.tw9879570562427245206:Nat:=0
def PySem.W.Fast.tw2170125216302013841:Nat:=0
def PySem.W.Fast.tw17154096266374801771:Nat:=0
def PySem.W.Fast.tw6016535154563609599:Nat:=0
def PySem.W.Fast.tw5069484304299663597:Nat:=0
def PySem.W.Fast.tw6694172227265024185:Nat:=0
def PySem.W.Fast.tw13808989163454630239:Nat:=0
def PySem.W.Fast.tw14803210437730268790:Nat:=0
def PySem.W.Fast.tw17341905206457315433:Nat:=0
def PySem.W.Fast.tw1480049002654332694:Nat:=0
def PySem.W.Fast.tw11055818890238761392:Nat:=0
def PySem.W.Fast.tw4146628473193490740:Nat:=0
def PySem.W.Fast.tw8347466411218943371:Nat:=0
def PySem.W.Fast.tw7194194872584024507:Nat:=0
def PySem.W.Fast.tw1384937114217126014:Nat:=0
open PySem PySem.W PyProof.Rows
set_option maxRecDepth 100000 in
set_option maxHeartbeats 0 in
theorem PySem.Challenge.cw_letterlaw_k57_whole_only_one_list_holds : PySem.Challenge.rw_letterlaw_k57_whole_only_one_list.Holds := by
 w_on;o_law;k_head; (case hw=>w_witness2)
 k_fill
 refine LL.walk (l:=PySem.Challenge.rw_letterlaw_k57_whole_only_one_list) rfl rfl (fun w h Y=>PySem.W.km_in_of Y) ?hJJ ?hNN ?hFF
 case hJJ=>first | kernel_rfl | rfl | decide +kernel
 case hNN=>intro w;first | kernel_rfl | rfl
 case hFF =>
  intro w mg fa h cc T KX G hmg hlam hgT
  refine' LL.all_mk KX G hmg hlam hgT ?a0 ?l0 ?k0 ?p0 ?a1 ?l1 ?k1 ?p1 ?a2 ?l2 ?k2 ?p2 ?a3 ?l3 ?k3 ?p3 ?a4 ?l4 ?k4 ?p4 ?a5 ?l5 ?k5 ?p5 ?a6 ?l6 ?k6 ?p6 ?a7 ?l7 ?k7 ?p7 ?a8 ?l8 ?k8 ?p8 ?a9 ?l9 ?k9 ?p9 ?a10 ?l10 ?k10 ?p10 ?a11 ?l11 ?k11 ?p11 ?a12 ?l12 ?k12 ?p12 ?a13 ?l13 ?k13 ?p13 ?a14 ?l14 ?k14 ?p14 ?a15 ?l15 ?k15 ?p15 ?a16 ?l16 ?k16 ?p16 ?a17 ?l17 ?k17 ?p17 ?a18 ?l18 ?k18 ?p18 ?a19 ?l19 ?k19 ?p19 ?a20 ?l20 ?k20 ?p20 ?a21 ?l21 ?k21 ?p21 ?a22 ?l22 ?k22 ?p22 ?a23 ?l23 ?k23 ?p23 ?a24 ?l24 ?k24 ?p24 ?a25 ?l25 ?k25 ?p25 ?a26 ?l26 ?k26 ?p26 ?a27 ?l27 ?k27 ?p27 ?a28 ?l28 ?k28 ?p28 ?a29 ?l29 ?k29 ?p29 ?a30 ?l30 ?k30 ?p30 ?a31 ?l31 ?k31 ?p31 ?a32 ?l32 ?k32 ?p32 ?a33 ?l33 ?k33 ?p33 ?a34 ?l34 ?k34 ?p34 ?a35 ?l35 ?k35 ?p35 ?a36 ?l36 ?k36 ?p36 ?a37 ?l37 ?k37 ?p37 ?a38 ?l38 ?k38 ?p38 ?a39 ?l39 ?k39 ?p39 ?a40 ?l40 ?k40 ?p40 ?a41 ?l41 ?k41 ?p41 ?a42 ?l42 ?k42 ?p42 ?a43 ?l43 ?k43 ?p43 ?a44 ?l44 ?k44 ?p44 ?a45 ?l45 ?k45 ?p45 ?a46 ?l46 ?k46 ?p46 ?g_LetterError ?g_NoLetters ?g_NoOrder ?g_Order ?g_FromRight ?g_ByWeights ?g_NotTurned ?g_System ?g_NoUse ?g_TooFar ?kbb ?kt ?ki ?kb ?kl ?x7 ?x8 ?x1 ?x2 ?x3 ?x4 ?x5 ?x6 ?x9 ?xi ?y1 ?y2 ?y3 ?y4 ?y5 ?y6 ?y9 ?yi ?most ?mostw ?mT ?mU ?mV ?mX ?mY ?mZ ?nc ?nP ?nQ ?nR ?lu ?lv ?lw ?lx ?ly ?lA ?lB ?mr ?mv ?mw ?lC ?lD ?lE ?lF ?lG ?lH ?lJ ?mx ?my ?mz ?nw_ByWeights ?sgO ?rdO ?win ?tt1 ?tt2 ?tt3 ?tt4 ?tt5 ?tt6 ?tt9 ?nn ?ini ?lI ?kI ?pI ?fnI ?mB ?mC ?mD ?mE ?mF ?mG ?no_System ?nr_System ?u1 ?u2 ?u3 ?u4 ?u5 ?u6 ?u9 ?ua ?iniU ?lU ?kU ?pU ?fnU ?v1 ?v2 ?v3 ?v4 ?v5 ?v6 ?v9 ?vi ?sFF ?ks ?nany ?nsorted ?mou ?mos ?mod_ ?mop ?mcu ?mce ?mcd ?mcp ?iN ?iO ?iP ?ig ?ij ?ip ?iq ?ir ?gk ?gJ ?iQ ?iR ?iS ?gC ?ik ?gN ?gP ?gQ ?gr ?gT ?gU ?gX ?gY ?gZ ?ic ?gE ?gF ?gG ?gb ?gH ?iT ?iU ?iV ?ge ?gD ?iu ?iw ?iz ?fS ?gm ?iH ?iI ?iJ ?iK ?iL ?gw ?gx ?gy ?fX ?gz ?mI ?lX ?fcO ?fiR_init ?fiR_weight ?fiW_seen ?fiR_rank ?fiW_rank ?fiR_before ?fiW_before ?b0 ?b1 ?b2 ?b3 ?b4 ?b5 ?b6 ?b7 ?b8 ?b9 ?b10 ?b11 ?b12 ?b13 ?b14 ?b15
  case a0|l0|k0|p0|a1|l1|k1|p1|a2|l2|k2|p2|a3|l3|k3|p3|a4|l4|k4|p4|a5|l5|k5|p5|a6|l6|k6|p6|a7|l7|k7|p7|a8|l8|k8|p8|a9|l9|k9|p9|a10|l10|k10|p10|a11|l11|k11|p11|a12|l12|k12|p12|a13|l13|k13|p13|a14|l14|k14|p14|a15|l15|k15|p15|a16|l16|k16|p16|a17|l17|k17|p17|a18|l18|k18|p18|a19|l19|k19|p19|a20|l20|k20|p20|a21|l21|k21|p21|a22|l22|k22|p22|a23|l23|k23|p23|a24|l24|k24|p24|a25|l25|k25|p25|a26|l26|k26|p26|a27|l27|k27|p27|a28|l28|k28|p28|a29|l29|k29|p29|a30|l30|k30|p30|a31|l31|k31|p31|a32|l32|k32|p32|a33|l33|k33|p33|a34|l34|k34|p34|a35|l35|k35|p35|a36|l36|k36|p36|a37|l37|k37|p37|a38|l38|k38|p38|a39|l39|k39|p39|a40|l40|k40|p40|a41|l41|k41|p41|a42|l42|k42|p42|a43|l43|k43|p43|a44|l44|k44|p44|a45|l45|k45|p45|a46|l46|k46|p46|g_LetterError|g_NoLetters|g_NoOrder|g_Order|g_FromRight|g_ByWeights|g_NotTurned|g_System|g_NoUse|g_TooFar=>k_is
  (case kbb=>first | kernel_rfl | rfl)
  (case kt=>first | kernel_rfl | rfl)
  (case ki=>first | kernel_rfl | rfl)
  (case kb=>first | kernel_rfl | rfl)
  (case kl=>first | kernel_rfl | rfl)
  case x7|x8=>k_is
  (case x1=>first | kernel_rfl | rfl | decide +kernel)
  case x2|x3|x4|x5|x6|x9|xi=>k_is
  (case y1=>first | kernel_rfl | rfl | decide +kernel)
  case y2|y3|y4|y5|y6|y9|yi|most|mostw=>k_is
  (case mT=>first | kernel_rfl | rfl | k_is | decide +kernel)
  (case mU=>first | kernel_rfl | rfl | k_is)
  (case mV=>first | kernel_rfl | rfl | k_is | decide +kernel)
  case mX=>k_is
  (case mY=>first | kernel_rfl | rfl | k_is | decide +kernel)
  case mZ|nc=>k_is
  (case nP=>first | kernel_rfl | rfl)
  case nQ|nR=>k_is
  (case lu=>first | kernel_rfl | rfl | k_is | decide +kernel)
  (case lv=>first | kernel_rfl | rfl | k_is)
  (case lw=>first | kernel_rfl | rfl | k_is | decide +kernel)
  case lx=>k_is
  (case ly=>first | kernel_rfl | rfl | k_is | decide +kernel)
  case lA|lB=>k_is
  (case mr=>first | kernel_rfl | rfl)
  case mv|mw=>k_is
  (case lC=>first | kernel_rfl | rfl | k_is | decide +kernel)
  (case lD=>first | kernel_rfl | rfl | k_is)
  (case lE=>first | kernel_rfl | rfl | k_is | decide +kernel)
  case lF=>k_is
  (case lG=>first | kernel_rfl | rfl | k_is | decide +kernel)
  case lH|lJ=>k_is
  (case mx=>first | kernel_rfl | rfl)
  case my|mz|nw_ByWeights|sgO=>k_is
  (case rdO=>first | kernel_rfl | rfl | k_is | decide +kernel)
  case win=>k_is
  (case tt1=>first | kernel_rfl | rfl | decide +kernel)
  case tt2|tt3|tt4|tt5|tt6|tt9|nn|ini|lI|kI|pI=>k_is
  (case fnI=>first | kernel_rfl | rfl | k_is)
  (case mB=>first | kernel_rfl | rfl | k_is | decide +kernel)
  (case mC=>first | kernel_rfl | rfl | k_is)
  (case mD=>first | kernel_rfl | rfl | k_is | decide +kernel)
  case mE=>k_is
  (case mF=>first | kernel_rfl | rfl | k_is | decide +kernel)
  case mG|no_System|nr_System=>k_is
  (case u1=>first | kernel_rfl | rfl | decide +kernel)
  case u2|u3|u4|u5|u6|u9|ua|iniU|lU|kU|pU=>k_is
  (case fnU=>first | kernel_rfl | rfl | k_is)
  (case v1=>first | kernel_rfl | rfl | decide +kernel)
  case v2|v3|v4|v5|v6|v9|vi|sFF=>k_is
  (case ks=>first | kernel_rfl | rfl)
  case nany|nsorted|mou|mos|mod_|mop|mcu|mce|mcd|mcp|iN|iO|iP|ig=>k_is
  (case ij=>first | kernel_rfl | rfl | k_is)
  case ip|iq|ir|gk=>k_is
  (case gJ=>first | kernel_rfl | rfl | k_is)
  case iQ|iR|iS|gC=>k_is
  (case ik=>first | kernel_rfl | rfl | k_is)
  case gN|gP|gQ|gr=>k_is
  (case gT=>first | kernel_rfl | rfl | k_is)
  case gU|gX|gY|gZ=>k_is
  (case ic=>first | kernel_rfl | rfl | k_is)
  case gE|gF|gG|gb=>k_is
  (case gH=>first | kernel_rfl | rfl | k_is)
  case iT|iU|iV|ge=>k_is
  (case gD=>first | kernel_rfl | rfl | k_is)
  case iu|iw|iz|fS=>k_is
  (case gm=>first | kernel_rfl | rfl | k_is)
  case iH|iI|iJ|iK=>k_is
  (case iL=>first | kernel_rfl | rfl | k_is)
  case gw|gx|gy|fX=>k_is
  (case gz=>first | kernel_rfl | rfl | k_is)
  case mI|lX|fcO|fiR_init|fiR_weight|fiW_seen|fiR_rank|fiW_rank|fiR_before|fiW_before|b0|b1|b2|b3|b4|b5|b6|b7|b8|b9|b10|b11|b12|b13|b14|b15=>k_is
#print axioms PySem.Challenge.cw_letterlaw_k57_whole_only_one_list_holds
