import PyProof.Rows.All
import Wide.All
import OpenK.AllK
import Wide.FinOn
import PyProof.EqAt
import PyProof.EqKinds
import PyProof.NeKinds
import PyProof.TupleCall
import KE.KRevIter
import PyProof.ZipIter
import PyProof.Rows.SetFrom
import PyProof.StrWalks
import PyProof.DictStraight
import PyProof.StrLawsFrom
import PyProof.Rows.StrNews2
import KE.KMinBuiltin
import PyProof.Rows.CallKwBuiltin
import PyProof.Rows.SortShell
import KE.KSortTup
import KE.KBoundM
import KE.KLam
import Lean
import PySem.Challenge.RW_letterlaw_k73_whole_forms_and_rooms
set_option compiler.extract_closed false
open List renaming getElem?_eq_some_iff→rD,mem_singleton→rE,mem_append→rF,mem_map→rG,mem_cons→rH,mem_range→rJ,all_eq_true→rL,mem_filter→rM,nodup_cons→rN,mem_iff_getElem?→rO,length_eq_zero_iff→rP,mem_flatMap→rQ,length_pos_iff→rS,mem_reverse→rT,mem_filterMap→rV,nodup_iff_count→rW,pairwise_append→rX,pairwise_cons→rY,head?_eq_none_iff→rZ
open Option renaming map_eq_some_iff→rK,isSome_iff_exists→rR
local macro_rules | `(tactic| symm)=>do `(tactic| decide +kernel)
local macro_rules | `(tactic| nofun)=>do `(tactic| exact⟨rfl,rfl,rfl,by decide +kernel,rfl,by decide +kernel,by decide +kernel⟩)
open List renaming length_map→aa,mem_of_getElem?→ae,getElem?_eq_getElem→ag,size_toArray→ah,getD_eq_getElem?_getD→aj,replicate→ak,length_append→am,getElem?_map→au,mem_cons_of_mem→aw,map_cons→ax,range→az,idxOf_lt_length_of_mem→aC,mem_cons_self→aD,map_append→aE,mem_append_right→aF,length_cons→aI,length_take→aO,lookup_cons→aS,drop_eq_getElem_cons→aT,replicate_succ→aU,sum_cons→aV,append_nil→aX,map_nil→ba,getElem?_append_left→bc,take_length→be,mem_append_left→bf,toArray→bg,lookup→bn,getElem?_append_right→bo,cons_append→bp,getElem_idxOf→bq,nodup_iff_pairwise_ne→bw,drop_of_length_le→bB,flatMap_append→bF,length_replicate→bG,length_drop→bJ,append_assoc→bN,pairwise_map→bO,length_range→bP,map_congr_left→bR,take_of_length_le→bS,length_pos_of_mem→bT,take_append_drop→bW,eq_nil_or_concat→bZ,concat_eq_append→cb,mem_of_mem_take→cj,length_singleton→cz,nil_append→cA,getElem?_eq_none→cD,range_succ→cE,flatten_cons→cF,pairwise_iff_getElem→cH,mem_of_find?_eq_some→cI,getElem?_range→cL,pairwise_lt_range→cP,flatMap_cons→cS,mem_of_mem_drop→cY,length_nil→db,sum_append→de,contains_cons→dh,set_cons_zero→di,set_cons_succ→dj,pairwise_singleton→dm,getElem?_set_self→dq,range_succ_eq_map→dt,not_of_lt_findIdx→dw,flatMap_singleton→dz,getElem_mem→dD,getElem?_set_ne→dE,forIn_cons→dF,map_map→dH,sum_nil→dI,find?_some→dJ,eq_nil_of_length_eq_zero→dL,filterMap_cons→dM,take_succ_cons→dP,zip_cons_cons→dY,mem_singleton→dZ,reverse_cons→d8,extract_eq_drop_take→d9,mem_nil_iff→em,mem_flatMap→eA,eq_of_mem_replicate→eC,getElem?_replicate→eD,filter_cons_of_pos→eE,filter_cons_of_neg→eF,of_mem_zip→eI,idxOf_cons→eK,take_zero→eQ,length_filter_le→eR,mem_range→eS,pairwise_flatMap→eU,foldl→eV,replicate_succ'→eX,map_take→eZ,map_drop→e6,mem_cons→e7,getD_cons_zero→fg,length_reverse→fh,filter_append→ft,getElem?_take→fu,find?_eq_none→fw
open PySem.W renaming findIn→ac,nsIn→aA,keepIn→aG,mg_of→aM,mg_none_of→aN,isFn→aQ,kitOne→aR,fnOf→aZ,kia_one→bj,mroIn→br,codeIn→bz,hasDictIn→bD,emptyDict→bE,plainGet→bH,callWith_K→bI,methodCall_KW→bU,kla_fn→bY,instObj→ce,plainOver→cq,specialIn→cr,makesIn→cy,looks_findIn→cG,takesIn→da,subIn→dA,plainGet_of→dO,lookIn→dU,methodObj→d6,kitx_list→d7,envX→et,takerIn→eG,cellsFrom_some→eL,callWith_K0→e9,kitx_tuple→fk,set_plain→fz,kitx_dict→fA,handedIn→fB,bind_fn→fF,findObj→fG,readsIn→fH,findCls→fJ,kat_nil→fM,kas_ask→fN
open PySem.Heap renaming get?_push_of_some→af,lt_size→ao,get?_push_size→aH,get?_update_other→aJ,size_push→bK,get?_update_self→cB,size_update→ee
open Nat renaming lt_of_lt_of_le→aq,le_refl→ar,ne_of_lt→ay,zero_le→aP,le_trans→bu,lt_of_le_of_lt→bX,le_add_right→cu,not_lt_zero→cC,ne_of_gt→cJ,lt_irrefl→cM,le_succ→cN,lt_succ_of_lt→cQ,le_of_not_lt→cX,min_eq_left→dc,le_of_lt→df,succ_mul→dg,mul_le_mul→dk,min_eq_right→dB,min_self→eh,zero_add→er,add_comm→fm,lt_or_ge→fq,sub_self→fv
open Bool renaming false_ne_true→av,false_eq_true→bV,eq_iff_iff→cf,eq_false_or_eq_true→ci,and_eq_true→cK,and_false→dW,or_true→eg,and_true→eY
open PySem renaming boot_len→aB,mem_of_lookup→bQ,frameOf→d4,call→fL
open PySem.F renaming plainAttrs_list→aK,slot_list_append→bh,type_list_append→bi,plainAttrs_str→bx,plain_max_loop→bC,slot_list_index→bL,type_list_index→bM,slot_str_find→cT,type_str_find→cU,entry_max_loop→du,excBase_ValueError→d5,slot_str_count→eM,type_str_count→eN,slot_str_index→eO,type_str_index→eP
open Int renaming toNat_natCast→aL,emod_lt_of_pos→aY,emod_nonneg→bt,eq_ofNat_of_zero_le→bv,toNat_of_nonneg→dQ
open PySem.Str renaming ofString→bA,empty→dX
open PyProof.Rows renaming callWith_type1→cw,boot_sorted→eB,recsOf→fj
open Array renaming toList_append→cZ,length_toList→dN,getD→eW
open Option renaming getD_some→dC,map_some→eJ,getD_none→fC,bind_some→fE
open PySem renaming wpAny_bind→ro,wpAny_pure→rp,mainGlobals→rq,starEach→rA,sizeLine→rB
open PySem.W renaming Frag→rC
open PySem PySem.Spec PyProof.Rows
set_option Elab.async false
set_option linter.all false
set_option maxRecDepth 100000
set_option maxHeartbeats 4000000
namespace L2
noncomputable abbrev Key:=Sum Int Str
noncomputable def JA:Key->Value->Bool
 | .inl k,v=>Value.isInt k v
 | .inr x,v=>Value.isStrOf x v
noncomputable def zbx(w:World):Key->Int
 | .inl k=>hashInt k
 | .inr x=>hashStr w x
theorem zO:∀{k:Key} {v:Value},JA k v=true->(∃ i t,k=Sum.inl i/\v=Value.int i t)\/(∃ x t,k=Sum.inr x/\v=Value.str x t)
 | .inl i,v,h=>by
  obtain⟨t,e⟩:=Value.isInt_shape (k:=i) (v:=v) h
  exact .inl ⟨i,t,rfl,e⟩
 | .inr x,v,h=>by
  obtain⟨t,e⟩:=Value.isStrOf_shape (x:=x) (v:=v) h
  exact .inr ⟨x,t,rfl,e⟩
theorem Jz(a b:Int):decide ((Sum.inl a:Key)=Sum.inl b)=(a == b):=by
 by_cases e:a=b
 ·subst e;simp
 ·have h:¬ (Sum.inl a:Key)=Sum.inl b:=fun q=>e (Sum.inl.inj q)
  rw[decide_eq_false h]
  exact (beq_eq_false_iff_ne.mpr e).symm
theorem Je(a b:Str):decide ((Sum.inr a:Key)=Sum.inr b)=decide (a=b):=by
 by_cases e:a=b
 ·subst e;simp
 ·have h:¬ (Sum.inr a:Key)=Sum.inr b:=fun q=>e (Sum.inr.inj q)
  rw[decide_eq_false h,decide_eq_false e]
theorem Jw(a:Int)(b:Str):decide ((Sum.inl a:Key)=Sum.inr b)=false:=decide_eq_false (fun q=>nomatch q)
theorem Q9(a:Str)(b:Int):decide ((Sum.inr a:Key)=Sum.inl b)=false:=decide_eq_false (fun q=>nomatch q)
noncomputable def Zd(prog:Program)(w:World):PySem.KeyKind prog w Key where
 is:=JA
 hash:=zbx w
 inj:=fun v a b ha hb=>by
  rcases zO ha with ⟨i,t,rfl,rfl⟩ | ⟨x,t,rfl,rfl⟩
  ·rcases zO hb with ⟨j,u,rfl,e⟩ | ⟨y,u,rfl,e⟩
   ·injection e with e1 _;rw[e1]
   ·exact nomatch e
  ·rcases zO hb with ⟨j,u,rfl,e⟩ | ⟨y,u,rfl,e⟩
   ·exact nomatch e
   ·injection e with e1 _;rw[e1]
 byValue:=fun k v h=>by
  rcases zO h with ⟨i,t,rfl,rfl⟩ | ⟨x,t,rfl,rfl⟩ <;> rfl
 pyHash:=fun hv h=>by
  rcases zO hv with ⟨i,t,rfl,rfl⟩ | ⟨x,t,rfl,rfl⟩
  ·exact wpAny_pyHash_int h
  ·exact wpAny_pyHash_str h
 eqBool:=fun hu hv h=>by
  rcases zO hu with ⟨i,t,rfl,rfl⟩ | ⟨x,t,rfl,rfl⟩
  ·rcases zO hv with ⟨j,u,rfl,rfl⟩ | ⟨y,u,rfl,rfl⟩
   ·rw[Jz] at h;exact wpAny_eqBool_int h
   ·rw[Jw] at h;exact SeqAt.EqAt.int_str i t y u _ _ _ _ h
  ·rcases zO hv with ⟨j,u,rfl,rfl⟩ | ⟨y,u,rfl,rfl⟩
   ·rw[Q9] at h;exact SeqAt.EqAt.str_int x t j u _ _ _ _ h
   ·rw[Je] at h;exact wpAny_eqBool_str h
 «strs»:=fun k x t v h=>by
  rcases zO h with ⟨i,u,rfl,e⟩ | ⟨y,u,rfl,e⟩
  ·exact nomatch e
  ·injection e with e1 _
   subst e1
   cases v <;> rfl
end L2
namespace L2
inductive V where
 | non | bl (b:Bool) | int (i:Int) | str (x:Str) | byt (b:Array UInt8) | flt (b:UInt64) | ref (a:Addr) | ty (n:String)
 deriving DecidableEq
def RelV:V->Value->Prop
 | .non,u=>u=Value.none
 | .bl b,u=>u=Value.bool b
 | .int i,u=>∃ t,u=Value.int i t
 | .str x,u=>∃ t,u=Value.str x t
 | .byt b,u=>∃ t,u=Value.bytes b t
 | .flt b,u=>∃ t,u=Value.float b t
 | .ref a,u=>u=Value.ref a
 | .ty n,u=>u=Value.type n
abbrev Vals:List V->List Value->Prop:=Paired RelV
theorem Vals.length{xs:List V}{us:List Value}(r:Vals xs us):xs.length=us.length:=Paired.length r
theorem Vals.get:∀{xs:List V} {us:List Value} {i:Nat} {x:V},Vals xs us->xs[i]? = some x->∃ u,us[i]? = some u/\RelV x u
 | _,_,_,_,.nil,e=>by simp at e
 | _,_,0,_,.cons r _,e=>by simp at e;subst e;exact⟨_,rfl,r⟩
 | _,_,i+1,x,.cons _ t,e=>by
  obtain⟨u,h1,h2⟩:=Vals.get (i:=i) (x:=x) t (by simpa using e)
  exact⟨u,by simpa using h1,h2⟩
theorem Vals.set{x:V}{u:Value}(r:RelV x u):∀{xs:List V} {us:List Value} (i:Nat),Vals xs us->Vals (xs.set i x) (us.set i u)
 | _,_,_,.nil=>.nil
 | _,_,0,.cons _ t=>.cons r t
 | _,_,i+1,.cons q t=>.cons q (Vals.set r i t)
theorem Vals.append:∀{xs ys:List V} {us ws:List Value},Vals xs us->Vals ys ws->Vals (xs ++ ys) (us ++ ws)
 | _,_,_,_,.nil,s=>s
 | _,_,_,_,.cons r t,s=>.cons r (Vals.append t s)
theorem Vals.take:∀{xs:List V} {us:List Value} (n:Nat),Vals xs us->Vals (xs.take n) (us.take n)
 | _,_,0,_=>.nil
 | _,_,_+1,.nil=>.nil
 | _,_,n+1,.cons r t=>.cons r (Vals.take n t)
theorem Vals.drop:∀{xs:List V} {us:List Value} (n:Nat),Vals xs us->Vals (xs.drop n) (us.drop n)
 | _,_,0,r=>r
 | _,_,_+1,.nil=>.nil
 | _,_,n+1,.cons _ t=>Vals.drop n t
def RelO:Option V->Option Value->Prop
 | some v,some u=>RelV v u
 | none,none=>True
 | _,_=>False
def KV{κ:Type}:List (κ × V)->List (κ × Value)->Prop:=Paired fun(p:κ × V) (q:κ × Value)=>p.1=q.1/\RelV p.2 q.2
noncomputable def kV:Key->V
 | .inl i=>.int i
 | .inr x=>.str x
inductive HO where
  | lst (xs:List V)
  | tup (xs:List V)
  | dK (kvs:List (Key × V)) | dT (kvs:List (List Key × V))
  | set (S:Int->Bool) (n:Nat)
  | ins (C dx:Addr) (fs:List (Str × V))
  | own (x:Addr)
  | xd (fs:List (Str × V))
  | met (f x:Addr)
  | rng (lo hi:Int)
  | frz (o:Obj) (u:HO)
  | tbl (ps:Array Value)
  | ext (φ:Heap->Prop)
noncomputable abbrev Hp:=Addr->Option HO
noncomputable def upd(H:Hp)(a:Addr)(o:HO):Hp:=fun b=>if b=a then some o else H b
theorem zb{H:Hp}{a:Addr}{o:HO}:upd H a o a=some o:=by unfold upd;rw[if_pos rfl]
theorem zh{H:Hp}{a b:Addr}{o:HO}(h:b≠a):upd H a o b=H b:=by unfold upd;rw[if_neg h]
theorem zr{H:Hp}{a b:Addr}{o:HO}(h:H a=some o)(h':H b=none):a≠b:=by
 intro e;subst e;rw[h] at h';cases h'
section
variable(P:Program)(w:World)
def ObjOk(H:Hp)(h:Heap)(a:Addr):HO->Prop
 | .lst xs=>xs.length<=rB/\∃(its:List Value) (n:Nat),Vals xs its/\h.get? a=some { cls:=.type "list",data:=.seq its.toArray n }
 | .tup xs=>xs.length<=rB/\∃ its:List Value,Vals xs its/\IsTup h a its.toArray
 | .dK kvs=>kvs.length<=rB/\(a == sysModules)=false/\∃ vs,KV kvs vs/\h.DictOf (Zd P w) a vs
 | .dT kvs=>kvs.length<=rB/\(a == sysModules)=false/\∃ xs:List (List Key × Addr × Value),
   Paired (fun(p:List Key × V) (q:List Key × Addr × Value)=>p.1=q.1/\H q.2.1=some (.tup (p.1.map kV))/\RelV p.2 q.2.2) kvs xs /\
   ∃ o es ep,h.get? a=some o/\o.ExactDict/\o.data=.dict es ep/\es.toList=xs.map (entryOfKey (tupleKind (Zd P w)))/\(xs.map (·.1)).Nodup
 | .set S n=>h.SetOf (intKind P w) a S n
 | .ins C dx fs=>H dx=some (.own a)/\fs.length<=1000/\dx≠a/\h.get? a=some (ce C dx) /\
   ∃ mA,h.Ns1 dx mA/\(∀ f,RelO (fs.lookup f) (mA f))/\PySem.Within mA (fs.map (·.1))
 | .own _=>∃ o,h.get? a=some o
 | .xd fs=>∃ mA,h.Ns1 a mA/\∀ f,RelO (fs.lookup f) (mA f)
 | .rng lo hi=>∃ t u v,h.get? a=some { cls:=.type "range",data:=.fields #[.int lo t,.int hi u,.int 1 v] }
 | .frz o u=>h.get? a=some o/\ObjOk H h a u
 | .tbl ps=>h.get? a=some { cls:=.none,data:=.fields ps }
 | .met f x=>h.get? a=some (d6 (.ref f) (.ref x))
 | .ext φ=>φ h/\(∃ o,h.get? a=some o)/\∀ h1 h2:Heap,φ h1->(∀ o,h1.get? a=some o->h2.get? a=some o)->φ h2
def HOk(H:Hp)(h:Heap):Prop:=∀ a o,H a=some o->ObjOk P w H h a o
end
section
variable{P:Program}{w:World}{H H':Hp}{h h':Heap}{a:Addr}{o:HO}
theorem ObjOk.lt(x:ObjOk P w H h a o):a<h.objs.size:=by
 cases o with
 | lst xs=>obtain⟨_,_,_,_,e⟩:=x;exact ao e
 | tup xs=>obtain⟨_,_,_,p⟩:=x;exact p.lt
 | dK kvs=>obtain⟨_,_,_,_,o,_,_,e,_⟩:=x;exact ao e
 | dT kvs=>obtain⟨_,_,_,_,o,_,_,e,_⟩:=x;exact ao e
 | set S n=>obtain⟨o,_,_,_,e,_⟩:=x;exact ao e
 | ins C dx fs=>obtain⟨_,_,_,e,_⟩:=x;exact ao e
 | own y=>obtain⟨_,e⟩:=x;exact ao e
 | xd fs=>obtain⟨_,⟨_,_,_,e,_⟩,_⟩:=x;exact ao e
 | rng lo hi=>obtain⟨_,_,_,e⟩:=x;exact ao e
 | frz ob u=>obtain⟨e,_⟩:=x;exact ao e
 | tbl ps=>exact ao (show h.get? a=some _ from x)
 | met f y=>exact ao (show h.get? a=some _ from x)
 | ext φ=>obtain⟨_,⟨_,e⟩,_⟩:=x;exact ao e
theorem Paired.mapP{α β:Type}{F G:α->β->Prop}:∀{l₁:List α} {l₂:List β},Paired F l₁ l₂->(∀ a b,F a b->G a b)->Paired G l₁ l₂
 | _,_,.nil,_=>.nil
 | _,_,.cons r t,f=>.cons (f _ _ r) (Paired.mapP t f)
theorem ObjOk.stay(x:ObjOk P w H h a o)(k:∀ b u,(b=a\/H b=some (.own a))->h.get? b=some u->h'.get? b=some u)
  (ho:∀ b,H b=some (.own a)->H' b=some (.own a)) (ht:∀ b xs,H b=some (.tup xs)->H' b=some (.tup xs)):ObjOk P w H' h' a o:=by
 induction o with
 | lst xs=>obtain⟨z,its,n,r,e⟩:=x;exact⟨z,its,n,r,k _ _ (.inl rfl) e⟩
 | tup xs=>obtain⟨z,its,r,ob,e,c⟩:=x;exact⟨z,its,r,ob,k _ _ (.inl rfl) e,c⟩
 | dK kvs=>obtain⟨z,y,vs,r,ob,es,ep,e,c⟩:=x;exact⟨z,y,vs,r,ob,es,ep,k _ _ (.inl rfl) e,c⟩
 | dT kvs =>
  obtain⟨z,y,xs,r,ob,es,ep,e,c⟩:=x
  exact⟨z,y,xs,Paired.mapP r fun p q z=>⟨z.1,ht _ _ z.2.1,z.2.2⟩,ob,es,ep,k _ _ (.inl rfl) e,c⟩
 | set S n=>obtain⟨ob,es,ep,t,e,c⟩:=x;exact⟨ob,es,ep,t,k _ _ (.inl rfl) e,c⟩
 | ins C dx fs =>
  obtain⟨d,z,ne,e,mA,⟨od,es,ep,e2,c⟩,r⟩:=x
  exact⟨ho _ d,z,ne,k _ _ (.inl rfl) e,mA,⟨od,es,ep,k _ _ (.inr d) e2,c⟩,r⟩
 | own y=>obtain⟨ob,e⟩:=x;exact⟨ob,k _ _ (.inl rfl) e⟩
 | xd fs=>obtain⟨mA,⟨od,es,ep,e,c⟩,r⟩:=x;exact⟨mA,⟨od,es,ep,k _ _ (.inl rfl) e,c⟩,r⟩
 | rng lo hi=>obtain⟨t,u,v,e⟩:=x;exact⟨t,u,v,k _ _ (.inl rfl) e⟩
 | frz ob u ih=>obtain⟨e,q⟩:=x;exact⟨k _ _ (.inl rfl) e,ih q⟩
 | tbl ps =>
  have e:h.get? a=some { cls:=.none,data:=.fields ps }:=x
  show h'.get? a=some { cls:=.none,data:=.fields ps }
  exact k a _ (.inl rfl) e
 | met f y =>
  have e:h.get? a=some (d6 (.ref f) (.ref y)):=x
  show h'.get? a=some (d6 (.ref f) (.ref y))
  exact k a _ (.inl rfl) e
 | ext φ=>obtain⟨p,⟨o,e⟩,st⟩:=x;exact⟨st _ _ p fun o q=>k _ _ (.inl rfl) q,⟨o,k _ _ (.inl rfl) e⟩,st⟩
theorem HOk.lt(x:HOk P w H h)(e:H a=some o):a<h.objs.size:=(x a o e).lt
theorem HOk.fresh(x:HOk P w H h)(e:h.objs.size<=a):H a=none:=by
 cases q:H a with
 | none=>rfl
 | some u=>exact absurd (aq (x.lt q) e) (cM _)
theorem HOk.kept(x:HOk P w H h)(k:∀ b u,h.get? b=some u->h'.get? b=some u):HOk P w H h':=fun a o e =>
 (x a o e).stay (fun b u _ q=>k b u q) (fun _ q=>q) fun _ _ q=>q
theorem HOk.laid(x:HOk P w H h)(k:∀ b u,h.get? b=some u->h'.get? b=some u)(hp:h.objs.size<=a)(new:ObjOk P w (upd H a o) h' a o):HOk P w (upd H a o) h':=fun b u e=>by
 have hn:=x.fresh hp
 by_cases hb:b=a
 ·subst hb;rw[zb] at e;cases e;exact new
 ·rw[zh hb] at e
  exact (x b u e).stay (fun c v _ q=>k c v q) (fun c q=>by rw[zh (zr q hn)];exact q) fun c xs q=>by rw[zh (zr q hn)];exact q
end
def Rd(H:Hp)(a:Addr)(u:HO):Prop:=H a=some u\/∃ o,H a=some (.frz o u)
theorem Rd.ok{P:Program}{w:World}{H:Hp}{h:Heap}{a:Addr}{u:HO}(r:Rd H a u)(x:HOk P w H h):ObjOk P w H h a u:=by
 rcases r with r | ⟨o,r⟩
 ·exact x a u r
 ·obtain⟨_,q⟩:=x a _ r
  exact q
def Mut:Option HO->Prop
 | some (.lst _)=>True
 | some (.dK _)=>True
 | some (.dT _)=>True
 | some (.set _ _)=>True
 | some (.ins _ _ _)=>True
 | some (.ext _)=>True
 | _=>False
section
variable{P:Program}{w:World}{H:Hp}{h h':Heap}{x e:Addr}{o':HO}
theorem HOk.write(ok:HOk P w H h)(mu:Mut (H x))(he:e=x\/H e=some (.own x))(k:∀ b u,b≠e->h.get? b=some u->h'.get? b=some u)(heo:∃ u,h'.get? e=some u)
  (new:ObjOk P w (upd H x o') h' x o'):HOk P w (upd H x o') h':=fun b u q=>by
 have nown:∀ c y,H c=some (.own y)->c≠x:=fun c y r z=>by subst z;rw[r] at mu;exact mu
 have ntup:∀ c xs,H c=some (.tup xs)->c≠x:=fun c xs r z=>by subst z;rw[r] at mu;exact mu
 by_cases hb:b=x
 ·subst hb;rw[zb] at q;cases q;exact new
 ·rw[zh hb] at q
  by_cases hbe:b=e
  ·have q':H b=some (.own x):=by
    rcases he with z | z
    ·exact absurd (hbe.trans z) hb
    ·rw[hbe];exact z
   rw[q] at q';cases q'
   obtain⟨v,hv⟩:=heo
   exact⟨v,by rw[hbe];exact hv⟩
  ·refine (ok b u q).stay (fun c v hc r=>k c v ?_ r) (fun c r=>by rw[zh (nown c b r)];exact r) fun c xs r=>by rw[zh (ntup c xs r)];exact r
   rcases hc with rfl | hc
   ·exact hbe
   ·rintro rfl
    rcases he with z | z
    ·exact nown c b hc z
    ·rw[hc] at z;cases z;exact hb rfl
end
structure Un(fs ex:List Addr)(H H':Hp)(h h':Heap):Prop where
 keep:∀ b o,h.get? b=some o->H b=none->b ∉ fs->b ∉ ex->h'.get? b=some o
 slot:∀ b o,h.get? b=some o->H b=none->b ∈ fs->b ∉ ex->∃ sl,h'.get? b=some { o with slots:=sl }
 free:∀ b o,h.get? b=some o->H b=none->b ∉ ex->H' b=none
 there:∀ b o,h.get? b=some o->b ∉ ex->∃ o',h'.get? b=some o'
 tups:∀ b xs,H b=some (.tup xs)->H' b=some (.tup xs)
 frzs:∀ b o u,H b=some (.frz o u)->H' b=some (.frz o u)
 tbls:∀ b ps,H b=some (.tbl ps)->∃ more,H' b=some (.tbl (ps ++ more))
section
variable{fs fs' ex ex':List Addr}{H H1 H2:Hp}{h h1 h2 h':Heap}{a x e:Addr}{o:HO}
theorem Un.any(u:Un fs ex H H1 h h1){b:Addr}{ob:Obj}(q:h.get? b=some ob)(n:H b=none)(hx:b ∉ ex):∃ sl,h1.get? b=some { ob with slots:=sl }:=by
 by_cases hb:b ∈ fs
 ·exact u.slot b ob q n hb hx
 ·exact⟨ob.slots,u.keep b ob q n hb hx⟩
theorem Un.kept(k:∀ b u,h.get? b=some u->h'.get? b=some u):Un fs ex H H h h' :=
 ⟨fun b ob q _ _ _=>k b ob q,fun b ob q _ _ _=>⟨ob.slots,k b ob q⟩,fun _ _ _ n _=>n,fun b ob q _=>⟨ob,k b ob q⟩,fun _ _ q=>q,fun _ _ _ q=>q,fun _ ps q=>⟨#[],by rw[q];simp⟩⟩
theorem Un.refl:Un fs ex H H h h:=Un.kept fun _ _ q=>q
theorem Un.laid(k:∀ b u,h.get? b=some u->h'.get? b=some u)(hp:h.objs.size<=a)(hn:H a=none):Un fs ex H (upd H a o) h h' where
 keep:=fun b u q _ _ _=>k b u q
 slot:=fun b u q _ _ _=>⟨u.slots,k b u q⟩
 free:=fun b u q n _=>by rw[zh (ay (aq (ao q) hp))];exact n
 there:=fun b u q _=>⟨u,k b u q⟩
 tups:=fun b xs q=>by rw[zh (zr q hn)];exact q
 frzs:=fun b u xs q=>by rw[zh (zr q hn)];exact q
 tbls:=fun b ps q=>⟨#[],by rw[zh (zr q hn),q];simp⟩
theorem Un.write(mu:Mut (H x))(he:e=x\/H e=some (.own x))(k:∀ b u,b≠e->h.get? b=some u->h'.get? b=some u)(heo:∃ u,h'.get? e=some u):Un fs ex H (upd H x o) h h':=by
 have hx:∀ b,H b=none->b≠x:=fun b n z=>by subst z;rw[n] at mu;exact mu
 have hb:∀ b,H b=none->b≠e:=fun b n z=>by
  subst z
  rcases he with r | r
  ·exact hx b n r
  ·rw[n] at r;cases r
 have hm:∀ b u,H b=some u->¬ Mut (some u)->b≠x:=fun b u q nm z=>by subst z;rw[q] at mu;exact nm mu
 refine⟨fun b u q n _ _=>k b u (hb b n) q,fun b u q n _ _=>⟨u.slots,k b u (hb b n) q⟩,fun b u q n _=>by rw[zh (hx b n)];exact n,fun b u q _=>?_,
  fun b xs q=>by rw[zh (hm b _ q fun z=>z)];exact q,fun b u xs q=>by rw[zh (hm b _ q fun z=>z)];exact q,fun b ps q=>⟨#[],by rw[zh (hm b _ q fun z=>z),q];simp⟩⟩
 by_cases hbe:b=e
 ·subst hbe;exact heo
 ·exact⟨u,k b u hbe q⟩
end
noncomputable def trk(h:Heap)(H:Hp):List Addr:=(az h.objs.size).filter fun a=>(H a).isSome
noncomputable def WA(h:Heap)(H:Hp):Heap:=PySem.W.hideAll h (trk h H)
theorem WV(h:Heap)(H:Hp):(WA h H).objs.size=h.objs.size:=PySem.W.hideAll_size _ _
theorem Zr{h:Heap}{H:Hp}{b:Addr}{o:Obj}(e:h.get? b=some o)(n:H b=none):(WA h H).get? b=some o :=
 PySem.W.hideAll_get _ e fun hm=>by
  have q:(H b).isSome=true:=(rM.mp hm).2
  rw[n] at q;simp at q
theorem U2{h:Heap}{H:Hp}{b:Addr}{o:Obj}(e:(WA h H).get? b=some o):h.get? b=some o/\H b=none:=by
 have e':h.get? b=some o:=PySem.W.of_hideAll (trk h H) e
 refine⟨e',?_⟩
 cases q:H b with
 | none=>rfl
 | some x =>
  have hm:b ∈ trk h H:=rM.mpr ⟨rJ.mpr (ao e'),by simp [q]⟩
  have z:(WA h H).get? b=none:=PySem.W.hideAll_none (trk h H) hm
  rw[z] at e;cases e
noncomputable def UE(g h:Heap)(L:Addr):List (Addr × Obj):=(az h.objs.size).filterMap fun a=>if a=L\/(g.get? a).isSome=true then none else (h.get? a).map fun o=>(a,o)
noncomputable def rest(g h:Heap)(L d:Addr):List (Addr × Obj):=(UE g h L).filter fun p=>decide (p.1≠d)
end L2
namespace L2
structure Mod(K:rC)(mg:Str->Option Value)(base:Heap):Prop where
 kin:K.In base
 glob:base.Ns rq mg
 blt:∃ mb,base.Ns builtinsNs mb/\∀ x:Str,x≠"__name__"->mb x=bootBuiltins x
 nolimit:base.NoLimit
structure Cx where
 prog:Program
 w:World
 K:rC
 mg:Str->Option Value
 base:Heap
 A:Around
 N:List Str
 s₀:Shared
 H₀:Hp
 env:Env
 outer:List Env
 stack:List Env
 ex:List Addr
 fn:Str->Bool
 calm:Bool
 pn:List (Addr × Obj)
 xe:Value->Shared->Prop
noncomputable def frs(l:List Env):List Addr:=l.filterMap (·.frame)
noncomputable abbrev Cx.fs(X:Cx):List Addr:=frs X.outer
def Vis(sc:Scope)(x:Str):Prop:=sc.names.lookup x=some .local\/sc.names.lookup x=some .cell\/sc.names.lookup x=some .free
def Loc(sc:Scope)(x:Str):Prop:=sc.names.lookup x=some .local\/sc.names.lookup x=some .cell
def za0(env:Env)(h:Heap)(m:Str->Option Value)(x:Str)(u:Value):Prop :=
 (env.kindOf x=some .local/\m x=some u)\/((env.kindOf x=some .cell\/env.kindOf x=some .free)/\∃ c,env.cells.lookup x=some c/\h.IsCell c (some u))
structure Cx.Ok(X:Cx):Prop where
 mod:Mod X.K X.mg X.base
 kind:X.env.scope.kind=.function
 glob:X.env.globals=rq
 blt:X.env.builtins=builtinsNs
 above:X.s₀.heap.objs.size<=X.env.locals
 inj:∀ x y c,X.env.cells.lookup x=some c->X.env.cells.lookup y=some c->x=y
 has:∀ x,(X.env.kindOf x=some .cell\/X.env.kindOf x=some .free)->∃ c,X.env.cells.lookup x=some c
 cab:∀ x c,X.fn x=true->X.env.cells.lookup x=some c->X.s₀.heap.objs.size<=c
 hd:X.calm=true->X.A.handled=none
 frames:X.A.frames=some X.stack
 stk:X.stack=X.outer\/(X.stack=X.env::X.outer/\X.env.frame=some X.env.locals)
 exf:∀ b ∈ X.ex,b≠X.env.locals/\∀ x c,X.env.cells.lookup x=some c->c≠b
 bs:∀ b o,X.base.get? b=some o->X.s₀.heap.get? b=some o/\X.H₀ b=none
 bsz:X.base.objs.size<=X.s₀.heap.objs.size
 noex:∀ b o,X.base.get? b=some o->b ∉ X.ex
 exfs:∀ b ∈ X.ex,b ∉ X.fs
 funs:X.s₀.heap.FunFrames X.base X.outer
 frf:∀ b ∈ X.fs,X.H₀ b=none
structure Inv(X:Cx)(pins:List (Addr × Obj))(σ:List (Option V))(H:Hp)(s:Shared):Prop where
 ok:X.Ok
 os:s.os=X.s₀.os
 bare:AllBare s.gens
 base:Un X.fs X.ex X.H₀ H X.s₀.heap s.heap
 loc:∃ m,s.heap.Ns X.env.locals m/\∀(i:Nat) (x:Str) (v:V),X.N[i]? = some x->σ[i]? = some (some v)->Vis X.env.scope x->∃ u,RelV v u/\za0 X.env s.heap m x u
 cell:∀ x c,X.env.cells.lookup x=some c->∃ v,s.heap.IsCell c v
 free:H X.env.locals=none
 freeC:∀ x c,X.env.cells.lookup x=some c->H c=none
 pin:∀ p ∈ X.pn ++ pins,s.heap.get? p.1=some p.2/\H p.1=none/\p.1≠X.env.locals/\p.1 ∉ X.fs/\∀ v,p.2.data≠.cell v
 hok:HOk X.prog X.w H s.heap
 len:σ.length=X.N.length
section
variable{X:Cx}{pins:List (Addr × Obj)}{σ:List (Option V)}{H H':Hp}{s:Shared}{h':Heap}
theorem Cx.Ok.nofr(ok:X.Ok){b:Addr}{o:Obj}(e:X.base.get? b=some o):b ∉ X.fs:=fun hb=>by
 have:=(ok.funs.mem hb).1
 rw[e] at this;cases this
theorem Inv.bs(I:Inv X pins σ H s):∀ b o,X.base.get? b=some o->s.heap.get? b=some o/\H b=none:=fun b o e =>
 ⟨I.base.keep b o (I.ok.bs b o e).1 (I.ok.bs b o e).2 (I.ok.nofr e) (I.ok.noex b o e),I.base.free b o (I.ok.bs b o e).1 (I.ok.bs b o e).2 (I.ok.noex b o e)⟩
theorem Inv.bk(I:Inv X pins σ H s):∀ b o,X.base.get? b=some o->s.heap.get? b=some o:=fun b o e=>(I.bs b o e).1
theorem Inv.mod(I:Inv X pins σ H s):Mod X.K X.mg X.base:=I.ok.mod
theorem Inv.kIn(I:Inv X pins σ H s):X.K.In s.heap:=I.ok.mod.kin.keeps I.bk
theorem Inv.nolimit(I:Inv X pins σ H s):s.heap.NoLimit:=I.ok.mod.nolimit.keeps I.bk
theorem Inv.fr(I:Inv X pins σ H s):∃ m,Fr X.base X.env.locals s.heap m :=
 let ⟨m,hn,_⟩:=I.loc
 ⟨m,hn,I.bk,bu I.ok.bsz I.ok.above⟩
theorem Inv.lt(I:Inv X pins σ H s):X.env.locals<s.heap.objs.size:=let ⟨_,hn,_⟩:=I.loc;hn.lt
theorem Inv.sz(I:Inv X pins σ H s):X.s₀.heap.objs.size<=s.heap.objs.size:=bu I.ok.above (df I.lt)
theorem Inv.nofs(I:Inv X pins σ H s){a:Addr}(h:s.heap.objs.size<=a):a ∉ X.fs:=fun hb=>by
 obtain⟨_,o,ho,_⟩:=I.ok.funs.mem hb
 exact absurd (aq (ao ho) (bu I.sz h)) (cM _)
theorem Inv.cne(I:Inv X pins σ H s):∀ x c,X.env.cells.lookup x=some c->c≠X.env.locals:=fun x c e z=>by
 obtain⟨v,o,ho,hd⟩:=I.cell x c e
 obtain⟨m,⟨o',es,ep,ho',hd',_⟩,_⟩:=I.loc
 rw[z,ho'] at ho;cases ho;rw[hd'] at hd;cases hd
theorem Inv.funs(I:Inv X pins σ H s):s.heap.FunFrames X.base X.outer:=by
 have all:∀(l:List Env),(∀ b ∈ frs l,b ∈ X.fs)->X.s₀.heap.FunFrames X.base l->s.heap.FunFrames X.base l:=by
  intro l
  induction l with
  | nil=>intro _ _;trivial
  | cons env r ih =>
   intro hs hl
   obtain⟨hk,⟨L,o,hf,hn,ho,hd⟩,hr⟩:=hl
   have hL:L ∈ X.fs:=hs L (by unfold frs;rw[dM,hf];exact aD)
   obtain⟨sl,e⟩:=I.base.slot L o ho (I.ok.frf L hL) hL fun z=>I.ok.exfs L z hL
   exact⟨hk,⟨L,_,hf,hn,e,hd⟩,ih (fun b hb=>hs b (by unfold frs;rw[dM,hf];exact aw _ hb)) hr⟩
 exact all X.outer (fun _ hb=>hb) I.ok.funs
theorem Inv.stack(I:Inv X pins σ H s):s.heap.FunFrames X.base X.stack:=by
 rcases I.ok.stk with e | ⟨e,hf⟩
 ·rw[e];exact I.funs
 ·rw[e]
  obtain⟨m,hn,_⟩:=I.loc
  refine .cons (by rw[I.ok.kind];decide) hf hn ?_ I.funs
  exact Heap.get?_none_of_le (bu I.ok.bsz I.ok.above)
theorem Inv.stkSub(I:Inv X pins σ H s):∀ b ∈ frs X.stack,b ∈ X.env.locals::X.fs:=fun b hb=>by
 rcases I.ok.stk with e | ⟨e,hf⟩
 ·rw[e] at hb;exact aw _ hb
 ·rw[e] at hb
  unfold frs at hb
  rw[dM,hf] at hb
  exact hb
theorem Inv.stkFree(I:Inv X pins σ H s):∀ b ∈ frs X.stack,H b=none:=fun b hb=>by
 rcases rH.mp (I.stkSub b hb) with e | hb
 ·rw[e];exact I.free
 ·obtain⟨_,o,ho,_⟩:=I.ok.funs.mem hb
  exact I.base.free b o ho (I.ok.frf b hb) fun z=>I.ok.exfs b z hb
theorem Inv.step{g':Array GenState}{t':Nat}{d':Drawn}{ch:List Addr}(I:Inv X pins σ H s)
  (hch:∀ b ∈ ch,(b ∈ X.ex\/X.s₀.heap.objs.size<=b)/\b≠X.env.locals/\(∀ x c,X.env.cells.lookup x=some c->c≠b)/\∀ p ∈ X.pn ++ pins,p.1≠b)
  (keep:∀ b o,b≠X.env.locals->b ∉ X.fs->b ∉ ch->s.heap.get? b=some o->H b=none->h'.get? b=some o)
  (slot:∀ b o,b≠X.env.locals->b ∈ X.fs->b ∉ ch->s.heap.get? b=some o->H b=none->∃ sl,h'.get? b=some { o with slots:=sl }) (free:∀ b o,b ∉ ch->s.heap.get? b=some o->H b=none->H' b=none)
  (there:∀ b o,b ∉ ch->s.heap.get? b=some o->∃ o',h'.get? b=some o')
  (tups:∀ b xs,H b=some (.tup xs)->H' b=some (.tup xs)) (frzs:∀ b o u,H b=some (.frz o u)->H' b=some (.frz o u)) (tbls:∀ b ps,H b=some (.tbl ps)->∃ more,H' b=some (.tbl (ps ++ more)))
  (ns:∀ m,s.heap.Ns X.env.locals m->h'.Ns X.env.locals m) (hok:HOk X.prog X.w H' h') (hg:AllBare g') :
  Inv X pins σ H' { s with heap:=h',gens:=g',drawn:=d',toks:=t' }:=by
 have neL:∀ b o,X.s₀.heap.get? b=some o->b≠X.env.locals:=fun b o e=>ay (aq (ao e) I.ok.above)
 have neC:∀ b o,X.s₀.heap.get? b=some o->b ∉ X.ex->b ∉ ch:=fun b o e hx hb=>by
  rcases (hch b hb).1 with z | z
  ·exact hx z
  ·exact absurd (aq (ao e) z) (cM _)
 have cellK:∀ x c,X.env.cells.lookup x=some c->∀ v,s.heap.IsCell c v->h'.IsCell c v:=fun x c e v ⟨o,ho,hd⟩=>by
  have nch:c ∉ ch:=fun z=>(hch c z).2.2.1 x c e rfl
  by_cases hc:c ∈ X.fs
  ·obtain⟨sl,q⟩:=slot c o (I.cne x c e) hc nch ho (I.freeC x c e)
   exact⟨_,q,hd⟩
  ·exact⟨o,keep c o (I.cne x c e) hc nch ho (I.freeC x c e),hd⟩
 refine⟨I.ok,I.os,hg,⟨fun b o e n hb hx=>?_,fun b o e n hb hx=>?_,fun b o e n hx=>?_,fun b o e hx=>?_,fun b xs e=>tups b xs (I.base.tups b xs e),fun b o xs e=>frzs b o xs (I.base.frzs b o xs e),fun b ps e=>?_⟩,?_,fun x c e=>?_,?_,fun x c e=>?_,fun p hp=>?_,hok,I.len⟩
 ·exact keep b o (neL b o e) hb (neC b o e hx) (I.base.keep b o e n hb hx) (I.base.free b o e n hx)
 ·obtain⟨sl,e1⟩:=I.base.slot b o e n hb hx
  obtain⟨sl',e2⟩:=slot b _ (neL b o e) hb (neC b o e hx) e1 (I.base.free b o e n hx)
  exact⟨sl',e2⟩
 ·obtain⟨o',e1⟩:=I.base.there b o e hx
  exact free b o' (neC b o e hx) e1 (I.base.free b o e n hx)
 ·obtain⟨o',e1⟩:=I.base.there b o e hx
  exact there b o' (neC b o e hx) e1
 ·obtain⟨m1,e1⟩:=I.base.tbls b ps e
  obtain⟨m2,e2⟩:=tbls b _ e1
  exact⟨m1 ++ m2,by rw[e2,Array.append_assoc]⟩
 ·obtain⟨m,hn,hl⟩:=I.loc
  refine⟨m,ns m hn,fun i x v e1 e2 e3=>?_⟩
  obtain⟨u,r,l⟩:=hl i x v e1 e2 e3
  refine⟨u,r,?_⟩
  rcases l with l | ⟨k,c,e,z⟩
  ·exact .inl l
  ·exact .inr ⟨k,c,e,cellK x c e _ z⟩
 ·obtain⟨v,z⟩:=I.cell x c e
  exact⟨v,cellK x c e v z⟩
 ·obtain⟨m,⟨o,_,_,ho,_⟩,_⟩:=I.loc
  exact free _ o (fun z=>(hch _ z).2.1 rfl) ho I.free
 ·obtain⟨v,o,ho,hd⟩:=I.cell x c e
  exact free c o (fun z=>(hch c z).2.2.1 x c e rfl) ho (I.freeC x c e)
 ·obtain⟨e,n,ne,nf,d⟩:=I.pin p hp
  have nch:p.1 ∉ ch:=fun z=>(hch p.1 z).2.2.2 p hp rfl
  exact⟨keep p.1 p.2 ne nf nch e n,free p.1 p.2 nch e n,ne,nf,d⟩
theorem Inv.un{t':Nat}(I:Inv X pins σ H s)(u:Un X.fs [] H H' s.heap h')(hok:HOk X.prog X.w H' h'):Inv X pins σ H' { s with heap:=h',toks:=t' }:=by
 obtain⟨m,⟨o,es,ep,ho,r⟩,_⟩:=id I.loc
 obtain⟨sl,hL⟩:=u.any ho I.free (by simp)
 exact I.step (g':=s.gens) (d':=s.drawn) (ch:=[]) (fun _ z=>nomatch z) (fun b o _ hb _ e n=>u.keep b o e n hb (by simp)) (fun b o _ hb _ e n=>u.slot b o e n hb (by simp)) (fun b o _ e n=>u.free b o e n (by simp)) (fun b o _ e=>u.there b o e (by simp)) u.tups u.frzs u.tbls (fun m' hm=>by
  obtain⟨o',es',ep',ho',r'⟩:=hm
  rw[ho] at ho';cases ho'
  exact⟨_,es',ep',hL,r'⟩) hok I.bare
theorem Inv.call{g':Array GenState}{t':Nat}{d':Drawn}{ch:List Addr}(I:Inv X pins σ H s)(u:Un (frs X.stack) ch H H' s.heap h')(hok:HOk X.prog X.w H' h')(hg:AllBare g')
  (hch:∀ b ∈ ch,(b ∈ X.ex\/X.s₀.heap.objs.size<=b)/\b≠X.env.locals/\(∀ x c,X.env.cells.lookup x=some c->c≠b)/\∀ p ∈ X.pn ++ pins,p.1≠b) :
  Inv X pins σ H' { s with heap:=h',gens:=g',drawn:=d',toks:=t' }:=by
 obtain⟨m,⟨o,es,ep,ho,r⟩,_⟩:=id I.loc
 obtain⟨sl,hL⟩:=u.any ho I.free fun z=>(hch _ z).2.1 rfl
 exact I.step (ch:=ch) hch (fun b o hL hb hc e n=>u.keep b o e n (fun z=>(rH.mp (I.stkSub b z)).elim hL hb) hc) (fun b o _ _ hc e n=>u.any e n hc) (fun b o hc e n=>u.free b o e n hc) (fun b o hc e=>u.there b o e hc) u.tups u.frzs u.tbls (fun m' hm=>by
  obtain⟨o',es',ep',ho',r'⟩:=hm
  rw[ho] at ho';cases ho'
  exact⟨_,es',ep',hL,r'⟩) hok hg
theorem Inv.turned{t':Nat}{it:Addr}(I:Inv X pins σ H s)(k:∀ b o,b≠it->s.heap.get? b=some o->h'.get? b=some o)(hn:H it=none)(hL:it≠X.env.locals)
  (h1:it ∈ X.ex\/X.s₀.heap.objs.size<=it) (h2:∀ x c,X.env.cells.lookup x=some c->c≠it) (h3:∀ p ∈ X.pn ++ pins,p.1≠it):Inv X pins σ H { s with heap:=h',toks:=t' }:=by
 have nit:∀ b u,H b=some u->b≠it:=fun b u e z=>by rw[z,hn] at e;cases e
 refine I.step (g':=s.gens) (d':=s.drawn) (ch:=[it]) (fun b hb=>?_) (fun b o _ _ hc e _=>k b o (fun z=>hc (by simp [z])) e) (fun b o _ _ hc e _=>⟨o.slots,k b o (fun z=>hc (by simp [z])) e⟩) (fun _ _ _ _ n=>n)
  (fun b o hc e=>⟨o,k b o (fun z=>hc (by simp [z])) e⟩) (fun _ _ e=>e) (fun _ _ _ e=>e) (fun b ps e=>⟨#[],by rw[e];simp⟩) (fun m hm=>?_) (fun b u e=>?_) I.bare
 ·have e:b=it:=by simpa using hb
  subst e
  exact⟨h1,hL,h2,h3⟩
 ·obtain⟨o,es,ep,ho,r⟩:=hm
  exact⟨o,es,ep,k _ o (Ne.symm hL) ho,r⟩
 ·refine (I.hok b u e).stay (fun c v hc q=>k c v ?_ q) (fun _ q=>q) fun _ _ q=>q
  rcases hc with z | z
  ·rw[z];exact nit b u e
  ·exact nit c _ z
theorem Inv.tok(I:Inv X pins σ H s)(t:Nat):Inv X pins σ H { s with toks:=t }:=I.un (h':=s.heap) (t':=t) Un.refl I.hok
theorem Inv.kept{t':Nat}(I:Inv X pins σ H s)(k:∀ b u,s.heap.get? b=some u->h'.get? b=some u):Inv X pins σ H { s with heap:=h',toks:=t' }:=I.un (Un.kept k) (I.hok.kept k)
theorem Inv.laid{a:Addr}{o:HO}{t':Nat}(I:Inv X pins σ H s)(k:∀ b u,s.heap.get? b=some u->h'.get? b=some u)(hp:s.heap.objs.size<=a)(new:ObjOk X.prog X.w (upd H a o) h' a o) :
  Inv X pins σ (upd H a o) { s with heap:=h',toks:=t' }:=I.un (Un.laid k hp (I.hok.fresh hp)) (I.hok.laid k hp new)
theorem Inv.write{x e:Addr}{o:HO}{t':Nat}(I:Inv X pins σ H s)(mu:Mut (H x))(he:e=x\/H e=some (.own x))(k:∀ b u,b≠e->s.heap.get? b=some u->h'.get? b=some u)(heo:∃ u,h'.get? e=some u)
  (new:ObjOk X.prog X.w (upd H x o) h' x o):Inv X pins σ (upd H x o) { s with heap:=h',toks:=t' }:=I.un (Un.write mu he k heo) (I.hok.write mu he k heo new)
theorem Inv.weak{σ':List (Option V)}(I:Inv X pins σ H s)(hl:σ'.length=σ.length)(w:∀(i:Nat) v,σ'[i]? = some (some v)->σ[i]? = some (some v)):Inv X pins σ' H s :=
 ⟨I.ok,I.os,I.bare,I.base,let ⟨m,hn,hl'⟩:=I.loc; ⟨m,hn,fun i x v e1 e2 e3=>hl' i x v e1 (w i v e2) e3⟩,I.cell,I.free,I.freeC,I.pin,I.hok,hl.trans I.len⟩
theorem Inv.pins_of{pins':List (Addr × Obj)}(I:Inv X pins σ H s)(h:∀ p ∈ pins',s.heap.get? p.1=some p.2/\H p.1=none/\p.1≠X.env.locals/\p.1 ∉ X.fs/\∀ v,p.2.data≠.cell v):Inv X pins' σ H s :=
 ⟨I.ok,I.os,I.bare,I.base,I.loc,I.cell,I.free,I.freeC,fun p hp=>(rF.mp hp).elim (fun z=>I.pin p (bf _ z)) (h p),I.hok,I.len⟩
theorem jj{N:List Str}(hN:N.Nodup){i j:Nat}{x:Str}(a:N[i]? = some x)(b:N[j]? = some x):i=j:=by
 obtain⟨h1,e1⟩:=rD.mp a
 obtain⟨h2,e2⟩:=rD.mp b
 exact (List.getElem_inj hN).mp (e1.trans e2.symm)
theorem jU{M:Model}{A:Around}{E:Value->Shared->Prop}{i:Nat}{x:Str}{v:V}{u:Value}{Q:Unit->Shared->Prop}(I:Inv X pins σ H s)(hN:X.N.Nodup)(hi:X.N[i]? = some x)(hx:Loc X.env.scope x)(r:RelV v u)
  (h:∀ s',Inv X pins (σ.set i (some v)) H s'->(∃ a,Heap.SameBut a s.heap s'.heap/\(a=X.env.locals\/X.env.cells.lookup x=some a))->Q () s') (hf:X.fn x=true\/X.env.scope.names.lookup x=some .local:=by first | exact .inl rfl | exact .inr rfl | assumption):wpAny M A (storeName X.env x u) Q E s:=by
 obtain⟨m,hn,hl⟩:=id I.loc
 have hcls:(X.env.scope.kind == .class || (X.env.scope.kind == .module && X.env.locals != X.env.globals))=false:=by rw[I.ok.kind];rfl
 have hiσ:i<σ.length:=by rw[I.len];exact (rD.mp hi).1
 have cne:=I.cne
 have tracked:∀{a:Addr} {h':Heap},(∃ o,s.heap.get? a=some o/\H a=none)->Heap.SameBut a s.heap h'->HOk X.prog X.w H h':=fun {a h'} ha hs b ob e=>by
  obtain⟨_,_,hfree⟩:=ha
  refine (I.hok b ob e).stay (fun c w' hc q=>(hs.2 c ?_).trans q) (fun _ q=>q) fun _ _ q=>q
  rintro rfl
  rcases hc with rfl | hc
  ·rw[hfree] at e;cases e
  ·rw[hfree] at hc;cases hc
 rcases hx with hk | hk
 ·refine wpAny_storeName_local hk hn (fun h' hn' hs=>?_) hcls
  obtain⟨oL,_,_,hoL,_⟩:=id hn
  refine h _ ⟨I.ok,I.os,I.bare,⟨fun b o e n hb hx=>?_,fun b o e n hb hx=>?_,I.base.free,fun b o e hx=>?_,I.base.tups,I.base.frzs,I.base.tbls⟩,⟨_,hn',fun j y v' e1 e2 e3=>?_⟩,fun y c e=>?_,I.free,I.freeC,fun p hp=>?_,tracked ⟨oL,hoL,I.free⟩ hs,by simpa using I.len⟩ ⟨_,hs,.inl rfl⟩
  ·exact (hs.2 b (ay (aq (ao e) I.ok.above))).trans (I.base.keep b o e n hb hx)
  ·obtain⟨sl,e1⟩:=I.base.slot b o e n hb hx
   exact⟨sl,(hs.2 b (ay (aq (ao e) I.ok.above))).trans e1⟩
  ·obtain⟨o',e1⟩:=I.base.there b o e hx
   exact⟨o',(hs.2 b (ay (aq (ao e) I.ok.above))).trans e1⟩
  ·by_cases hj:j=i
   ·subst hj
    rw[hi] at e1;cases e1
    rw[dq hiσ] at e2
    cases e2
    exact⟨u,r,.inl ⟨hk,by simp⟩⟩
   ·rw[dE (Ne.symm hj)] at e2
    obtain⟨u',r',q⟩:=hl j y v' e1 e2 e3
    refine⟨u',r',?_⟩
    rcases q with ⟨k,e⟩ | ⟨k,c,e,z⟩
    ·refine .inl ⟨k,?_⟩
     have:y≠x:=fun e=>hj (jj hN e1 (e ▸ hi))
     simp [this,e]
    ·exact .inr ⟨k,c,e,z.sameBut hs (cne y c e)⟩
  ·obtain⟨w',z⟩:=I.cell y c e
   exact⟨w',z.sameBut hs (cne y c e)⟩
  ·obtain⟨e,n,ne,nf,d⟩:=I.pin p hp
   exact⟨(hs.2 p.1 ne).trans e,n,ne,nf,d⟩
 ·have hfn:X.fn x=true:=by
   rcases hf with z | z
   ·exact z
   ·rw[z] at hk;cases hk
  obtain⟨c,hc⟩:=I.ok.has x (.inl hk)
  obtain⟨w',z⟩:=I.cell x c hc
  refine wpAny_storeName_cell I.ok.kind hk hc z (fun h' hc' hs=>?_)
  obtain⟨oc,hoc,hocd⟩:=id z
  refine h { s with heap:=h' } ⟨I.ok,I.os,I.bare,⟨fun b o e n hb hx=>?_,fun b o e n hb hx=>?_,I.base.free,fun b o e hx=>?_,I.base.tups,I.base.frzs,I.base.tbls⟩,⟨m,hn.sameBut hs (Ne.symm (cne x c hc)),fun j y v' e1 e2 e3=>?_⟩,fun y c' e=>?_,I.free,I.freeC,fun p hp=>?_,tracked ⟨oc,hoc,I.freeC x c hc⟩ hs,by simpa using I.len⟩ ⟨c,hs,.inr hc⟩
  ·exact (hs.2 b (ay (aq (ao e) (I.ok.cab x c hfn hc)))).trans (I.base.keep b o e n hb hx)
  ·obtain⟨sl,e1⟩:=I.base.slot b o e n hb hx
   exact⟨sl,(hs.2 b (ay (aq (ao e) (I.ok.cab x c hfn hc)))).trans e1⟩
  ·obtain⟨o',e1⟩:=I.base.there b o e hx
   exact⟨o',(hs.2 b (ay (aq (ao e) (I.ok.cab x c hfn hc)))).trans e1⟩
  ·by_cases hj:j=i
   ·subst hj
    rw[hi] at e1;cases e1
    rw[dq hiσ] at e2
    cases e2
    exact⟨u,r,.inr ⟨.inl hk,c,hc,hc'⟩⟩
   ·rw[dE (Ne.symm hj)] at e2
    obtain⟨u',r',q⟩:=hl j y v' e1 e2 e3
    refine⟨u',r',?_⟩
    rcases q with q | ⟨k,c',e,z'⟩
    ·exact .inl q
    ·refine .inr ⟨k,c',e,z'.sameBut hs ?_⟩
     rintro rfl
     exact hj (jj hN e1 (I.ok.inj _ _ _ e hc ▸ hi))
  ·by_cases hcc:c'=c
   ·subst hcc;exact⟨_,hc'⟩
   ·obtain⟨w2,z2⟩:=I.cell y c' e
    exact⟨w2,z2.sameBut hs hcc⟩
  ·obtain⟨e,n,ne,nf,d⟩:=I.pin p hp
   refine⟨(hs.2 p.1 ?_).trans e,n,ne,nf,d⟩
   intro q
   rw[q,hoc] at e
   have q':oc=p.2:=Option.some.inj e
   exact d w' (by rw[<- q'];exact hocd)
theorem um{M:Model}{A:Around}{E:Value->Shared->Prop}{i:Nat}{x:Str}{v:V}{u:Value}{Q:Unit->Shared->Prop}(I:Inv X pins σ H s)(hN:X.N.Nodup)(hi:X.N[i]? = some x)(hx:Loc X.env.scope x)(r:RelV v u)
  (h:∀ s',Inv X pins (σ.set i (some v)) H s'->Q () s') (hf:X.fn x=true\/X.env.scope.names.lookup x=some .local:=by first | exact .inl rfl | exact .inr rfl | assumption):wpAny M A (storeName X.env x u) Q E s :=
 jU I hN hi hx r (fun s' I' _=>h s' I') hf
theorem Inv.call'{s':Shared}{ch:List Addr}(I:Inv X pins σ H s)(ho:s'.os=s.os)(u:Un (frs X.stack) ch H H' s.heap s'.heap)(hok:HOk X.prog X.w H' s'.heap)(hg:AllBare s'.gens)
  (hch:∀ b ∈ ch,(b ∈ X.ex\/X.s₀.heap.objs.size<=b)/\b≠X.env.locals/\(∀ x c,X.env.cells.lookup x=some c->c≠b)/\∀ p ∈ X.pn ++ pins,p.1≠b):Inv X pins σ H' s':=by
 obtain⟨h',g',d',t',o'⟩:=s'
 have e:o'=s.os:=ho
 subst e
 exact I.call (g':=g') (t':=t') (d':=d') u hok hg hch
end
noncomputable abbrev XK:=Value->Option Addr->Hp->Prop
noncomputable abbrev St:=List (Option V)
noncomputable abbrev VK:=V->Hp->Prop
noncomputable abbrev TE:=St->Hp->VK->Prop
noncomputable abbrev TT:=St->Hp->(Bool->Hp->Prop)->Prop
noncomputable abbrev TA:=St->Hp->(List V->Hp->Prop)->Prop
structure xw where
 nx:St->Hp->Prop
 rt:VK
 bk:St->Hp->Prop:=fun _ _=>False
 ct:St->Hp->Prop:=fun _ _=>False
noncomputable abbrev TS:=xw->St->Hp->Prop
def EP(X:Cx)(pins:List (Addr × Obj))(σ:St)(Q:VK)(u:Value)(s':Shared):Prop:=∃ v H',Inv X pins σ H' s'/\RelV v u/\Q v H'
def TP(X:Cx)(pins:List (Addr × Obj))(σ:St)(Q:Bool->Hp->Prop)(b:Bool)(s':Shared):Prop:=∃ H',Inv X pins σ H' s'/\Q b H'
def AP(X:Cx)(pins:List (Addr × Obj))(σ:St)(Q:List V->Hp->Prop)(us:List Value)(s':Shared):Prop:=∃ vs H',Inv X pins σ H' s'/\Vals vs us/\Q vs H'
def SP(X:Cx)(pins:List (Addr × Obj))(D:xw)(f:Flow)(s':Shared):Prop :=
 match f with
 | .next=>∃ σ' H',Inv X pins σ' H' s'/\D.nx σ' H'
 | .brk=>∃ σ' H',Inv X pins σ' H' s'/\D.bk σ' H'
 | .cont=>∃ σ' H',Inv X pins σ' H' s'/\D.ct σ' H'
 | .ret u=>∃ v σ' H',Inv X pins σ' H' s'/\RelV v u/\D.rt v H'
def PE(X:Cx)(e:Expr)(t:TE):Prop :=
 ∀(pins:List (Addr × Obj)) (s:Shared) (σ:St) (H:Hp) (Q:VK),Inv X pins σ H s->t σ H Q->wpAny (model X.prog X.w) X.A (eval e X.env) (EP X pins σ Q) X.xe s
def PT(X:Cx)(e:Expr)(t:TT):Prop :=
 ∀(pins:List (Addr × Obj)) (s:Shared) (σ:St) (H:Hp) (Q:Bool->Hp->Prop),Inv X pins σ H s->t σ H Q->wpAny (model X.prog X.w) X.A (isTrue e X.env (eval e X.env)) (TP X pins σ Q) X.xe s
def PW(X:Cx)(e:Expr)(t:TT):Prop :=
 ∀(whole:Sem Value) (pins:List (Addr × Obj)) (s:Shared) (σ:St) (H:Hp) (Q:Bool->Hp->Prop),Inv X pins σ H s->t σ H Q->wpAny (model X.prog X.w) X.A (isTrue e X.env whole) (TP X pins σ Q) X.xe s
theorem PW.pt{X:Cx}{e:Expr}{t:TT}(h:PW X e t):PT X e t:=h _
def PA(X:Cx)(es:List Expr)(t:TA):Prop :=
 ∀(pos:Pos) (pins:List (Addr × Obj)) (s:Shared) (σ:St) (H:Hp) (Q:List V->Hp->Prop),Inv X pins σ H s->t σ H Q->wpAny (model X.prog X.w) X.A (spliced (backTo pos (rA es X.env))) (AP X pins σ Q) X.xe s
def PS(X:Cx)(st:Stmt)(t:TS):Prop :=
 ∀(pins:List (Addr × Obj)) (s:Shared) (σ:St) (H:Hp) (D:xw),Inv X pins σ H s->t D σ H->wpAny (model X.prog X.w) X.A (exec st X.env) (SP X pins D) X.xe s
def PSs(X:Cx)(st:List Stmt)(t:TS):Prop :=
 ∀(pins:List (Addr × Obj)) (s:Shared) (σ:St) (H:Hp) (D:xw),Inv X pins σ H s->t D σ H->wpAny (model X.prog X.w) X.A (execs st X.env) (SP X pins D) X.xe s
theorem thn{α:Type}{t:Sem α}{Q Q':α->Shared->Prop}{M:Model}{A:Around}{E:Value->Shared->Prop}{s:Shared}(h:wpAny M A t Q E s)(hQ:∀ a s,Q a s->Q' a s):wpAny M A t Q' E s:=wpAny_mono h hQ fun _ _ x=>x
end L2
namespace L2
section
variable{X:Cx}
theorem bin{a b:Expr}{ta tb:TE}(ha:PE X a ta)(hb:PE X b tb){pins:List (Addr × Obj)}{s:Shared}{σ:St}{H:Hp}{R:V->V->Hp->Prop}(I:Inv X pins σ H s)(h:ta σ H fun x H1=>tb σ H1 fun y H2=>R x y H2)
  {α:Type} {Q:α->Shared->Prop} {f:Value->Value->Sem α}
  (hf:∀ v u s2 x y H2,Inv X pins σ H2 s2->RelV x v->RelV y u->R x y H2->wpAny (model X.prog X.w) X.A (f v u) Q X.xe s2) :
  wpAny (model X.prog X.w) X.A (eval a X.env) (fun v s₁=>wpAny (model X.prog X.w) X.A (eval b X.env) (fun u s₂=>wpAny (model X.prog X.w) X.A (f v u) Q X.xe s₂) X.xe s₁) X.xe s:=by
 refine thn (ha pins s σ H _ I h) fun v s1 ⟨x,H1,I1,r1,q1⟩=>?_
 refine thn (hb pins s1 σ H1 _ I1 q1) fun u s2 ⟨y,H2,I2,r2,q2⟩=>?_
 exact hf v u s2 x y H2 I2 r1 r2 q2
def ya(i:Nat):TE:=fun σ H Q=>∃ v,σ[i]? = some (some v)/\Q v H
def tC(v:V):TE:=fun _ H Q=>Q v H
theorem QY{i:Nat}{x:Str}{pos:Pos}(hN:X.N[i]? = some x)(hv:Vis X.env.scope x)(hd:(x == ("__debug__" : Str))=false:=by decide)(hcd:(x == ("__classdict__" : Str))=false:=by decide):PE X (.Name x pos) (ya i):=by
 intro pins s σ H Q I h
 obtain⟨v,e,h⟩:=h
 obtain⟨m,hn,hl⟩:=I.loc
 obtain⟨u,r,l⟩:=hl i x v hN e hv
 have fin:EP X pins σ Q u s:=⟨v,H,I,r,h⟩
 rcases l with ⟨hk,hm⟩ | ⟨hk,c,hc,hcell⟩
 ·exact wpAny_Name (wpAny_loadName_local I.ok.kind hk hn hm fin) hd
 ·rcases hk with hk | hk
  ·exact wpAny_Name (wpAny_loadName_cell I.ok.kind hk hc hcell fin) hd
  ·exact wpAny_Name (wpAny_loadName_free I.ok.kind hk hc hcell fin hcd) hd
theorem zi{i j pos}:PE X (.Constant (.int i) j pos) (tC (.int i)):=fun _ _ _ H _ I h=>wpAny_Constant_int ⟨.int i,H,I.tok _,⟨_,rfl⟩,h⟩
theorem wx{b j pos}:PE X (.Constant (.bool b) j pos) (tC (.bl b)):=fun _ _ _ H _ I h=>Constant_bool ⟨.bl b,H,I,rfl,h⟩
theorem wD{j pos}:PE X (.Constant .none j pos) (tC .non):=fun _ _ _ H _ I h=>Constant_none ⟨.non,H,I,rfl,h⟩
theorem yh{x j pos}:PE X (.Constant (.str x) j pos) (tC (.str x)):=fun _ _ _ H _ I h=>Calls.Constant_str ⟨.str x,H,I.tok _,⟨_,rfl⟩,h⟩
def Gl(X:Cx)(x:Str):Prop:=X.env.kindOf x=some .globalImplicit
theorem wK{E:Value->Shared->Prop}{pins:List (Addr × Obj)}{s:Shared}{σ:St}{H:Hp}{x:Str}{u:Value}{pos:Pos}{Q:Value->Shared->Prop}(I:Inv X pins σ H s)(hg:Gl X x)(hm:X.mg x=some u)(h:Q u s)
  (hd:(x == ("__debug__" : Str))=false:=by decide):wpAny (model X.prog X.w) X.A (eval (.Name x pos) X.env) Q E s :=
 Calls.Name_function_global I.ok.kind hg (Calls.loadGlobal_global (by rw[I.ok.glob];exact I.mod.glob.keeps I.bk) hm h) hd
theorem ug{E:Value->Shared->Prop}{pins:List (Addr × Obj)}{s:Shared}{σ:St}{H:Hp}{x:Str}{u:Value}{pos:Pos}{Q:Value->Shared->Prop}(I:Inv X pins σ H s)(hg:Gl X x)(hm:X.mg x=none)(hv:bootBuiltins x=some u)(h:Q u s)
  (hn:x≠"__name__":=by decide) (hd:(x == ("__debug__" : Str))=false:=by decide):wpAny (model X.prog X.w) X.A (eval (.Name x pos) X.env) Q E s:=by
 obtain⟨mb,h1,h2⟩:=I.mod.blt
 exact Calls.Name_function_global I.ok.kind hg (Calls.loadGlobal_builtin (by rw[I.ok.glob];exact I.mod.glob.keeps I.bk) hm (by rw[I.ok.blt];exact h1.keeps I.bk) ((h2 x hn).trans hv) h) hd
theorem vX{x:Str}{v:V}{u:Value}{pos:Pos}(hg:Gl X x)(hm:X.mg x=some u)(r:RelV v u)(hd:(x == ("__debug__" : Str))=false:=by decide):PE X (.Name x pos) (tC v) :=
 fun _ _ _ H _ I h=>wK I hg hm ⟨v,H,I,r,h⟩ hd
theorem UQ{x:Str}{v:V}{u:Value}{pos:Pos}(hg:Gl X x)(hm:X.mg x=none)(hv:bootBuiltins x=some u)(r:RelV v u)(hn:x≠"__name__":=by decide)(hd:(x == ("__debug__" : Str))=false:=by decide):PE X (.Name x pos) (tC v) :=
 fun _ _ _ H _ I h=>ug I hg hm hv ⟨v,H,I,r,h⟩ hn hd
variable{a b:Expr}{ta tb:TE}{pos:Pos}
variable{tA tB':TT}{rest:List Expr}
def zbj(t u:TT):TT:=fun σ H Q=>t σ H fun c H1=>if c=true then u σ H1 Q else Q false H1
def tOr(t u:TT):TT:=fun σ H Q=>t σ H fun c H1=>if c=true then Q true H1 else u σ H1 Q
def zaP(t:TT):TT:=fun σ H Q=>t σ H fun c H1=>Q (!c) H1
theorem XL(ha:PT X a tA):PW X (.BoolOp .Or [a] pos) tA:=by
 intro wh pins s σ H Q I h
 refine isTrue_or (thn (ha pins s σ H Q I h) fun c s1 e=>?_)
 cases c with
 | false=>exact isTrue_or_nil e
 | true=>exact e
theorem VL(ha:PT X a tA)(hb:PW X (.BoolOp .Or (b::rest) pos) tB'):PW X (.BoolOp .Or (a::b::rest) pos) (tOr tA tB'):=by
 intro wh pins s σ H Q I h
 refine isTrue_or (thn (ha pins s σ H _ I h) fun c s1 ⟨H1,I1,q1⟩=>?_)
 cases c with
 | true=>exact⟨H1,I1,q1⟩
 | false=>exact hb wh pins s1 σ H1 Q I1 q1
theorem yA(ha:PT X a tA):PT X (.UnaryOp .Not a pos) (zaP tA):=by
 intro pins s σ H Q I h
 exact isTrue_not (ha pins s σ H (fun c H1=>Q (!c) H1) I h)
def Q7(ta tb:TE):TE:=fun σ H Q=>ta σ H fun x H1=>∃ c,x=.bl c/\if c=true then tb σ H1 Q else Q (.bl false) H1
def zbt(ta tb:TE):TE:=fun σ H Q=>ta σ H fun x H1=>∃ c,x=.bl c/\if c=true then Q (.bl true) H1 else tb σ H1 Q
def Qo(ta:TE):TE:=fun σ H Q=>ta σ H fun x H1=>∃ c,x=.bl c/\Q (.bl (!c)) H1
theorem Yh{op}{t:TE}(h:PE X a t):PE X (.BoolOp op [a] pos) t:=fun pins s σ H Q I hw=>BoolOp_one (h pins s σ H Q I hw)
theorem qK(ha:PE X a ta)(hb:PE X (.BoolOp .And (b::rest) pos) tb):PE X (.BoolOp .And (a::b::rest) pos) (Q7 ta tb):=by
 intro pins s σ H Q I h
 refine BoolOp_and (thn (ha pins s σ H _ I h) fun v s1 ⟨x,H1,I1,r1,q1⟩=>?_)
 obtain⟨c,rfl,q1⟩:=q1
 cases r1
 refine wpAny_truthy_bool ?_
 cases c with
 | true=>exact hb pins s1 σ H1 Q I1 q1
 | false=>exact⟨.bl false,H1,I1,rfl,q1⟩
theorem ZU(ha:PE X a ta):PE X (.UnaryOp .Not a pos) (Qo ta):=by
 intro pins s σ H Q I h
 refine UnaryOp_ (thn (ha pins s σ H _ I h) fun v s1 ⟨x,H1,I1,r1,q1⟩=>?_)
 obtain⟨c,rfl,q1⟩:=q1
 cases r1
 exact not_of (wpAny_truthy_bool ⟨.bl (!c),H1,I1,rfl,q1⟩)
def tIf(t:TT)(ta tb:TE):TE:=fun σ H Q=>t σ H fun c H1=>if c=true then ta σ H1 Q else tb σ H1 Q
theorem Vj{c:Expr}(hc:PT X c tA)(ha:PE X a ta)(hb:PE X b tb):PE X (.IfExp c a b pos) (tIf tA ta tb):=by
 intro pins s σ H Q I h
 refine wpAny_IfExp (thn (hc pins s σ H _ I h) fun d s1 ⟨H1,I1,q1⟩=>?_)
 cases d with
 | true=>exact ha pins s1 σ H1 Q I1 q1
 | false=>exact hb pins s1 σ H1 Q I1 q1
end
end L2
namespace L2
def SqL(K:rC)(H:Hp)(a:Addr)(xs:List V):Prop :=
 Rd H a (.lst xs) \/
  ∃(o:Obj) (its:Array Value) (n:Nat),K.lookup a=some o/\o.cls=.type "list"/\o.dict=none/\o.data=.seq its n/\its.size<=rB/\Vals xs its.toList
def SqT(K:rC)(H:Hp)(a:Addr)(xs:List V):Prop :=
 Rd H a (.tup xs) \/
  ∃(o:Obj) (its:Array Value) (n:Nat),K.lookup a=some o/\o.cls=.type "tuple"/\o.data=.seq its n/\its.size<=rB/\Vals xs its.toList
noncomputable def zaG:Value->Option V
 | .none=>some .non
 | .bool b=>some (.bl b)
 | .int i _=>some (.int i)
 | .str x _=>some (.str x)
 | .bytes b _=>some (.byt b)
 | .float b _=>some (.flt b)
 | .ref a=>some (.ref a)
 | .type n=>some (.ty n)
 | _=>none
theorem RelV.abs{x:V}{u:Value}(r:RelV x u):zaG u=some x:=by
 cases x with
 | non=>cases r;rfl
 | bl _=>cases r;rfl
 | int _=>obtain⟨t,rfl⟩:=r;rfl
 | str _=>obtain⟨t,rfl⟩:=r;rfl
 | byt _=>obtain⟨t,rfl⟩:=r;rfl
 | flt _=>obtain⟨t,rfl⟩:=r;rfl
 | ref _=>cases r;rfl
 | ty _=>cases r;rfl
theorem RelV.inj{x y:V}{u:Value}(r:RelV x u)(q:RelV y u):x=y:=Option.some.inj (r.abs.symm.trans q.abs)
theorem Vals.inj:∀{xs ys:List V} {us:List Value},Vals xs us->Vals ys us->xs=ys
 | _,_,_,.nil,.nil=>rfl
 | _,_,_,.cons r t,.cons r' t'=>by rw[r.inj r',Vals.inj t t']
section
variable{X:Cx}{pins:List (Addr × Obj)}{σ:St}{H:Hp}{s:Shared}{a:Addr}{xs ys:List V}
theorem SqL.of{K:rC}(h:H a=some (.lst xs)):SqL K H a xs:=.inl (.inl h)
theorem SqT.of{K:rC}(h:H a=some (.tup xs)):SqT K H a xs:=.inl (.inl h)
theorem Inv.list(I:Inv X pins σ H s)(h:SqL X.K H a xs):∃ its:List Value,Vals xs its/\PlainL s.heap a its.toArray/\xs.length<=rB:=by
 rcases h with h | ⟨o,its,n,hk,hc,hd,hs,hz,r⟩
 ·obtain⟨z,its,n,r,e⟩:=h.ok I.hok
  exact⟨its,r,⟨_,n,e,rfl,rfl,rfl⟩,z⟩
 ·refine⟨its.toList,r,⟨o,n,I.kIn a o hk,hc,hd,by simpa using hs⟩,?_⟩
  have e:=r.length
  simp only[dN] at e
  lia
theorem Inv.tuple(I:Inv X pins σ H s)(h:SqT X.K H a xs):∃ its:List Value,Vals xs its/\IsTup s.heap a its.toArray/\xs.length<=rB:=by
 rcases h with h | ⟨o,its,n,hk,hc,hs,hz,r⟩
 ·obtain⟨z,its,r,p⟩:=h.ok I.hok
  exact⟨its,r,p,z⟩
 ·refine⟨its.toList,r,⟨o,I.kIn a o hk,hc,n,by simpa using hs⟩,?_⟩
  have e:=r.length
  simp only[dN] at e
  lia
theorem Inv.list_inj(I:Inv X pins σ H s)(h:SqL X.K H a xs)(h':SqL X.K H a ys):xs=ys:=by
 obtain⟨its,r,⟨o,n,e,_,_,d⟩,_⟩:=I.list h
 obtain⟨its',r',⟨o',n',e',_,_,d'⟩,_⟩:=I.list h'
 rw[e] at e';cases e'
 rw[d] at d'
 injection d' with d1 _
 have:its=its':=by simpa using congrArg Array.toList d1
 subst this
 exact r.inj r'
theorem Inv.tuple_inj(I:Inv X pins σ H s)(h:SqT X.K H a xs)(h':SqT X.K H a ys):xs=ys:=by
 obtain⟨its,r,⟨o,e,_,n,d⟩,_⟩:=I.tuple h
 obtain⟨its',r',⟨o',e',_,n',d'⟩,_⟩:=I.tuple h'
 rw[e] at e';cases e'
 rw[d] at d'
 injection d' with d1 _
 have:its=its':=by simpa using congrArg Array.toList d1
 subst this
 exact r.inj r'
end
noncomputable abbrev Cx.wish(X:Cx)(E:Value->Shared->Prop):Cx:={ X with xe:=E }
noncomputable abbrev Cx.nox(X:Cx):Cx:=X.wish fun _ _=>False
theorem Cx.Ok.wish{X:Cx}(ok:X.Ok)(E:Value->Shared->Prop):(X.wish E).Ok :=
 ⟨ok.mod,ok.kind,ok.glob,ok.blt,ok.above,ok.inj,ok.has,ok.cab,ok.hd,ok.frames,ok.stk,ok.exf,ok.bs,ok.bsz,ok.noex,ok.exfs,ok.funs,ok.frf⟩
theorem Cx.Ok.unwish{X:Cx}{E:Value->Shared->Prop}(ok:(X.wish E).Ok):X.Ok :=
 ⟨ok.mod,ok.kind,ok.glob,ok.blt,ok.above,ok.inj,ok.has,ok.cab,ok.hd,ok.frames,ok.stk,ok.exf,ok.bs,ok.bsz,ok.noex,ok.exfs,ok.funs,ok.frf⟩
section
variable{X:Cx}{pins:List (Addr × Obj)}{σ:St}{H:Hp}{s:Shared}{E:Value->Shared->Prop}
theorem Inv.wish(I:Inv X pins σ H s)(E:Value->Shared->Prop):Inv (X.wish E) pins σ H s:=⟨I.ok.wish E,I.os,I.bare,I.base,I.loc,I.cell,I.free,I.freeC,I.pin,I.hok,I.len⟩
theorem Inv.unwish(I:Inv (X.wish E) pins σ H s):Inv X pins σ H s:=⟨I.ok.unwish,I.os,I.bare,I.base,I.loc,I.cell,I.free,I.freeC,I.pin,I.hok,I.len⟩
theorem SP.unwish{D:xw}{f:Flow}{s':Shared}(h:SP (X.wish E) pins D f s'):SP X pins D f s':=by
 cases f with
 | next=>obtain⟨σ',H',I,q⟩:=h;exact⟨σ',H',I.unwish,q⟩
 | brk=>obtain⟨σ',H',I,q⟩:=h;exact⟨σ',H',I.unwish,q⟩
 | cont=>obtain⟨σ',H',I,q⟩:=h;exact⟨σ',H',I.unwish,q⟩
 | ret u=>obtain⟨v,σ',H',I,r,q⟩:=h;exact⟨v,σ',H',I.unwish,r,q⟩
theorem PSs.nox{st:List Stmt}{t:TS}(h:PSs X.nox st t):PSs X st t:=fun pins s σ H D I hw =>
 wpAny_mono (h pins s σ H D (I.wish _) hw) (fun _ _ q=>q.unwish) fun _ _ z=>False.elim z
end
section
variable{X:Cx}{st:Stmt}{rest:List Stmt}{t u:TS}{e:Expr}{te:TE}{pos:Pos}
def Jj:TS:=fun D σ H=>D.nx σ H
def zaX(t u:TS):TS:=fun D σ H=>t { D with nx:=u D } σ H
theorem zu:PSs X [] Jj:=fun _ _ σ H _ I h=>wpAny_execs_nil ⟨σ,H,I,h⟩
theorem zn(h1:PS X st t)(h2:PSs X rest u):PSs X (st::rest) (zaX t u):=by
 intro pins s σ H D I h
 refine wpAny_execs_cons (thn (h1 pins s σ H { D with nx:=u D } I h) fun f s1 q=>?_)
 cases f with
 | next =>
  obtain⟨σ',H',I',q⟩:=q
  exact h2 pins s1 σ' H' D I' q
 | ret v=>exact q
 | brk=>exact q
 | cont=>exact q
theorem zd(h1:PS X st t):PSs X [st] t:=by
 intro pins s σ H D I h
 refine wpAny_execs_cons (thn (h1 pins s σ H D I h) fun f s1 q=>?_)
 cases f with
 | next=>exact wpAny_execs_nil q
 | ret v=>exact q
 | brk=>exact q
 | cont=>exact q
def Jv:TS:=fun D σ H=>D.bk σ H
def zav:TS:=fun D σ H=>D.ct σ H
theorem Inv.quiet{pins:List (Addr × Obj)}{σ:St}{H:Hp}{s:Shared}(I:Inv X pins σ H s):interactive X.env=false:=by simp [interactive,I.ok.kind]
def Jt(te:TE):TS:=fun D σ H=>te σ H fun _ H1=>D.nx σ H1
theorem yS(he:PE X e te)(hs:swapsWith e none pos.line X.env=pure false:=by rfl):PS X (.Expr e pos) (Jt te):=by
 intro pins s σ H D I h
 exact wpAny_Expr_any (thn (he pins s σ H _ I h) fun v s1 ⟨x,H1,I1,r1,q1⟩=>⟨σ,H1,I1,q1⟩) I.quiet hs
def zaE(te:TE):TS:=fun D σ H=>te σ H D.rt
theorem zq(he:PE X e te):PS X (.Return (some e) pos) (zaE te):=by
 intro pins s σ H D I h
 exact wpAny_Return_some (thn (he pins s σ H _ I h) fun v s1 ⟨x,H1,I1,r1,q1⟩=>⟨x,σ,H1,I1,r1,q1⟩)
def zan:TS:=fun D _ H=>D.rt .non H
def zaW(c:TT)(t u:TS):TS:=fun D σ H=>c σ H fun b H1=>if b=true then t D σ H1 else u D σ H1
theorem zP{c:Expr}{a b:List Stmt}{tc:TT}(hc:PT X c tc)(ha:PSs X a t)(hb:PSs X b u):PS X (.If c a b pos) (zaW tc t u):=by
 intro pins s σ H D I h
 refine wpAny_If (thn (hc pins s σ H _ I h) fun d s1 ⟨H1,I1,q1⟩=>?_)
 cases d with
 | true=>exact ha pins s1 σ H1 D I1 q1
 | false=>exact hb pins s1 σ H1 D I1 q1
end
noncomputable abbrev TG:=V->St->Hp->(St->Hp->Prop)->Prop
noncomputable abbrev TGs:=List V->St->Hp->(St->Hp->Prop)->Prop
def PG(X:Cx)(target:Expr)(t:TG):Prop :=
 ∀(pins:List (Addr × Obj)) (s:Shared) (σ:St) (H:Hp) (v:V) (u:Value) (Q:St->Hp->Prop),Inv X pins σ H s->RelV v u->t v σ H Q ->
  wpAny (model X.prog X.w) X.A (assign target X.env u) (fun _ s'=>∃ σ' H',Inv X pins σ' H' s'/\Q σ' H') X.xe s
def PGs(X:Cx)(ts:List Expr)(t:TGs):Prop :=
 ∀(pins:List (Addr × Obj)) (s:Shared) (σ:St) (H:Hp) (vs:List V) (us:List Value) (Q:St->Hp->Prop),Inv X pins σ H s->Vals vs us->t vs σ H Q ->
  wpAny (model X.prog X.w) X.A (assignInOrder ((assignEach ts X.env).map (·.2)) us) (fun _ s'=>∃ σ' H',Inv X pins σ' H' s'/\Q σ' H') X.xe s
section
variable{X:Cx}{pos:Pos}
def yN(i:Nat):TG:=fun v σ H Q=>Q (σ.set i (some v)) H
theorem zp{i:Nat}{x:Str}(hN:X.N.Nodup)(hi:X.N[i]? = some x)(hx:Loc X.env.scope x)(hf:X.fn x=true\/X.env.scope.names.lookup x=some .local:=by first | exact .inl rfl | exact .inr rfl | assumption):PG X (.Name x pos) (yN i):=by
 intro pins s σ H v u Q I r h
 exact wpAny_assign_Name (um I hN hi hx r (fun s' I'=>⟨_,H,I',h⟩) hf)
def zai:TGs:=fun vs σ H Q=>vs=[]/\Q σ H
def Vl(t:TG)(u:TGs):TGs:=fun vs σ H Q=>∃ v r,vs=v::r/\t v σ H fun σ' H'=>u r σ' H' Q
theorem wS:PGs X [] zai:=by
 intro pins s σ H vs us Q I r h
 obtain⟨e,h⟩:=h
 subst e
 cases r
 exact assignInOrder_nil ⟨σ,H,I,h⟩
theorem zK{e:Expr}{es:List Expr}{t:TG}{u:TGs}(h1:PG X e t)(h2:PGs X es u)
  (hs:(assignEach (e::es) X.env).map (·.2)=assign e X.env::(assignEach es X.env).map (·.2):=by rfl):PGs X (e::es) (Vl t u):=by
 intro pins s σ H vs us Q I r h
 obtain⟨v,vr,e1,h⟩:=h
 subst e1
 cases r with
 | cons r rr =>
  rw[hs]
  refine assignInOrder_cons (thn (h1 pins s σ H _ _ _ I r h) fun _ s1 ⟨σ1,H1,I1,q1⟩=>?_)
  exact h2 pins s1 σ1 H1 _ _ Q I1 rr q1
def Kc(K:rC)(n:Nat)(t:TGs):TG:=fun v σ H Q=>∃ a xs,v=.ref a/\SqT K H a xs/\xs.length=n/\t xs σ H Q
theorem uR{es:List Expr}{k:Nat}{t:TGs}{n:Nat}(hc:X.calm=true)(h:PGs X es t)
  (hn:(assignEach es X.env).length=n:=by rfl) (hst:(assignEach es X.env).findIdx? (·.1)=none:=by rfl):PG X (.Tuple es k pos) (Kc X.K n t):=by
 intro pins s σ H v u Q I r hw
 obtain⟨a,xs,e1,hq,hl,hw⟩:=hw
 subst e1
 cases r
 obtain⟨its,rv,ht,hz⟩:=I.tuple hq
 refine assign_Tuple_tuple (I.ok.hd hc) ht (by simp [hn,<- hl,rv.length]) hst fun h' hx=>?_
 have I1:Inv X pins σ H { s with heap:=h' }:=I.kept (t':=s.toks) fun b o e=>hx b o (ay (ao e)) e
 exact h pins _ σ H xs _ Q I1 (by simpa using rv) hw
def JY(te:TE)(g:TG):TS:=fun D σ H=>te σ H fun x H1=>g x σ H1 D.nx
theorem ZW{tg e:Expr}{te:TE}{g:TG}(he:PE X e te)(hg:PG X tg g)(hs:swapsWithSole [tg] e pos.line X.env=pure false:=by rfl)(hw:swappedStores [tg] e X.env=pure none:=by rfl)
  (h1:(assignEach [tg] X.env).map (·.2)=[assign tg X.env]:=by rfl):PS X (.Assign [tg] e pos) (JY te g):=by
 intro pins s σ H D I h
 refine wpAny_Assign_stores (thn (he pins s σ H _ I h) fun v s1 ⟨x,H1,I1,r1,q1⟩=>?_) hs hw
 rw[h1]
 exact thn (hg pins s1 σ H1 x v _ I1 r1 q1) fun _ s2 q=>q
theorem zk{i:Nat}{x:Str}{e:Expr}{te:TE}{pos':Pos}(hN:X.N.Nodup)(hi:X.N[i]? = some x)(hx:Loc X.env.scope x)(he:PE X e te)(hs:swapsWith e (some (.Name x pos')) pos.line X.env=pure false:=by rfl)(hf:X.fn x=true\/X.env.scope.names.lookup x=some .local:=by first | exact .inl rfl | exact .inr rfl | assumption) :
  PS X (.Assign [.Name x pos'] e pos) (JY te (yN i)):=by
 intro pins s σ H D I h
 refine wpAny_Assign_Name (thn (he pins s σ H _ I h) fun v s1 ⟨y,H1,I1,r1,q1⟩=>?_) hs
 exact um I1 hN hi hx r1 (fun s2 I2=>⟨_,H1,I2,q1⟩) hf
def zbn(i j:Nat)(ta:TA):TS:=fun D σ H=>ta σ H fun vs H1=>∃ v w,vs=[v,w]/\D.nx ((σ.set i (some v)).set j (some w)) H1
end
section
variable{X:Cx}{pos:Pos}
def kC(c:TT)(tb:TS):TS:=fun D σ H=>∃ W:Nat->St->Hp->Prop,(∃ m,W m σ H)/\∀ m σ H,W m σ H ->
 c σ H fun b H1=>if b=true then ∃ N:St->Hp->Prop,(∀ σ' H',N σ' H'->∃ m',m'<m/\W m' σ' H')/\tb { D with nx:=N,ct:=N,bk:=D.nx } σ H1 else D.nx σ H1
theorem uA{c:Expr}{body:List Stmt}{tc:TT}{tb:TS}(hp:PassesOwn (model X.prog X.w) X.A X.env X.xe)(hc:PT X c tc)(hb:PSs X body tb):PS X (.While c body [] pos) (kC tc tb):=by
 intro pins s σ H D I h
 obtain⟨W,⟨m0,w0⟩,turn⟩:=h
 refine wpAny_While (codeAny_whileLoop (fun n s'=>∃ σ' H',Inv X pins σ' H' s'/\W n σ' H') ?_ m0 ⟨σ,H,I,w0⟩)
 rintro n s1 ⟨σ1,H1,I1,w1⟩
 refine wpAny_passesOwn hp (thn (hc pins s1 σ1 H1 _ I1 (turn n σ1 H1 w1)) fun b s2 ⟨H2,I2,q2⟩=>?_)
 cases b with
 | true =>
  obtain⟨N,hN,q2⟩:=q2
  rw[if_pos rfl]
  refine wpAny_passesOwn hp (thn (hb pins s2 σ1 H2 _ I2 q2) fun f s3 q3=>?_)
  cases f with
  | next =>
   obtain⟨σ3,H3,I3,n3⟩:=q3
   obtain⟨m',hm,w3⟩:=hN σ3 H3 n3
   exact⟨m',hm,σ3,H3,I3,w3⟩
  | cont =>
   obtain⟨σ3,H3,I3,n3⟩:=q3
   obtain⟨m',hm,w3⟩:=hN σ3 H3 n3
   exact⟨m',hm,σ3,H3,I3,w3⟩
  | brk=>exact q3
  | ret v=>exact q3
 | false =>
  rw[if_neg av]
  exact wpAny_execs_nil ⟨σ1,H2,I2,q2⟩
end
structure It where
 go:Nat->Hp->Prop
 yld:Nat->Hp->V->Hp->Prop
 stop:Nat->Hp->Prop
def wT(X:Cx)(pins:List (Addr × Obj))(H:Hp)(b:Addr):Prop :=
 H b=none/\b≠X.env.locals/\b ∉ X.fs/\(b ∈ X.ex\/X.s₀.heap.objs.size<=b)/\(∀ x c,X.env.cells.lookup x=some c->c≠b)/\∀ p ∈ X.pn ++ pins,p.1≠b
theorem Inv.fpOk{X:Cx}{pins:List (Addr × Obj)}{σ:St}{H H':Hp}{s:Shared}{b:Addr}(I:Inv X pins σ H s)(hb:s.heap.objs.size<=b)(hn:H' b=none):wT X pins H' b:=by
 refine⟨hn,cJ (aq I.lt hb),I.nofs hb,.inr (bu I.sz hb),fun x c e z=>?_,fun p hp z=>?_⟩
 ·obtain⟨v,q⟩:=I.cell x c e
  exact absurd (aq q.lt (by rw[z];exact hb)) (cM _)
 ·exact absurd (aq (ao (I.pin p hp).1) (by rw[z];exact hb)) (cM _)
structure U6(P:Program)(w:World)(K:rC)(tg:Expr)(J:It)(fp:List Addr)(it:Addr)(tn:Nat->Heap->Prop):Prop where
 mem:it ∈ fp
 obj:∀ i h,tn i h->∀ b ∈ fp,∃ o,h.get? b=some o/\∀ v,o.data≠.cell v
 keep:∀ i h h',tn i h->(∀ b ∈ fp,∀ o,h.get? b=some o->h'.get? b=some o)->tn i h'
 item:∀(X:Cx),X.prog=P->X.w=w->X.K=K->X.calm=true->∀(i:Nat) (pins:List (Addr × Obj)) (s:Shared) (σ:St) (H:Hp) (E:Value->Shared->Prop),Inv X pins σ H s->(∀ b ∈ fp,wT X pins H b)->tn i s.heap->J.go i H ->
  wpAny (model P w) X.A (pyNext (.ref it)) (fun r s1=>∃ u,r=some u /\
   wpAny (model P w) X.A (letOwnedTupleGo tg (.ref it) u) (fun _ s2=>∃ x H',Inv X pins σ H' s2/\RelV x u/\J.yld i H x H'/\tn (i+1) s2.heap/\∀ b ∈ fp,H' b=none) E s1) E s
 done:∀(X:Cx),X.prog=P->X.w=w->X.K=K->X.calm=true->∀(i:Nat) (pins:List (Addr × Obj)) (s:Shared) (σ:St) (H:Hp) (E:Value->Shared->Prop),Inv X pins σ H s->(∀ b ∈ fp,wT X pins H b)->tn i s.heap->J.stop i H ->
  wpAny (model P w) X.A (pyNext (.ref it)) (fun r s1=>r=none/\Inv X pins σ H s1) E s
 self:∀(A:Around) (i:Nat) (s:Shared) (Q:Value->Shared->Prop) (E:Value->Shared->Prop),tn i s.heap->Q (.ref it) s->wpAny (model P w) A (pyIter (.ref it)) Q E s
noncomputable abbrev TI:=St->Hp->(It->Hp->Prop)->Prop
def PIE(X:Cx)(pins:List (Addr × Obj))(σ:St)(tg:Expr)(R:It->Hp->Prop)(itv:Value)(s2:Shared):Prop :=
 ∃(it:Addr) (fp:List Addr) (tn:Nat->Heap->Prop) (J:It) (H':Hp),itv=.ref it/\Inv X pins σ H' s2/\U6 X.prog X.w X.K tg J fp it tn/\tn 0 s2.heap/\(∀ b ∈ fp,wT X pins H' b)/\R J H'
def PI(X:Cx)(tg iter:Expr)(wi:TI):Prop :=
 ∀(pins:List (Addr × Obj)) (s:Shared) (σ:St) (H:Hp) (R:It->Hp->Prop),Inv X pins σ H s->wi σ H R ->
  wpAny (model X.prog X.w) X.A (eval iter X.env) (fun v s1=>wpAny (model X.prog X.w) X.A (pyIter v) (PIE X pins σ tg R) X.xe s1) X.xe s
theorem U8{M:Model}{A:Around}{E:Value->Shared->Prop}{s:Shared}{tg:Expr}{it:Addr}{u:Value}{o:Obj}{n:String}{vs:Array Value}{Q:Unit->Shared->Prop}(ho:s.heap.get? it=some o)(hc:o.cls=.type n)(hd:o.data=.fields vs)
    (hn:["enumerate","zip","dict_itemiterator","dict_reverseitemiterator","odict_iterator","itertools.zip_longest","itertools.pairwise"].contains n=false) (hQ:Q () s):wpAny M A (letOwnedTupleGo tg (.ref it) u) Q E s:=by
  unfold letOwnedTupleGo
  cases tg <;> first
    | exact rp hQ
    | (cases u <;> first
        | exact rp hQ
        | (refine ro (wpAny_load ho ?_)
           rw[hc,hd]
           show wpAny M A (if (["enumerate","zip","dict_itemiterator","dict_reverseitemiterator","odict_iterator","itertools.zip_longest","itertools.pairwise"].contains n && vs[0]? == some (rawInt _))=true then _ else _) Q E s
           rw[if_neg (by intro h;rw[hn,Bool.false_and] at h;cases h)]
           exact rp hQ))
noncomputable def Itl(K:rC)(a:Addr):It :=
 ⟨fun i H=>∃ xs x,SqL K H a xs/\xs[i]? = some x,fun i H x H'=>H'=H/\∀ xs,SqL K H a xs->xs[i]? = some x,fun i H=>∃ xs,SqL K H a xs/\xs.length<=i⟩
noncomputable def Itt(K:rC)(a:Addr):It :=
 ⟨fun i H=>∃ xs x,SqT K H a xs/\xs[i]? = some x,fun i H x H'=>H'=H/\∀ xs,SqT K H a xs->xs[i]? = some x,fun i H=>∃ xs,SqT K H a xs/\xs.length<=i⟩
noncomputable def Itr(lo:Int)(n:Nat):It:=⟨fun i _=>i<n,fun i H x H'=>H'=H/\x=.int (lo+i),fun i _=>n<=i⟩
theorem Y6{P:Program}{w:World}{K:rC}{tg:Expr}(a it:Addr):U6 P w K tg (Itl K a) [it] it (fun i h=>h.IsListIter it a i) where
 mem:=by simp
 obj:=fun i h st b hb=>by
  have e:b=it:=by simpa using hb
  subst e
  obtain⟨o,e,c,d⟩:=st
  exact⟨o,e,fun v z=>by rw[d] at z;cases z⟩
 keep:=fun i h h' st k=>st.at fun o e=>k it (by simp) o e
 item:=by
  intro X hP hw hK hc i pins s σ H E I hf st hg
  subst hP hw hK
  obtain⟨xs,x,hq,hx⟩:=hg
  obtain⟨its,rv,p,hz⟩:=I.list hq
  obtain⟨u,hu,ru⟩:=rv.get hx
  obtain⟨f0,f1,f2,f3,f4,f5⟩:=hf it (by simp)
  refine wpAny_pyNext_list_item st p.isList (x:=u) (by simpa using hu) fun h' st' sb=>?_
  have I1:Inv X pins σ H { s with heap:=h' }:=I.turned (t':=s.toks) (fun b o hb e=>(sb.2 b hb).trans e) f0 f1 f3 f4 f5
  obtain⟨o,e,c,d⟩:=id st'
  exact⟨u,rfl,U8 (s:={ s with heap:=h' }) e c d (by decide) ⟨x,H,I1,ru,⟨rfl,fun ys hy=>by rw[I.list_inj hy hq];exact hx⟩,st',fun b hb=>(hf b hb).1⟩⟩
 done:=by
  intro X hP hw hK hc i pins s σ H E I hf st hg
  subst hP hw hK
  obtain⟨xs,hq,hx⟩:=hg
  obtain⟨its,rv,p,hz⟩:=I.list hq
  obtain⟨f0,f1,f2,f3,f4,f5⟩:=hf it (by simp)
  have hl:=rv.length
  exact wpAny_pyNext_list_end (I.ok.hd hc) st p.isList (by simp;lia) fun h' eb=>⟨rfl,I.turned (t':=s.toks) (fun b o hb e=>eb b o hb e) f0 f1 f3 f4 f5⟩
 self:=fun _ _ _ _ _ st h=>wpAny_pyIter_listiter st h
theorem YC{P:Program}{w:World}{K:rC}{tg:Expr}(it:Addr)(lo:Int)(n:Nat):U6 P w K tg (Itr lo n) [it] it (fun i h=>IsRangeIter h it (lo+(i:Nat) * 1) ((n:Int) - (i:Nat)) 1) where
 mem:=by simp
 obj:=fun i h st b hb=>by
  have e:b=it:=by simpa using hb
  subst e
  exact⟨_,st,fun v z=>by
   have z':Data.fields _=Data.cell v:=z
   cases z'⟩
 keep:=fun i h h' st k=>k it (by simp) _ st
 item:=by
  intro X hP hw hK hc i pins s σ H E I hf st hg
  subst hP hw hK
  obtain⟨f0,f1,f2,f3,f4,f5⟩:=hf it (by simp)
  have W:=Walks.range (prog:=X.prog) (w:=X.w) (I.ok.hd hc) it lo 1 n
  refine W.item i s _ _ hg st fun v h' tk hv st' kk=>?_
  obtain⟨t,rfl⟩:=hv
  have I1:Inv X pins σ H { s with heap:=h',toks:=tk }:=I.turned (fun b o hb e=>kk b o (by simpa using hb) e) f0 f1 f3 f4 f5
  refine⟨_,rfl,U8 (s:={ s with heap:=h',toks:=tk }) (n:="range_iterator") st' rfl rfl (by decide) ⟨.int (lo+i),H,I1,⟨t,?_⟩,⟨rfl,rfl⟩,st',fun b hb=>(hf b hb).1⟩⟩
  rw[Int.mul_one]
 done:=by
  intro X hP hw hK hc i pins s σ H E I hf st hg
  subst hP hw hK
  obtain⟨f0,f1,f2,f3,f4,f5⟩:=hf it (by simp)
  exact wpAny_pyNext_range_end (I.ok.hd hc) st (by have:n<=i:=hg;lia) fun h' eb=>⟨rfl,I.turned (t':=s.toks) (fun b o hb e=>eb b o hb e) f0 f1 f3 f4 f5⟩
 self:=fun _ _ _ _ _ st h=>wpAny_pyIter_rangeiter st h
end L2
namespace L2
section
variable{X:Cx}{tg:Expr}
def Qa(K:rC)(tl:TE):TI:=fun σ H R=>tl σ H fun x H1=>∃ a,x=.ref a/\(∃ xs,SqL K H1 a xs)/\R (Itl K a) H1
def zbh(K:rC)(tl:TE):TI:=fun σ H R=>tl σ H fun x H1=>∃ a,x=.ref a/\(∃ xs,SqT K H1 a xs)/\R (Itt K a) H1
theorem yW{l:Expr}{tl:TE}(hl:PE X l tl):PI X tg l (Qa X.K tl):=by
 intro pins s σ H R I h
 refine thn (hl pins s σ H _ I h) fun v s1 ⟨x,H1,I1,r1,q1⟩=>?_
 obtain⟨a,e,⟨xs,hq⟩,q⟩:=q1
 subst e
 cases r1
 obtain⟨its,rv,p,hz⟩:=I1.list hq
 refine wpAny_pyIter_list p.isList ?_
 refine⟨s1.heap.objs.size,[s1.heap.objs.size],_,_,H1,rfl,I1.kept (t':=s1.toks) fun b o e=>af _ e,Y6 a _,⟨_,aH _ rfl,rfl,rfl⟩,fun b hb=>?_,q⟩
 have e:b=s1.heap.objs.size:=by simpa using hb
 subst e
 exact I1.fpOk (ar _) (I1.hok.fresh (ar _))
theorem VH{pins:List (Addr × Obj)}{σ:St}{H:Hp}{s:Shared}{R:It->Hp->Prop}{E:Value->Shared->Prop}{lo hi:Int}{t u v:Tok}{tk:Nat}(I:Inv X pins σ H s)(h1:-(2 ^ 62)<=lo)(h2:lo<2 ^ 62)(h3:-(2 ^ 62)<=hi)(h4:hi<2 ^ 62)
  (q:R (Itr lo (hi - lo).toNat) H):wpAny (model X.prog X.w) X.A (pyIter (.ref s.heap.objs.size)) (PIE X pins σ tg R) E { s with heap:=s.heap.push { cls:=.type "range",data:=.fields #[.int lo t,.int hi u,.int 1 v] },toks:=tk }:=by
 refine wpAny_pyIter_range (IsRange.new ..) (small_one h1 h2 h3 h4) ?_
 have I1:Inv X pins σ H { s with heap:=s.heap.push { cls:=.type "range",data:=.fields #[.int lo t,.int hi u,.int 1 v] },toks:=tk }:=I.kept fun b o e=>af _ e
 refine⟨(s.heap.push { cls:=.type "range",data:=.fields #[.int lo t,.int hi u,.int 1 v] }).objs.size,[(s.heap.push { cls:=.type "range",data:=.fields #[.int lo t,.int hi u,.int 1 v] }).objs.size],_,_,H,rfl,
  I1.kept (t':=tk) fun b o e=>af _ e,YC _ lo (hi - lo).toNat,?_,fun b hb=>?_,q⟩
 ·have e1:lo+((0:Nat):Int) * 1=lo:=by simp
  have e2:(((hi - lo).toNat:Nat):Int) - ((0:Nat):Int)=Builtin.Range.rangeSize lo hi 1:=by rw[rangeSize_one];split <;> lia
  show IsRangeIter _ _ (lo+((0:Nat):Int) * 1) ((((hi - lo).toNat:Nat):Int) - ((0:Nat):Int)) 1
  rw[e1,e2]
  exact aH _ rfl
 ·have e:b=(s.heap.push { cls:=.type "range",data:=.fields #[.int lo t,.int hi u,.int 1 v] }).objs.size:=by simpa using hb
  subst e
  exact I1.fpOk (ar _) (I1.hok.fresh (ar _))
def QA(ta:TA):TI:=fun σ H R=>ta σ H fun vs H1=>∃ j:Int,vs=[.int j]/\-(2 ^ 62)<=j/\j<2 ^ 62/\R (Itr 0 j.toNat) H1
def Kv(ta:TA):TI:=fun σ H R=>ta σ H fun vs H1=>∃ i j:Int,vs=[.int i,.int j]/\(-(2 ^ 62)<=i/\i<2 ^ 62/\-(2 ^ 62)<=j/\j<2 ^ 62)/\R (Itr i (j - i).toNat) H1
theorem yv{a:Expr}{ta:TA}{p pos:Pos}(hg:Gl X "range")(hm:X.mg "range" = none)(ha:PA X [a] ta)(hs:rA [a] X.env=[(false,eval a X.env)]:=by rfl):PI X tg (.Call (.Name "range" p) [a] [] pos) (QA ta):=by
 intro pins s σ H R I h
 refine Call_ (ug I hg hm boot_range (cw (thn (ha pos pins s σ H _ I h) fun us s1 ⟨vs,H1,I1,r1,q1⟩=>?_) hs rfl))
 obtain⟨j,e,q1,q2,q⟩:=q1
 subst e
 cases r1 with
 | cons r rr =>
  cases rr
  obtain⟨t,rfl⟩:=r
  exact call_range_1 (VH I1 (by lia) (by lia) q1 q2 (by simpa using q))
def Va(wi:TI)(g:TG)(tb:TS):TS:=fun D σ H=>wi σ H fun J H1=>∃ W:Nat->Nat->St->Hp->Prop,(∃ m,W 0 m σ H1)/\∀ i m σ H,W i m σ H ->
 (J.stop i H/\D.nx σ H)\/(J.go i H/\∃ N:St->Hp->Prop,(∀ σ' H',N σ' H'->∃ m',m'<m/\W (i+1) m' σ' H')/\∀ x H',J.yld i H x H'->g x σ H' fun σ2 H2=>tb { D with nx:=N,ct:=N,bk:=D.nx } σ2 H2)
noncomputable def kr(fp:List Addr)(h:Heap):List (Addr × Obj):=fp.filterMap fun b=>(h.get? b).map fun o=>(b,o)
theorem wg{fp:List Addr}{h:Heap}{b:Addr}{o:Obj}(hb:b ∈ fp)(e:h.get? b=some o):(b,o) ∈ kr fp h:=rV.mpr ⟨b,hb,by rw[e];rfl⟩
theorem Wp{fp:List Addr}{h:Heap}{p:Addr × Obj}(hp:p ∈ kr fp h):p.1 ∈ fp/\h.get? p.1=some p.2:=by
 obtain⟨b,hb,e⟩:=rV.mp hp
 cases q:h.get? b with
 | none=>rw[q] at e;cases e
 | some o =>
  rw[q] at e
  have e':(b,o)=p:=Option.some.inj e
  subst e'
  exact⟨hb,q⟩
theorem Inv.pinned{pins:List (Addr × Obj)}{σ:St}{H:Hp}{s:Shared}{fp:List Addr}(I:Inv X pins σ H s)(hf:∀ b ∈ fp,wT X pins H b)(ho:∀ b ∈ fp,∃ o,s.heap.get? b=some o/\∀ v,o.data≠.cell v):Inv X (pins ++ kr fp s.heap) σ H s :=
 I.pins_of fun p hp=>(rF.mp hp).elim (fun z=>I.pin p (aF _ z)) fun z=>by
  obtain⟨hb,e⟩:=Wp z
  obtain⟨f0,f1,f2,_⟩:=hf p.1 hb
  obtain⟨o,e',d⟩:=ho p.1 hb
  rw[e] at e';cases e'
  exact⟨e,f0,f1,f2,d⟩
theorem Inv.unpinned{pins pl:List (Addr × Obj)}{σ:St}{H:Hp}{s:Shared}(I:Inv X (pins ++ pl) σ H s):Inv X pins σ H s:=I.pins_of fun p hp=>I.pin p (aF _ (bf _ hp))
theorem zZ{iter:Expr}{body:List Stmt}{wi:TI}{g:TG}{tb:TS}{pos:Pos}(hp:PassesOwn (model X.prog X.w) X.A X.env X.xe)(hc:X.calm=true)(hi:PI X tg iter wi)(hg:PG X tg g)(hb:PSs X body tb)
  (hs:∀ x,foldedSetIterable iter X.env x=pure x:=by intro _;rfl):PS X (.For tg iter body [] pos) (Va wi g tb):=by
 intro pins s σ H D I h
 refine wpAny_For (thn (hi pins s σ H _ I h) fun v s1 h1=>thn h1 fun itv s2 h2=>?_) hs
 obtain⟨it,fp,tn,J,H2,e,I2,T,st2,f2,W,⟨m0,w0⟩,turn⟩:=h2
 subst e
 have stat:∀{H':Hp},(∀ b ∈ fp,H' b=none)->∀ b ∈ fp,wT X pins H' b:=fun hn b hb=>⟨hn b hb,(f2 b hb).2⟩
 refine codeAny_forLoop_any (fun n s'=>∃ i σ' H',Inv X pins σ' H' s'/\tn i s'.heap/\(∀ b ∈ fp,H' b=none)/\W i n σ' H') ?_ m0 ⟨0,σ,H2,I2,st2,fun b hb=>(f2 b hb).1,w0⟩
 rintro n s3 ⟨i,σ3,H3,I3,st3,fr3,w3⟩
 rcases turn i n σ3 H3 w3 with ⟨stop,qn⟩ | ⟨go,N,hN,step⟩
 ·refine wpAny_passesOwn hp (thn (T.done X rfl rfl rfl hc i pins s3 σ3 H3 X.xe I3 (stat fr3) st3 stop) fun r s4 ⟨hr,I4⟩=>?_)
  subst hr
  exact wpAny_execs_nil ⟨σ3,H3,I4,qn⟩
 ·refine wpAny_passesOwn hp (thn (T.item X rfl rfl rfl hc i pins s3 σ3 H3 X.xe I3 (stat fr3) st3 go) fun r s4 ⟨u,hr,h4⟩=>?_)
  subst hr
  refine wpAny_passesOwn hp (thn h4 fun _ s5 ⟨x,H5,I5,r5,y5,st5,fr5⟩=>?_)
  have I5':=I5.pinned (stat fr5) (T.obj _ _ st5)
  refine wpAny_passesOwn hp (thn (hg _ s5 σ3 H5 x u _ I5' r5 (step x H5 y5)) fun _ s6 ⟨σ6,H6,I6,q6⟩=>?_)
  refine wpAny_passesOwn hp (thn (hb _ s6 σ6 H6 _ I6 q6) fun f s7 q7=>?_)
  have again:∀{σ7:St} {H7:Hp},Inv X (pins ++ kr fp s5.heap) σ7 H7 s7->N σ7 H7->∃ m,m<n/\∃ i σ' H',Inv X pins σ' H' s7/\tn i s7.heap/\(∀ b ∈ fp,H' b=none)/\W i m σ' H':=fun {σ7 H7} I7 n7=>by
   obtain⟨m',hm,w7⟩:=hN σ7 H7 n7
   refine⟨m',hm,i+1,σ7,H7,I7.unpinned,T.keep _ _ _ st5 fun b hb o e=>(I7.pin (b,o) (aF _ (aF _ (wg hb e)))).1,fun b hb=>?_,w7⟩
   obtain⟨o,e,d⟩:=T.obj _ _ st5 b hb
   exact (I7.pin (b,o) (aF _ (aF _ (wg hb e)))).2.1
  cases f with
  | next=>obtain⟨σ7,H7,I7,n7⟩:=q7;exact again I7 n7
  | cont=>obtain⟨σ7,H7,I7,n7⟩:=q7;exact again I7 n7
  | brk=>obtain⟨σ7,H7,I7,q7⟩:=q7;exact⟨σ7,H7,I7.unpinned,q7⟩
  | ret v=>obtain⟨x7,σ7,H7,I7,r7,q7⟩:=q7;exact⟨x7,σ7,H7,I7.unpinned,r7,q7⟩
end
theorem VJ{K:rC}{a:Addr}{xs:List V}{g:TG}{tb:TS}{D:xw}{σ:St}{H:Hp}(Pv:Nat->St->Hp->Prop)(h0:Pv 0 σ H)(hl:∀ i σ H,i<=xs.length->Pv i σ H->SqL K H a xs)
  (hs:∀ i x σ H,xs[i]? = some x->Pv i σ H->g x σ H fun σ2 H2=>tb { D with nx:=Pv (i+1),ct:=Pv (i+1),bk:=D.nx } σ2 H2) (hd:∀ σ H,Pv xs.length σ H->D.nx σ H) :
  ∃ W:Nat->Nat->St->Hp->Prop,(∃ m,W 0 m σ H)/\∀ i m σ H,W i m σ H ->
   ((Itl K a).stop i H/\D.nx σ H)\/((Itl K a).go i H/\∃ N:St->Hp->Prop,(∀ σ' H',N σ' H'->∃ m',m'<m/\W (i+1) m' σ' H')/\∀ x H',(Itl K a).yld i H x H'->g x σ H' fun σ2 H2=>tb { D with nx:=N,ct:=N,bk:=D.nx } σ2 H2):=by
 refine⟨fun i m σ H=>m=xs.length - i/\i<=xs.length/\Pv i σ H,⟨xs.length,by simp,aP _,h0⟩,?_⟩
 rintro i m σ H ⟨rfl,hi,p⟩
 have q:=hl i σ H hi p
 by_cases hlt:i<xs.length
 ·refine .inr ⟨⟨xs,xs[i],q,by simp [hlt]⟩,Pv (i+1),fun σ' H' p'=>⟨xs.length - (i+1),by lia,rfl,hlt,p'⟩,fun x H' y=>?_⟩
  obtain⟨e,y⟩:=y
  subst e
  exact hs i x σ _ (y xs q) p
 ·have e:i=xs.length:=by lia
  subst e
  exact .inl ⟨⟨xs,q,ar _⟩,hd σ H p⟩
theorem WQ{lo:Int}{n:Nat}{g:TG}{tb:TS}{D:xw}{σ:St}{H:Hp}(Pv:Nat->St->Hp->Prop)(h0:Pv 0 σ H)
  (hs:∀ i σ H,i<n->Pv i σ H->g (.int (lo+i)) σ H fun σ2 H2=>tb { D with nx:=Pv (i+1),ct:=Pv (i+1),bk:=D.nx } σ2 H2) (hd:∀ σ H,Pv n σ H->D.nx σ H) :
  ∃ W:Nat->Nat->St->Hp->Prop,(∃ m,W 0 m σ H)/\∀ i m σ H,W i m σ H ->
   ((Itr lo n).stop i H/\D.nx σ H)\/((Itr lo n).go i H/\∃ N:St->Hp->Prop,(∀ σ' H',N σ' H'->∃ m',m'<m/\W (i+1) m' σ' H')/\∀ x H',(Itr lo n).yld i H x H'->g x σ H' fun σ2 H2=>tb { D with nx:=N,ct:=N,bk:=D.nx } σ2 H2):=by
 refine⟨fun i m σ H=>m=n - i/\i<=n/\Pv i σ H,⟨n,by simp,aP _,h0⟩,?_⟩
 rintro i m σ H ⟨rfl,hi,p⟩
 by_cases hlt:i<n
 ·refine .inr ⟨hlt,Pv (i+1),fun σ' H' p'=>⟨n - (i+1),by lia,rfl,hlt,p'⟩,fun x H' y=>?_⟩
  obtain⟨e,y⟩:=y
  subst e y
  exact hs i σ _ hlt p
 ·have e:i=n:=by lia
  subst e
  exact .inl ⟨ar _,hd σ H p⟩
end L2
namespace L2
noncomputable abbrev R2:=V->V->Hp->VK->Prop
def OpR(X:Cx)(f:Value->Value->Sem Value)(r:R2):Prop :=
 ∀(pins:List (Addr × Obj)) (s:Shared) (σ:St) (H:Hp) (x y:V) (v u:Value) (Q:VK),Inv X pins σ H s->RelV x v->RelV y u->r x y H Q ->
  wpAny (model X.prog X.w) X.A (f v u) (EP X pins σ Q) X.xe s
def UnR(X:Cx)(f:Value->Sem Value)(r:V->Hp->VK->Prop):Prop :=
 ∀(pins:List (Addr × Obj)) (s:Shared) (σ:St) (H:Hp) (x:V) (v:Value) (Q:VK),Inv X pins σ H s->RelV x v->r x H Q ->
  wpAny (model X.prog X.w) X.A (f v) (EP X pins σ Q) X.xe s
def ui(X:Cx)(f:Value)(r:List V->Hp->VK->Prop):Prop :=
 ∀(pins:List (Addr × Obj)) (s:Shared) (σ:St) (H:Hp) (xs:List V) (us:List Value) (Q:VK),Inv X pins σ H s->Vals xs us->r xs H Q ->
  wpAny (model X.prog X.w) X.A (call f us) (EP X pins σ Q) X.xe s
def zbg(X:Cx)(r:V->Hp->(Bool->Hp->Prop)->Prop):Prop :=
 ∀(pins:List (Addr × Obj)) (s:Shared) (σ:St) (H:Hp) (x:V) (v:Value) (Q:Bool->Hp->Prop),Inv X pins σ H s->RelV x v->r x H Q ->
  wpAny (model X.prog X.w) X.A (truthy v) (TP X pins σ Q) X.xe s
def tOp(r:R2)(ta tb:TE):TE:=fun σ H Q=>ta σ H fun x H1=>tb σ H1 fun y H2=>r x y H2 Q
def tUn(r:V->Hp->VK->Prop)(ta:TE):TE:=fun σ H Q=>ta σ H fun x H1=>r x H1 Q
def rI(C:Int->Int->Prop)(g:Int->Int->V):R2:=fun x y H Q=>∃ i j,x=.int i/\y=.int j/\C i j/\Q (g i j) H
def rI0(g:Int->Int->V):R2:=fun x y H Q=>∃ i j,x=.int i/\y=.int j/\Q (g i j) H
def rU(g:Int->V):V->Hp->VK->Prop:=fun x H Q=>∃ i,x=.int i/\Q (g i) H
section
variable{X:Cx}{a b c:Expr}{ta tb tc:TE}{pos:Pos}
theorem KR(ha:PE X a ta)(hb:PE X b tb){pins:List (Addr × Obj)}{s:Shared}{σ:St}{H:Hp}{R:V->V->Hp->Prop}(I:Inv X pins σ H s)
  (h:ta σ H fun x H1=>tb σ H1 fun y H2=>R x y H2) {Q:Value->Shared->Prop} {f:Value->Value->Sem Value}
  (hf:∀ v u s2 x y H2,Inv X pins σ H2 s2->RelV x v->RelV y u->R x y H2->wpAny (model X.prog X.w) X.A (f v u) Q X.xe s2) :
  wpAny (model X.prog X.w) X.A (eval a X.env) (fun v s₁=>wpAny (model X.prog X.w) X.A (eval b X.env) (fun u s₂=>wpAny (model X.prog X.w) X.A (f v u) Q X.xe s₂) X.xe s₁) X.xe s:=by
 refine thn (ha pins s σ H _ I h) fun v s1 ⟨x,H1,I1,r1,q1⟩=>?_
 refine thn (hb pins s1 σ H1 _ I1 q1) fun u s2 ⟨y,H2,I2,r2,q2⟩=>?_
 exact hf v u s2 x y H2 I2 r1 r2 q2
theorem zv{op:Operator}{r:R2}(ho:OpR X (binaryOp op) r)(ha:PE X a ta)(hb:PE X b tb):PE X (.BinOp a op b pos) (tOp r ta tb):=by
 intro pins s σ H Q I h
 exact wpAny_BinOp (KR ha hb I h fun v u s2 x y H2 I2 rx ry q=>ho pins s2 σ H2 x y v u Q I2 rx ry q)
theorem Jp{op:UnaryOp}{r:V->Hp->VK->Prop}(ho:UnR X (unaryOp op) r)(ha:PE X a ta):PE X (.UnaryOp op a pos) (tUn r ta):=by
 intro pins s σ H Q I h
 exact UnaryOp_ (thn (ha pins s σ H _ I h) fun v s1 ⟨x,H1,I1,r1,q1⟩=>ho pins s1 σ H1 x v Q I1 r1 q1)
theorem opI{f:Value->Value->Sem Value}{C:Int->Int->Prop}{g:Int->Int->Int}
  (rule:∀(i j:Int) (t u:Tok) (s:Shared) (Q:Value->Shared->Prop) (E:Value->Shared->Prop),C i j->Q (.int (g i j) s.toks) { s with toks:=s.toks+1 }->wpAny (model X.prog X.w) X.A (f (.int i t) (.int j u)) Q E s) :
  OpR X f (rI C fun i j=>.int (g i j)):=by
 intro pins s σ H x y v u Q I rx ry h
 obtain⟨i,j,rfl,rfl,hc,q⟩:=h
 obtain⟨t,rfl⟩:=rx
 obtain⟨t',rfl⟩:=ry
 exact rule i j t t' s _ _ hc ⟨.int (g i j),H,I.tok _,⟨_,rfl⟩,q⟩
theorem zaY{f:Value->Value->Sem Value}{g:Int->Int->Int}
  (rule:∀(i j:Int) (t u:Tok) (s:Shared) (Q:Value->Shared->Prop) (E:Value->Shared->Prop),Q (.int (g i j) s.toks) { s with toks:=s.toks+1 }->wpAny (model X.prog X.w) X.A (f (.int i t) (.int j u)) Q E s) :
  OpR X f (rI0 fun i j=>.int (g i j)):=by
 intro pins s σ H x y v u Q I rx ry h
 obtain⟨i,j,rfl,rfl,q⟩:=h
 obtain⟨t,rfl⟩:=rx
 obtain⟨t',rfl⟩:=ry
 exact rule i j t t' s _ _ ⟨.int (g i j),H,I.tok _,⟨_,rfl⟩,q⟩
theorem Kb{f:Value->Value->Sem Value}{g:Int->Int->Bool}
  (rule:∀(i j:Int) (t u:Tok) (s:Shared) (Q:Value->Shared->Prop) (E:Value->Shared->Prop),Q (.bool (g i j)) s->wpAny (model X.prog X.w) X.A (f (.int i t) (.int j u)) Q E s) :
  OpR X f (rI0 fun i j=>.bl (g i j)):=by
 intro pins s σ H x y v u Q I rx ry h
 obtain⟨i,j,rfl,rfl,q⟩:=h
 obtain⟨t,rfl⟩:=rx
 obtain⟨t',rfl⟩:=ry
 exact rule i j t t' s _ _ ⟨.bl (g i j),H,I,rfl,q⟩
def Kt(i j:Int):Prop:=0<j/\j<1073741824
def zbw(i j:Int):Prop:=0<=j/\j<=1000000/\i.natAbs<2 ^ 64
def CMul(i j:Int):Prop:=(-(2 ^ 64)<i/\i<2 ^ 64)\/(-(2 ^ 64)<j/\j<2 ^ 64)
theorem CMul.ok{i j:Int}(h:CMul i j):IntMulOk i j:=by
 rcases h with ⟨h1,h2⟩ | ⟨h1,h2⟩
 ·exact .of_left (intBits_le_64 h1 h2)
 ·exact .of_right (intBits_le_64 h1 h2)
theorem op_add:OpR X (binaryOp .Add) (rI0 fun i j=>.int (i+j)):=zaY fun _ _ _ _ _ _ _ q=>add_int q
theorem qG:OpR X (binaryOp .Sub) (rI0 fun i j=>.int (i - j)):=zaY fun _ _ _ _ _ _ _ q=>sub_int q
theorem op_mul:OpR X (binaryOp .Mult) (rI CMul fun i j=>.int (i * j)):=opI fun _ _ _ _ _ _ _ hc q=>mul_int q hc.ok
theorem xq:OpR X (binaryOp .FloorDiv) (rI Kt fun i j=>.int (i / j)):=opI fun i j _ _ _ _ _ hc q=>by
 have h1:(0:Int)<j:=hc.1
 have h2:j<1073741824:=hc.2
 exact floordiv_int (by lia) (by rw[Int.fdiv_eq_ediv_of_nonneg i (by lia)];exact q) (.inl (PyProof.noPylong_small (by lia)))
theorem yj:OpR X (binaryOp .Mod) (rI (fun _ j=>0<j) fun i j=>.int (i % j)):=opI fun i j _ _ _ _ _ hc q=>by
 have h1:(0:Int)<j:=hc
 exact mod_int' (by lia) (by rw[Int.fmod_eq_emod_of_nonneg i (by lia)];exact q)
theorem Wn:OpR X (binaryOp .Pow) (rI zbw fun i j=>.int (i ^ j.toNat)):=opI fun _ _ _ _ _ _ _ hc q=>pow_int_small hc.1 hc.2.1 hc.2.2 q
theorem unI{f:Value->Sem Value}{g:Int->Int}
  (rule:∀(i:Int) (t:Tok) (s:Shared) (Q:Value->Shared->Prop) (E:Value->Shared->Prop),Q (.int (g i) s.toks) { s with toks:=s.toks+1 }->wpAny (model X.prog X.w) X.A (f (.int i t)) Q E s) :
  UnR X f (rU fun i=>.int (g i)):=by
 intro pins s σ H x v Q I rx h
 obtain⟨i,rfl,q⟩:=h
 obtain⟨t,rfl⟩:=rx
 exact rule i t s _ _ ⟨.int (g i),H,I.tok _,⟨_,rfl⟩,q⟩
theorem VX:UnR X (unaryOp .USub) (rU fun i=>.int (-i)):=unI fun _ _ _ _ _ q=>neg_int q
end
noncomputable def UY:V->V->Bool
 | .non,.non=>true | .non,.int _=>true | .int _,.non=>true | .non,.bl _=>true | .bl _,.non=>true | .non,.str _=>true | .str _,.non=>true
 | .int _,.int _=>true | .bl _,.bl _=>true | .str _,.str _=>true | .byt _,.byt _=>true
 | .int _,.str _=>true | .str _,.int _=>true | .bl _,.str _=>true | .str _,.bl _=>true
 | _,_=>false
def rEq:R2:=fun x y H Q=>UY x y=true/\Q (.bl (decide (x=y))) H
def rNe:R2:=fun x y H Q=>UY x y=true/\Q (.bl (!decide (x=y))) H
theorem X3{i j:Int}:decide (V.int i=V.int j)=(i == j):=by
 rw[cf]
 simp
theorem Ue{i j:Bool}:decide (V.bl i=V.bl j)=(i == j):=by
 rw[cf]
 simp
theorem X4{i j:Str}:decide (V.str i=V.str j)=(i == j):=by
 rw[cf]
 simp
theorem WG{i j:Array UInt8}:decide (V.byt i=V.byt j)=(i.toList == j.toList):=by
 rw[cf]
 cases i
 cases j
 simp
section
variable{X:Cx}{a b c:Expr}{ta tb tc:TE}{pos:Pos}
theorem zC{pins:List (Addr × Obj)}{σ:St}{H:Hp}{s:Shared}{Q:VK}{k k':Bool}(I:Inv X pins σ H s)(q:Q (.bl k) H)(e:k=k'):EP X pins σ Q (.bool k') s:=by
 subst e
 exact⟨.bl k,H,I,rfl,q⟩
theorem kK:OpR X (compareOp .Eq) rEq:=by
 intro pins s σ H x y v u Q I rx ry h
 obtain⟨hs,q⟩:=h
 cases x with
 | non =>
  cases rx
  cases y with
  | non=>cases ry;exact PySem.EqNone.eq_none_none (zC I q (by simp))
  | bl j=>cases ry;exact PySem.EqNone.eq_none_bool (zC I q (by simp))
  | int j=>obtain⟨t',rfl⟩:=ry;exact PySem.EqNone.eq_none_int (zC I q (by simp))
  | str j=>obtain⟨t',rfl⟩:=ry;exact PySem.EqNone.eq_none_str (zC I q (by simp))
  | _=>exact absurd (show false=true from hs) av
 | bl i =>
  cases rx
  cases y with
  | non=>cases ry;exact PySem.EqNone.eq_bool_none (zC I q (by simp))
  | bl j=>cases ry;exact eq_bool (zC I q Ue)
  | str j=>obtain⟨t',rfl⟩:=ry;exact PySem.EqMixed.eq_bool_str (zC I q (by simp))
  | _=>exact absurd (show false=true from hs) av
 | int i =>
  obtain⟨t,rfl⟩:=rx
  cases y with
  | non=>cases ry;exact PySem.EqNone.eq_int_none (zC I q (by simp))
  | int j=>obtain⟨t',rfl⟩:=ry;exact eq_int (zC I q X3)
  | str j=>obtain⟨t',rfl⟩:=ry;exact PySem.EqMixed.eq_int_str (zC I q (by simp))
  | _=>exact absurd (show false=true from hs) av
 | str i =>
  obtain⟨t,rfl⟩:=rx
  cases y with
  | non=>cases ry;exact PySem.EqNone.eq_str_none (zC I q (by simp))
  | bl j=>cases ry;exact PySem.EqMixed.eq_str_bool (zC I q (by simp))
  | int j=>obtain⟨t',rfl⟩:=ry;exact PySem.EqMixed.eq_str_int (zC I q (by simp))
  | str j=>obtain⟨t',rfl⟩:=ry;exact eq_str (zC I q X4)
  | _=>exact absurd (show false=true from hs) av
 | byt i =>
  obtain⟨t,rfl⟩:=rx
  cases y with
  | byt j=>obtain⟨t',rfl⟩:=ry;exact PySem.W.eq_bytes (zC I q WG)
  | _=>exact absurd (show false=true from hs) av
 | _=>cases y <;> exact absurd (show false=true from hs) av
theorem Yk:OpR X (compareOp .NotEq) rNe:=by
 intro pins s σ H x y v u Q I rx ry h
 obtain⟨hs,q⟩:=h
 cases x with
 | non =>
  cases rx
  cases y with
  | non=>cases ry;exact PySem.EqNone.ne_none_none (zC I q (by simp))
  | bl j=>cases ry;exact PySem.EqNone.ne_none_bool (zC I q (by simp))
  | int j=>obtain⟨t',rfl⟩:=ry;exact PySem.EqNone.ne_none_int (zC I q (by simp))
  | str j=>obtain⟨t',rfl⟩:=ry;exact PySem.EqNone.ne_none_str (zC I q (by simp))
  | _=>exact absurd (show false=true from hs) av
 | bl i =>
  cases rx
  cases y with
  | non=>cases ry;exact PySem.EqNone.ne_bool_none (zC I q (by simp))
  | bl j=>cases ry;exact ne_bool (zC I q (congrArg not Ue))
  | str j=>obtain⟨t',rfl⟩:=ry;exact PySem.EqMixed.ne_bool_str (zC I q (by simp))
  | _=>exact absurd (show false=true from hs) av
 | int i =>
  obtain⟨t,rfl⟩:=rx
  cases y with
  | non=>cases ry;exact PySem.EqNone.ne_int_none (zC I q (by simp))
  | int j=>obtain⟨t',rfl⟩:=ry;exact ne_int (zC I q (congrArg not X3))
  | str j=>obtain⟨t',rfl⟩:=ry;exact PySem.EqMixed.ne_int_str (zC I q (by simp))
  | _=>exact absurd (show false=true from hs) av
 | str i =>
  obtain⟨t,rfl⟩:=rx
  cases y with
  | non=>cases ry;exact PySem.EqNone.ne_str_none (zC I q (by simp))
  | bl j=>cases ry;exact PySem.EqMixed.ne_str_bool (zC I q (by simp))
  | int j=>obtain⟨t',rfl⟩:=ry;exact PySem.EqMixed.ne_str_int (zC I q (by simp))
  | str j=>obtain⟨t',rfl⟩:=ry;exact ne_str (zC I q (congrArg not X4))
  | _=>exact absurd (show false=true from hs) av
 | byt i =>
  obtain⟨t,rfl⟩:=rx
  cases y with
  | byt j=>obtain⟨t',rfl⟩:=ry;exact PySem.W.ne_bytes (zC I q (congrArg not WG))
  | _=>exact absurd (show false=true from hs) av
 | _=>cases y <;> exact absurd (show false=true from hs) av
theorem op_lt:OpR X (compareOp .Lt) (rI0 fun i j=>.bl (decide (i<j))):=Kb fun _ _ _ _ _ _ _ q=>lt_int q
theorem op_le:OpR X (compareOp .LtE) (rI0 fun i j=>.bl (decide (i<=j))):=Kb fun _ _ _ _ _ _ _ q=>le_int q
theorem op_gt:OpR X (compareOp .Gt) (rI0 fun i j=>.bl (decide (j<i))):=Kb fun _ _ _ _ _ _ _ q=>gt_int q
theorem Kg:OpR X (compareOp .GtE) (rI0 fun i j=>.bl (decide (j<=i))):=Kb fun _ _ _ _ _ _ _ q=>ge_int q
theorem Y4:OpR X (compareOp .Lt) (fun x y H Q=>∃ i j,x=.str i/\y=.str j/\Q (.bl (decide (i.cps.toList<j.cps.toList))) H):=by
 intro pins s σ H x y v u Q I rx ry h
 obtain⟨i,j,rfl,rfl,q⟩:=h
 obtain⟨t,rfl⟩:=rx
 obtain⟨t',rfl⟩:=ry
 exact lt_str (zC I q rfl)
theorem Jf:OpR X (compareOp .Is) (fun x y H Q=>y=.non/\Q (.bl (decide (x=.non))) H):=by
 intro pins s σ H x y v u Q I rx ry h
 obtain⟨rfl,q⟩:=h
 cases ry
 refine is_none_gen (zC I q ?_)
 cases x <;> first
  | (cases rx;rfl)
  | (obtain⟨t,rfl⟩:=rx;rfl)
theorem UL:OpR X (compareOp .IsNot) (fun x y H Q=>y=.non/\Q (.bl (!decide (x=.non))) H):=by
 intro pins s σ H x y v u Q I rx ry h
 obtain⟨rfl,q⟩:=h
 cases ry
 refine isnot_none_gen (zC I q ?_)
 cases x <;> first
  | (cases rx;rfl)
  | (obtain⟨t,rfl⟩:=rx;rfl)
theorem OpR.or{f:Value->Value->Sem Value}{r r':R2}(h:OpR X f r)(h':OpR X f r'):OpR X f (fun x y H Q=>r x y H Q\/r' x y H Q):=by
 intro pins s σ H x y v u Q I rx ry q
 rcases q with q | q
 ·exact h pins s σ H x y v u Q I rx ry q
 ·exact h' pins s σ H x y v u Q I rx ry q
theorem zy(b:Expr){op:CmpOp}(h:op≠.In:=by decide)(h2:op≠.NotIn:=by decide):behindInMarks op b=false:=by
 have e1:(op == CmpOp.In)=false:=by cases op <;> first | rfl | exact absurd rfl h
 have e2:(op == CmpOp.NotIn)=false:=by cases op <;> first | rfl | exact absurd rfl h2
 cases b <;> simp [behindInMarks,e1,e2]
theorem yK{op:CmpOp}{r:R2}(ho:OpR X (compareOp op) r)(ha:PE X a ta)(hb:PE X b tb)(hm:behindInMarks op b=false):PE X (.Compare a [op] [b] pos) (tOp r ta tb):=by
 intro pins s σ H Q I h
 exact wpAny_Compare1 (KR ha hb I h fun v u s2 x y H2 I2 rx ry q=>ho pins s2 σ H2 x y v u Q I2 rx ry q) hm
def US(t:TE):TT:=fun σ H Q=>t σ H fun x H'=>∃ k,x=.bl k/\Q k H'
theorem zE{op:CmpOp}{r:R2}(ho:OpR X (compareOp op) r)(ha:PE X a ta)(hb:PE X b tb)(hm:behindInMarks op b=false):PT X (.Compare a [op] [b] pos) (US (tOp r ta tb)):=by
 intro pins s σ H Q I h
 refine wpAny_isTrue_Compare1 (thn (ha pins s σ H _ I h) fun v s1 ⟨x,H1,I1,r1,q1⟩=>thn (hb pins s1 σ H1 _ I1 q1) fun u s2 ⟨y,H2,I2,r2,q2⟩ =>
  thn (ho pins s2 σ H2 x y v u _ I2 r1 r2 q2) fun c s3 ⟨z,H3,I3,r3,k,e,q3⟩=>?_) hm
 subst e
 cases r3
 exact wpAny_truthy_bool ⟨H3,I3,q3⟩
def XF(r r':R2)(ta tb tc:TE):TE:=fun σ H Q=>ta σ H fun x H1=>tb σ H1 fun y H2=>r x y H2 fun z H3=>∃ k,z=.bl k /\
 (if k=true then tc σ H3 fun w' H4=>r' y w' H4 Q else Q (.bl false) H3)
theorem W2{op op':CmpOp}{r r':R2}(ho:OpR X (compareOp op) r)(ho':OpR X (compareOp op') r')(ha:PE X a ta)(hb:PE X b tb)(hc:PE X c tc)
  (hm:lastMarks [op,op'] [b,c]=false:=by with_unfolding_all rfl):PE X (.Compare a [op,op'] [b,c] pos) (XF r r' ta tb tc):=by
 intro pins s σ H Q I h
 refine Compare_chain (thn (ha pins s σ H _ I h) fun v s1 ⟨x,H1,I1,r1,q1⟩=>chain_link (thn (hb pins s1 σ H1 _ I1 q1) fun u s2 ⟨y,H2,I2,r2,q2⟩ =>
  thn (ho pins s2 σ H2 x y v u _ I2 r1 r2 q2) fun d s3 ⟨z,H3,I3,r3,k,e,q3⟩=>?_)) hm
 subst e
 cases r3
 refine wpAny_truthy_bool ?_
 cases k with
 | false=>exact ite_ff ⟨.bl false,H3,I3,rfl,q3⟩
 | true=>exact ite_tt (chain_last (thn (hc pins s3 σ H3 _ I3 q3) fun w' s4 ⟨z',H4,I4,r4,q4⟩=>ho' pins s4 σ H4 y z' u w' Q I4 r2 r4 q4))
theorem vF{op op':CmpOp}{r r':R2}(ho:OpR X (compareOp op) r)(ho':OpR X (compareOp op') r')(ha:PE X a ta)(hb:PE X b tb)(hc:PE X c tc)
  (hm:lastMarks [op,op'] [b,c]=false:=by with_unfolding_all rfl):PT X (.Compare a [op,op'] [b,c] pos) (US (XF r r' ta tb tc)):=by
 intro pins s σ H Q I h
 refine isTrue_chain (thn (ha pins s σ H _ I h) fun v s1 ⟨x,H1,I1,r1,q1⟩=>test_link (thn (hb pins s1 σ H1 _ I1 q1) fun u s2 ⟨y,H2,I2,r2,q2⟩ =>
  thn (ho pins s2 σ H2 x y v u _ I2 r1 r2 q2) fun d s3 ⟨z,H3,I3,r3,k,e,q3⟩=>?_)) hm
 subst e
 cases r3
 refine wpAny_truthy_bool ?_
 cases k with
 | false =>
  obtain⟨k',e',q'⟩:=q3
  cases e'
  exact ite_ff ⟨H3,I3,q'⟩
 | true =>
  refine ite_tt (test_last (thn (hc pins s3 σ H3 _ I3 q3) fun w' s4 ⟨z',H4,I4,r4,q4⟩=>thn (ho' pins s4 σ H4 y z' u w' _ I4 r2 r4 q4) fun d' s5 ⟨z2,H5,I5,r5,k2,e2,q5⟩=>?_))
  subst e2
  cases r5
  exact wpAny_truthy_bool ⟨H5,I5,q5⟩
def QB(K:rC)(x:V)(H:Hp)(k:Bool):Prop :=
 match x with
 | .non=>k=false
 | .bl b=>k=b
 | .int i=>k=(i != 0)
 | .str y=>y.length<=rB/\k=((y.length:Int) != 0)
 | .byt y=>y.size<=rB/\k=((y.size:Int) != 0)
 | .ref p=>(∃ xs,SqL K H p xs/\k=!xs.isEmpty)\/(∃ xs,SqT K H p xs/\k=!xs.isEmpty)\/∃ kvs,H p=some (.dK kvs)/\k=!kvs.isEmpty
 | _=>False
theorem Yy{κ:Type}{kvs:List (κ × V)}{vs:List (κ × Value)}(r:KV kvs vs):(!vs.isEmpty)=!kvs.isEmpty:=by
 cases r <;> rfl
theorem qQ{xs:List V}{its:List Value}(r:Vals xs its):(!its.toArray.isEmpty)=!xs.isEmpty:=by
 cases r <;> simp
theorem jX:(rB:Nat)<2 ^ 63:=by rw[sizeLine_eq];decide
theorem Ub:zbg X (fun x H Q=>∃ k,QB X.K x H k/\Q k H):=by
 intro pins s σ H x v Q I rx h
 obtain⟨k,e,q⟩:=h
 have hl:=jX
 have hs:rB=16777216:=sizeLine_eq
 cases x with
 | non =>
  cases rx
  have e':k=false:=e
  subst e'
  exact truthy_none ⟨H,I,q⟩
 | bl b =>
  cases rx
  have e':k=b:=e
  subst e'
  exact wpAny_truthy_bool ⟨H,I,q⟩
 | int i =>
  obtain⟨t,rfl⟩:=rx
  have e':k=(i != 0):=e
  subst e'
  exact PySem.P.truthy_int ⟨H,I,q⟩
 | str y =>
  obtain⟨t,rfl⟩:=rx
  obtain⟨hy,e'⟩:y.length<=rB/\k=((y.length:Int) != 0):=e
  subst e'
  exact PySem.P.truthy_str (by lia) ⟨H,I.tok _,q⟩
 | byt y =>
  obtain⟨t,rfl⟩:=rx
  obtain⟨hy,e'⟩:y.size<=rB/\k=((y.size:Int) != 0):=e
  subst e'
  exact PySem.W.truthy_bytes (by lia) ⟨H,I.tok _,q⟩
 | ref p =>
  cases rx
  have e':(∃ xs,SqL X.K H p xs/\k=!xs.isEmpty)\/(∃ xs,SqT X.K H p xs/\k=!xs.isEmpty)\/∃ kvs,H p=some (.dK kvs)/\k=!kvs.isEmpty:=e
  rcases e' with ⟨xs,hx,e'⟩ | ⟨xs,hx,e'⟩ | ⟨kvs,hx,e'⟩
  ·subst e'
   obtain⟨its,r,pl,hz⟩:=I.list hx
   have hlen:=r.length
   exact wpAny_truthy_list pl.isList (by simp only[ah];lia) ⟨H,I.tok _,by rw[qQ r];exact q⟩
  ·subst e'
   obtain⟨its,r,pl,hz⟩:=I.tuple hx
   have hlen:=r.length
   exact truthy_tuple pl (by simp only[ah];lia) ⟨H,I.tok _,by rw[qQ r];exact q⟩
  ·subst e'
   obtain⟨hz,hS,vs,r,m⟩:kvs.length<=rB/\(p == sysModules)=false/\∃ vs,KV kvs vs/\s.heap.DictOf (Zd X.prog X.w) p vs:=I.hok p _ hx
   have hlen:kvs.length=vs.length:=Paired.length r
   exact wpAny_truthy_dict hS m (by lia) ⟨H,I.tok _,by rw[Yy r];exact q⟩
 | _=>exact (show False from e).elim
theorem Z3(ha:PE X a ta)(he:∀ whole,isTrue a X.env whole=(do let v <- whole;standAt a.pos;holding [v] (truthy v))) :
  PT X a (fun σ H Q=>ta σ H fun x H'=>∃ k,QB X.K x H' k/\Q k H'):=by
 intro pins s σ H Q I h
 exact isTrue_plain (thn (ha pins s σ H _ I h) fun v s1 ⟨x,H1,I1,r1,q1⟩=>Ub pins s1 σ H1 x v Q I1 r1 q1) (he _)
theorem op_add_str:OpR X (binaryOp .Add) (fun x y H Q=>∃ i j,x=.str i/\y=.str j/\i.length+j.length<=rB/\Q (.str (i ++ j)) H):=by
 intro pins s σ H x y v u Q I rx ry h
 obtain⟨i,j,rfl,rfl,hz,q⟩:=h
 obtain⟨t,rfl⟩:=rx
 obtain⟨t',rfl⟩:=ry
 exact add_str (fun t' tk=>⟨.str (i ++ j),H,I.tok _,⟨_,rfl⟩,q⟩) hz
theorem wM{x:V}{us:List Value}(r:Vals [x] us):∃ u,us=[u]/\RelV x u:=by
 cases r with
 | cons r1 r2=>cases r2;exact⟨_,rfl,r1⟩
theorem XA{x y:V}{us:List Value}(r:Vals [x,y] us):∃ u w',us=[u,w']/\RelV x u/\RelV y w':=by
 cases r with
 | cons r1 r2 =>
  cases r2 with
  | cons r3 r4=>cases r4;exact⟨_,_,rfl,r1,r3⟩
theorem X1(hc:X.calm=true):ui X (.builtin "max") (fun xs H Q=>∃ i j,xs=[.int i,.int j]/\Q (.int (if j > i then j else i)) H):=by
 intro pins s σ H xs us Q I r h
 obtain⟨i,j,rfl,q⟩:=h
 obtain⟨u,w',rfl,⟨t,rfl⟩,⟨t',rfl⟩⟩:=XA r
 refine max_two_ints (I.ok.hd hc) fun h' tk k=>⟨_,H,I.kept k,?_,q⟩
 by_cases hj:j > i
 ·rw[if_pos hj,if_pos hj];exact⟨_,rfl⟩
 ·rw[if_neg hj,if_neg hj];exact⟨_,rfl⟩
def K2(K:rC)(x:V)(H:Hp)(n:Nat):Prop :=
 match x with
 | .str y=>y.length<=rB/\n=y.length
 | .byt y=>y.size<=rB/\n=y.size
 | .ref p=>(∃ xs,SqL K H p xs/\n=xs.length)\/∃ xs,SqT K H p xs/\n=xs.length
 | _=>False
theorem Ve:ui X (.builtin "len") (fun xs H Q=>∃ x n,xs=[x]/\K2 X.K x H n/\Q (.int n) H):=by
 intro pins s σ H xs us Q I r h
 obtain⟨x,n,rfl,e,q⟩:=h
 obtain⟨u,rfl,rx⟩:=wM r
 have hl:=jX
 have hs:rB=16777216:=sizeLine_eq
 cases x with
 | str y =>
  obtain⟨t,rfl⟩:=rx
  obtain⟨hy,e'⟩:y.length<=rB/\n=y.length:=e
  subst e'
  exact len_str (by lia) ⟨.int _,H,I.tok _,⟨_,rfl⟩,q⟩
 | byt y =>
  obtain⟨t,rfl⟩:=rx
  obtain⟨hy,e'⟩:y.size<=rB/\n=y.size:=e
  subst e'
  exact PySem.W.len_bytes (by lia) ⟨.int _,H,I.tok _,⟨_,rfl⟩,q⟩
 | ref p =>
  cases rx
  have e':(∃ xs,SqL X.K H p xs/\n=xs.length)\/∃ xs,SqT X.K H p xs/\n=xs.length:=e
  rcases e' with ⟨xs,hx,e'⟩ | ⟨xs,hx,e'⟩
  ·subst e'
   obtain⟨its,r',pl,hz⟩:=I.list hx
   have hlen:=r'.length
   exact Calls.call_len_list pl.isList (by simp only[ah];lia) ⟨.int xs.length,H,I.tok _,⟨_,by simp only[ah];rw[hlen]⟩,q⟩
  ·subst e'
   obtain⟨its,r',pl,hz⟩:=I.tuple hx
   have hlen:=r'.length
   exact len_tuple pl (by simp only[ah];lia) ⟨.int xs.length,H,I.tok _,⟨_,by simp only[ah];rw[hlen]⟩,q⟩
 | _=>exact (show False from e).elim
end
end L2
namespace L2
structure ObjM(h:Heap)(x dx C:Addr)(mA:Str->Option Value):Prop where
 obj:h.get? x=some (ce C dx)
 ns:h.Ns1 dx mA
 ne:dx≠x
theorem WM{h:Heap}{dx:Addr}{mA:Str->Option Value}(n:h.Ns1 dx mA):∃ od,h.get? dx=some od/\∀ name,dU name od=some (mA name):=by
 obtain⟨o,es,ep,ho,hd,hk,_,hm⟩:=n
 refine⟨o,ho,fun name=>?_⟩
 have e:=hm name
 unfold nsFind findBy at e
 rw[<- Array.find?_toList] at e
 unfold dU
 rw[hd]
 dsimp only
 split
 ·rename_i y q
  rw[q] at e
  exact congrArg some e
 ·rename_i q
  rw[q] at e
  have a:es.toList.any (·.refKey)=false:=by
   rw[List.any_eq_false]
   intro y hy
   obtain⟨z,t,hkey⟩:=hk y (Array.mem_toList_iff.mp hy)
   simp [DictEntry.refKey,hkey]
  have a':¬ es.toList.any (·.refKey)=true:=by rw[a];exact av
  rw[if_neg a']
  exact congrArg some e
theorem ObjM.look{h:Heap}{x dx C:Addr}{mA:Str->Option Value}(I:ObjM h x dx C mA):∃ od,PySem.W.InstAt h x (ce C dx) C (some od)/\∀ name,dU name od=some (mA name) :=
 let ⟨od,ho,hl⟩:=WM I.ns
 ⟨od,⟨I.obj,rfl,rfl,ho⟩,hl⟩
section
variable{prog:Program}{w:World}{A:Around}{E:Value->Shared->Prop}{s:Shared}{K:rC}{x dx C f:Addr}{mA:Str->Option Value}{name:Str}{v:Value}
theorem U0{expr:Bool}{Q:Value->Shared->Prop}(X:K.In s.heap)(I:ObjM s.heap x dx C mA)(hg:bH K C name=true)(hh:bD K C=true)
  (ha:ac K (.ref C) name=some none) (hv:mA name=some v) (hv':fB v=true) (h:Q v { s with toks:=s.toks+1 }) :
  wpAny (model prog w) A (getAttr (.ref x) name expr) Q E s:=by
 obtain⟨od,J,hl⟩:=I.look
 exact PySem.W.get_value X J (dO hg).1 (PySem.W.findObj_own hh ha rfl (by rw[hl,hv])) hv' h
theorem W0{pl:Sem Bool}{Q:Value × List Value->Shared->Prop}(X:K.In s.heap)(I:ObjM s.heap x dx C mA)(hg:bH K C name=true)
  (hf:ac K (.ref C) name=some (some (.ref f))) (ht:aQ K (.ref f)=true) (hv:mA name=none) (h:Q (.ref f,[.ref x]) s) :
  wpAny (model prog w) A (getMethod (.ref x) name pl) Q E s:=by
 obtain⟨od,J,hl⟩:=I.look
 exact PySem.W.method_fn X J (dO hg).1 (dO hg).2 hf (beq_iff_eq.mp ht) (by show (dU name od).map (·.isSome)=some false;rw[hl,hv];rfl) h
theorem UG{ns:List Str}{Q:Unit->Shared->Prop}(X:K.In s.heap)(I:ObjM s.heap x dx C mA)
  (hs:ac K (.ref C) "__setattr__" = some (some (.builtin "object.__setattr__"))) (hp:cq K C=true) (ht:eG K C name=some none) (hh:bD K C=true)
  (hw:PySem.Within mA ns) (hsz:ns.length<=rB)
  (h:∀ h',ObjM h' x dx C (fun y=>if y=name then some v else mA y)->Heap.SameBut dx s.heap h'->Q () { s with heap:=h',toks:=s.toks+2 }) :
  wpAny (model prog w) A (setAttr (.ref x) name v) Q E s:=by
 obtain⟨od,J,hl⟩:=I.look
 refine fz X J hs (PySem.W.osa_open (s:={ s with toks:=s.toks+1 }) (r:=none) X J hp ht fun b=>?_)
 obtain⟨cd,hc,hd'⟩:=PySem.W.any_some hh
 have hx:s.heap.get? x=some ⟨.ref C,some dx,.plain,#[]⟩:=I.obj
 refine ro (rp (ro (ro (wpAny_loadPart hx (ro (PySem.W.Looks.here (s:={ s with toks:=s.toks+1 }) (PySem.W.looks_clsIn X hc) ?_))))))
 rw[hd']
 refine rp (a:=some dx) (ro (rp (ro ?_)))
 refine wpAny_nsSet1 (s:={ s with toks:=s.toks+1 }) I.ns fun h' hn2 hs2=>?_
 obtain⟨oD,esD,epD,hoD,hdD,hcD⟩:=hn2.count (PySem.Within.cons name v hw)
 refine ro (wpAny_lookBehind hoD (by rw[hdD];exact pastItsLine_dict (bu hcD (by rw[aI];lia))) ?_)
 exact rp (h _ ⟨(hs2.2 _ (Ne.symm I.ne)).trans I.obj,hn2,I.ne⟩ hs2)
theorem Vt{R:Result->Shared->Prop}{vs:List Value}{kw:List (Str × Value)}(X:K.In s.heap)(hm:cy K C=true)
  (hi:ac K (.ref C) "__init__" = some (some (.ref f))) (hf:PySem.W.typeIn K (.ref f)=some (.type "function"))
  (h:codeAny (model prog w) (A.under (.builtin "type.__call__" ⟨.ref C::vs,kw⟩)) (.call (.ref f) ⟨.ref (s.heap.objs.size+1)::vs,kw⟩) (PySem.W.InitBack (s.heap.objs.size+1) R)
   { s with heap:=(s.heap.push bE).push (ce C s.heap.objs.size) }) :
  codeAny (model prog w) A (.call (.ref C) ⟨vs,kw⟩) R s:=by
 obtain⟨hh,g,d,t,os⟩:=s
 exact PySem.W.make_core (PySem.W.makes_of X hm) (cG X hi) (fun self=>fF X self hf) (.inl rfl) h
end
noncomputable def j9(f:Str)(v:V):List (Str × V)->List (Str × V)
  | []=>[(f,v)]
  | (g,x)::r=>if g=f then (g,v)::r else (g,x)::j9 f v r
theorem uK(f g:Str)(v:V):∀ fs:List (Str × V),(j9 f v fs).lookup g=if g=f then some v else fs.lookup g
  | []=>by
    show bn g [(f,v)]=_
    by_cases h:g=f
    . have hb:(g == f)=true:=beq_iff_eq.mpr h
      simp only[bn,hb,if_pos h]
    . have hb:(g == f)=false:=beq_eq_false_iff_ne.mpr h
      simp only[bn,hb,if_neg h]
  | (k,x)::r=>by
    have ih:=uK f g v r
    rw[show j9 f v ((k,x)::r)=(if k=f then (k,v)::r else (k,x)::j9 f v r) from rfl]
    by_cases hk:k=f
    . rw[if_pos hk]
      by_cases h:g=k
      . have hb:(g == k)=true:=beq_iff_eq.mpr h
        simp only[bn,hb,if_pos (h.trans hk)]
      . have hb:(g == k)=false:=beq_eq_false_iff_ne.mpr h
        simp only[bn,hb,if_neg (fun e:g=f=>h (e.trans hk.symm))]
    . rw[if_neg hk]
      by_cases h:g=k
      . have hb:(g == k)=true:=beq_iff_eq.mpr h
        simp only[bn,hb,if_neg (fun e:g=f=>hk (h.symm.trans e))]
      . have hb:(g == k)=false:=beq_eq_false_iff_ne.mpr h
        simp only[bn,hb]
        exact ih
theorem qg(f:Str)(v:V):∀ fs:List (Str × V),f ∈ (j9 f v fs).map (·.1)/\∀ g,g ∈ fs.map (·.1)->g ∈ (j9 f v fs).map (·.1)
  | []=>⟨by simp [j9],fun g h=>by simp at h⟩
  | (k,x)::r=>by
    obtain⟨i1,i2⟩:=qg f v r
    rw[show j9 f v ((k,x)::r)=(if k=f then (k,v)::r else (k,x)::j9 f v r) from rfl]
    by_cases hk:k=f
    . rw[if_pos hk]
      subst hk
      exact⟨by simp,fun g h=>by simpa using h⟩
    . rw[if_neg hk]
      refine⟨?_,fun g h=>?_⟩
      . rw[ax]
        exact aw _ i1
      . rw[ax] at h ⊢
        rcases rH.mp h with e | e
        . exact rH.mpr (.inl e)
        . exact aw _ (i2 g e)
theorem qd(f:Str)(v:V):∀ fs:List (Str × V),(j9 f v fs).length<=fs.length+1
  | []=>by simp [j9]
  | (k,x)::r=>by
    have ih:=qd f v r
    rw[show j9 f v ((k,x)::r)=(if k=f then (k,v)::r else (k,x)::j9 f v r) from rfl]
    by_cases hk:k=f
    . rw[if_pos hk,aI,aI];lia
    . rw[if_neg hk,aI,aI];lia
theorem RelO.some_of{v:V}{o:Option Value}(r:RelO (some v) o):∃ u,o=some u/\RelV v u:=by
 cases o with
 | none=>exact (show False from r).elim
 | some u=>exact⟨u,rfl,r⟩
theorem RelO.none_of{o:Option Value}(r:RelO none o):o=none:=by
 cases o with
 | none=>rfl
 | some u=>exact (show False from r).elim
theorem Wr{v:V}{u:Value}(r:RelV v u):fB u=true:=by
 cases v with
 | non=>cases (show u=Value.none from r);rfl
 | bl b=>cases (show u=Value.bool b from r);rfl
 | int i=>obtain⟨t,e⟩:=(show ∃ t,u=Value.int i t from r);cases e;rfl
 | str x=>obtain⟨t,e⟩:=(show ∃ t,u=Value.str x t from r);cases e;rfl
 | byt b=>obtain⟨t,e⟩:=(show ∃ t,u=Value.bytes b t from r);cases e;rfl
 | flt b=>obtain⟨t,e⟩:=(show ∃ t,u=Value.float b t from r);cases e;rfl
 | ref a=>cases (show u=Value.ref a from r);rfl
 | ty n=>cases (show u=Value.type n from r);rfl
section
variable{P:Program}{w:World}{H H':Hp}{h h':Heap}{a C dx:Addr}{fs fs':List (Str × V)}
theorem qU(hok:HOk P w H h)(e:H a=some (.ins C dx fs)):∃ mA,ObjM h a dx C mA/\(∀ f,RelO (fs.lookup f) (mA f))/\PySem.Within mA (fs.map (·.1))/\fs.length<=1000/\H dx=some (.own a):=by
 obtain⟨d,z,ne,ob,mA,n,r,q⟩:=(show ObjOk P w H h a (.ins C dx fs) from hok a _ e)
 exact⟨mA,⟨ob,n,ne⟩,r,q,z,d⟩
end
structure Cls(K:rC)(C:Addr):Prop where
 pg:bH K C dX=true
 hd:bD K C=true
 po:cq K C=true
 sa:ac K (.ref C) "__setattr__" = some (some (.builtin "object.__setattr__"))
theorem Cls.get{K:rC}{C:Addr}(c:Cls K C)(f:Str):bH K C f=true:=c.pg
def NoAttr(K:rC)(C:Addr)(f:Str):Prop:=ac K (.ref C) f=some none
theorem NoAttr.taker{K:rC}{C:Addr}{f:Str}(n:NoAttr K C f):eG K C f=some none:=by
 unfold eG
 rw[show ac K (.ref C) f=some none from n]
 rfl
structure QI(K:rC)(C:Addr)(m:Str)(f:Addr):Prop where
 at_:ac K (.ref C) m=some (some (.ref f))
 fn:aQ K (.ref f)=true
 kp:aG K (.ref f)=true
section
variable{X:Cx}{pins:List (Addr × Obj)}{σ:St}{H:Hp}{s:Shared}{a C dx:Addr}{fs:List (Str × V)}{f:Str}{v:V}{A:Around}{E:Value->Shared->Prop}
theorem YF{b:Bool}{Q:Value->Shared->Prop}(I:Inv X pins σ H s)(e:H a=some (.ins C dx fs))(c:Cls X.K C)(n:NoAttr X.K C f)(l:fs.lookup f=some v)
  (h:∀ u s',Inv X pins σ H s'->RelV v u->Q u s'):wpAny (model X.prog X.w) A (getAttr (.ref a) f b) Q E s:=by
 obtain⟨mA,O,r,_,_,_⟩:=qU I.hok e
 obtain⟨u,hu,ru⟩:=RelO.some_of (v:=v) (o:=mA f) (by rw[<- l];exact r f)
 exact U0 I.kIn O (c.get f) c.hd n hu (Wr ru) (h u _ (I.tok _) ru)
theorem y0{m:Str}{g:Addr}{pl:Sem Bool}{Q:Value × List Value->Shared->Prop}(I:Inv X pins σ H s)(e:H a=some (.ins C dx fs))(c:Cls X.K C)(k:QI X.K C m g)(l:fs.lookup m=none)
  (h:Q (.ref g,[.ref a]) s):wpAny (model X.prog X.w) A (getMethod (.ref a) m pl) Q E s:=by
 obtain⟨mA,O,r,_,_,_⟩:=qU I.hok e
 have hn:mA m=none:=RelO.none_of (by rw[<- l];exact r m)
 exact W0 I.kIn O (c.get m) k.at_ k.fn hn h
theorem Yx{y:V}{u:Value}{Q:Unit->Shared->Prop}(I:Inv X pins σ H s)(e:H a=some (.ins C dx fs))(c:Cls X.K C)(n:NoAttr X.K C f)(hl:fs.length<1000)(ry:RelV y u)
  (h:∀ s',Inv X pins σ (upd H a (.ins C dx (j9 f y fs))) s'->Q () s'):wpAny (model X.prog X.w) A (setAttr (.ref a) f u) Q E s:=by
 obtain⟨mA,O,r,wi,_,ho⟩:=qU I.hok e
 have hz:(fs.map (·.1)).length<=rB:=by rw[aa,sizeLine_eq];lia
 refine UG I.kIn O c.sa c.po n.taker c.hd wi hz fun h' O' sb=>h _ ?_
 have hd:∃ o,h'.get? dx=some o:=let ⟨o,_,_,e',_⟩:=O'.ns; ⟨o,e'⟩
 refine I.write (x:=a) (e:=dx) (by rw[e];exact True.intro) (.inr ho) (fun b q hb z=>(sb.2 b hb).trans z) hd ?_
 refine⟨by rw[zh O.ne];exact ho,?_,O.ne,O'.obj,_,O'.ns,fun g=>?_,fun g hg=>?_⟩
 ·have:=qd f y fs;lia
 ·show RelO ((j9 f y fs).lookup g) (if g=f then some u else mA g)
  rw[uK]
  by_cases q:g=f
  ·rw[if_pos q,if_pos q];exact ry
  ·rw[if_neg q,if_neg q];exact r g
 ·by_cases q:g=f
  ·rw[q];exact (qg f y fs).1
  ·refine (qg f y fs).2 g (wi g fun z=>hg ?_)
   show (if g=f then some u else mA g)=none
   rw[if_neg q];exact z
theorem Inv.made(I:Inv X pins σ H s):Inv X pins σ (upd (upd H s.heap.objs.size (.own (s.heap.objs.size+1))) (s.heap.objs.size+1) (.ins C s.heap.objs.size []))
  { s with heap:=(s.heap.push bE).push (ce C s.heap.objs.size) }:=by
 have e1:(s.heap.push bE).get? s.heap.objs.size=some bE:=aH s.heap rfl
 have e2:((s.heap.push bE).push (ce C s.heap.objs.size)).get? (s.heap.objs.size+1)=some (ce C s.heap.objs.size):=by
  have:=aH (s.heap.push bE) (o:=ce C s.heap.objs.size) rfl
  rwa [bK] at this
 have e3:(s.heap.push bE).Ns s.heap.objs.size (fun _=>none):=⟨bE,#[],_,e1,rfl,(fun e he=>absurd he (by simp)),fun _=>rfl⟩
 have I1:=I.laid (a:=s.heap.objs.size) (o:=.own (s.heap.objs.size+1)) (h':=s.heap.push bE) (t':=s.toks) (fun b u q=>af _ q) (ar _) ⟨_,e1⟩
 refine I1.laid (a:=s.heap.objs.size+1) (o:=.ins C s.heap.objs.size []) (t':=s.toks) (fun b u q=>af _ q) (Nat.le_of_eq (bK _ _)) ?_
 have ne:s.heap.objs.size≠s.heap.objs.size+1:=ay (Nat.lt_succ_self _)
 refine⟨by rw[zh ne,zb],aP _,ne,e2,fun _=>none,(Heap.Ns1.of_empty e3).at fun o q=>af _ q,fun _=>True.intro,fun y hy=>absurd rfl hy⟩
theorem Ql{prog:Program}{w:World}{env:Env}{e:Expr}{f:Str}{pos:Pos}{s:Shared}{Q:Value->Shared->Prop}(hb:attributeBase e f env (eval e env)=eval e env)
  (h:wpAny (model prog w) A (eval e env) (fun o s₁=>wpAny (model prog w) A (getAttr o f true) Q E s₁) E s):wpAny (model prog w) A (eval (.Attribute e f pos) env) Q E s :=
 Attribute_any_ h (by rw[arm_eval_Attribute,hb])
end
def QT(K:rC)(ta:TE)(f:Str):TE:=fun σ H Q=>ta σ H fun x H1=>∃ a C dx fs v,x=.ref a/\H1 a=some (.ins C dx fs)/\Cls K C/\NoAttr K C f/\fs.lookup f=some v/\Q v H1
def zaL(K:rC)(ta tv:TE)(f:Str):TS:=fun D σ H=>tv σ H fun y H1=>ta σ H1 fun x H2=>∃ a C dx fs,x=.ref a/\H2 a=some (.ins C dx fs)/\Cls K C/\NoAttr K C f/\fs.length<1000 /\
 D.nx σ (upd H2 a (.ins C dx (j9 f y fs)))
section
variable{X:Cx}{o e value:Expr}{f:Str}{pos pos' tpos:Pos}{ta tv:TE}
theorem yG(he:PE X e ta)(hb:attributeBase e f X.env (eval e X.env)=eval e X.env):PE X (.Attribute e f pos) (QT X.K ta f):=by
 intro pins s σ H Q I h
 refine Ql hb (thn (he pins s σ H _ I h) fun u s1 ⟨x,H1,I1,rx,a,C,dx,fs,v,ex,ea,c,n,l,q⟩=>?_)
 subst ex
 obtain rfl:u=Value.ref a:=rx
 exact YF I1 ea c n l fun u' s2 I2 ru=>⟨v,H1,I2,ru,q⟩
theorem qP(ha:PE X o ta)(hv:PE X value tv)(hs:swapsWith value (some (.Attribute o f pos')) pos.line X.env=pure false):PS X (.Assign [.Attribute o f pos'] value pos) (zaL X.K ta tv f):=by
 intro pins s σ H D I h
 refine plainObj_wpAny_Assign_Attribute (thn (hv pins s σ H _ I h) fun u s1 ⟨y,H1,I1,ry,q⟩=>thn (ha pins s1 σ H1 _ I1 q) fun ov s2 ⟨x,H2,I2,rx,a,C,dx,fs,ex,ea,c,n,l,q2⟩=>?_) hs
 subst ex
 obtain rfl:ov=Value.ref a:=rx
 exact Yx I2 ea c n l ry fun s3 I3=>⟨σ,_,I3,q2⟩
theorem Qs{pl:Sem Bool}{m:Str}{apos:Pos}{args:List Expr}{pins:List (Addr × Obj)}{s:Shared}{σ:St}{H:Hp}{Q:Value->Shared->Prop}{te:TE}(he:PE X e te)(I:Inv X pins σ H s)
    (h:te σ H fun x H1=>∃ a C dx fs g,x=.ref a/\H1 a=some (.ins C dx fs)/\Cls X.K C/\QI X.K C m g/\fs.lookup m=none /\
      ∀ s1,Inv X pins σ H1 s1->wpAny (model X.prog X.w) X.A (callWith pos (.ref g) [.ref a] (backTo pos (rA args X.env)) (backToKw pos (keywordEach [] X.env))) Q X.xe s1)
    (ht:eval (.Call (.Attribute e m apos) args [] pos) X.env=(do
      let ov <- eval e X.env
      standAt apos.atName
      let (f,first) <- holding [ov] (getMethod ov m pl)
      callWith pos f first (backTo pos (rA args X.env)) (backToKw pos (keywordEach [] X.env)))) :
    wpAny (model X.prog X.w) X.A (eval (.Call (.Attribute e m apos) args [] pos) X.env) Q X.xe s:=by
  refine bU (pl:=pl) (thn (he pins s σ H _ I h) fun u s1 ⟨x,H1,I1,rx,a,C,dx,fs,g,ex,ea,c,k,l,q⟩=>?_) ht
  subst ex
  obtain rfl:u=Value.ref a:=rx
  exact y0 I1 ea c k l (q s1 I1)
end
section
variable{X:Cx}{pins:List (Addr × Obj)}{σ:St}{H:Hp}{s:Shared}{A:Around}{E:Value->Shared->Prop}{Q:Value->Shared->Prop}{c:Value}{b:Bool}
inductive Yi(K:rC)(H:Hp):V->Value->Prop where
 | non:Yi K H .non (.type "NoneType")
 | bl (x:Bool):Yi K H (.bl x) (.type "bool")
 | int (i:Int):Yi K H (.int i) (.type "int")
 | str (x:Str):Yi K H (.str x) (.type "str")
 | flt (x:UInt64):Yi K H (.flt x) (.type "float")
 | lst {a:Addr} {xs:List V} (e:H a=some (.lst xs)):Yi K H (.ref a) (.type "list")
 | frz {a:Addr} {o:Obj} {xs:List V} (e:H a=some (.frz o (.lst xs))):Yi K H (.ref a) (.type "list")
 | tup {a:Addr} {xs:List V} (e:H a=some (.tup xs)):Yi K H (.ref a) (.type "tuple")
 | dK {a:Addr} {kvs:List (Key × V)} (e:H a=some (.dK kvs)):Yi K H (.ref a) (.type "dict")
 | dT {a:Addr} {kvs:List (List Key × V)} (e:H a=some (.dT kvs)):Yi K H (.ref a) (.type "dict")
 | ins {a C dx:Addr} {fs:List (Str × V)} (e:H a=some (.ins C dx fs)) (cl:Cls K C) (ha:ac K (.ref C) "__class__" = some (some (.builtin "object.__class__")))
   (hn:cr K (.builtin "object.__class__") "__get__" = some (some (.builtin "getset_descriptor.__get__"))) (htk:da K (.builtin "object.__class__")=some true)
   (hm:br K C (.type "object")=some true):Yi K H (.ref a) (.ref C)
theorem XH{x:V}{u t:Value}(I:Inv X pins σ H s)(rx:RelV x u)(ty:Yi X.K H x t)(e:aR X.K t c=some b)(h:∀ tk,Q (.bool b) { s with toks:=tk }) :
  wpAny (model X.prog X.w) A (call (.builtin "isinstance") [u,c]) Q E s:=by
 cases ty with
 | non=>cases (show u=Value.none from rx);exact bj PySem.W.kitx_none I.kIn True.intro e (fun z=>nomatch z) h
 | bl y=>cases (show u=Value.bool y from rx);exact bj PySem.W.kitx_bool I.kIn True.intro e (fun z=>nomatch z) h
 | int i=>obtain⟨t,q⟩:=(show ∃ t,u=Value.int i t from rx);cases q;exact bj PySem.W.kitx_int I.kIn True.intro e (fun z=>nomatch z) h
 | str y=>obtain⟨t,q⟩:=(show ∃ t,u=Value.str y t from rx);cases q;exact bj PySem.W.kitx_str I.kIn True.intro e (fun z=>nomatch z) h
 | flt y=>obtain⟨t,q⟩:=(show ∃ t,u=Value.float y t from rx);cases q;exact bj PySem.W.kitx_float I.kIn True.intro e (fun z=>nomatch z) h
 | @lst a xs ea =>
  cases (show u=Value.ref a from rx)
  obtain⟨_,_,n,_,h1⟩:=(show ObjOk X.prog X.w H s.heap a (.lst xs) from I.hok a _ ea)
  exact bj d7 I.kIn ⟨_,h1,rfl⟩ e (fun z=>nomatch z) h
 | @frz a ob xs ea =>
  cases (show u=Value.ref a from rx)
  obtain⟨_,_,_,n,_,h1⟩:=(show ObjOk X.prog X.w H s.heap a (.frz ob (.lst xs)) from I.hok a _ ea)
  exact bj d7 I.kIn ⟨_,h1,rfl⟩ e (fun z=>nomatch z) h
 | @tup a xs ea =>
  cases (show u=Value.ref a from rx)
  obtain⟨_,_,_,p⟩:=(show ObjOk X.prog X.w H s.heap a (.tup xs) from I.hok a _ ea)
  obtain⟨o,h1,h2,_⟩:=p
  exact bj fk I.kIn ⟨o,h1,h2⟩ e (fun z=>nomatch z) h
 | @dK a kvs ea =>
  cases (show u=Value.ref a from rx)
  obtain⟨_,_,vs,_,p⟩:=(show ObjOk X.prog X.w H s.heap a (.dK kvs) from I.hok a _ ea)
  obtain⟨o,es,ep,h1,h2,_⟩:=p
  exact bj fA I.kIn ⟨o,h1,h2.1⟩ e (fun z=>nomatch z) h
 | @dT a kvs ea =>
  cases (show u=Value.ref a from rx)
  obtain⟨_,_,xs,_,o,es,ep,h1,h2,_⟩:=(show ObjOk X.prog X.w H s.heap a (.dT kvs) from I.hok a _ ea)
  exact bj fA I.kIn ⟨o,h1,h2.1⟩ e (fun z=>nomatch z) h
 | @ins a C dx fs ea cl ha hn htk hm =>
  cases (show u=Value.ref a from rx)
  obtain⟨mA,O,_⟩:=qU I.hok ea
  obtain⟨od,J,_⟩:=O.look
  exact bj (PySem.W.kitx_own (cl.get _) cl.hd ha hn htk hm) I.kIn J e (fun z=>nomatch z) h
end
end L2
namespace L2
structure Room(k:Nat)(A:Around):Prop where
 hd:A.handled=none
 dp:A.depth+3 * k+5<recursionLimit
 un:A.units+16 * k+200<cLine
theorem Room.mono{j k:Nat}{A:Around}(r:Room k A)(h:j<=k):Room j A:=⟨r.hd,by have:=r.dp;lia,by have:=r.un;lia⟩
theorem Room.deeper{k:Nat}{A:Around}(r:Room (k+1) A)(env:Env):Room k (A.deeper env) :=
 ⟨r.hd,by have:=r.dp;show A.depth+1+3 * k+5<_;lia,by have:=r.un;show A.units+3+16 * k+200<_;lia⟩
theorem Room.in1{k:Nat}{A:Around}(r:Room (k+1) A):Room k A.in1 :=
 ⟨r.hd,by have:=r.dp;show A.depth+3 * k+5<_;lia,by have:=r.un;show A.units+1+16 * k+200<_;lia⟩
theorem YH{A:Around}{C:Addr}{us:List Value}{kw:List (Str × Value)}:(A.under (.builtin "type.__call__" ⟨.ref C::us,kw⟩)).depth=A.depth+1:=by
 first | rfl | simp [Around.under,Code.weight,Code.isCreation,Code.isGuard,Code.isCaller,Code.frames,Code.isFrame,guardIds]
theorem YI{A:Around}{C:Addr}{us:List Value}{kw:List (Str × Value)}:(A.under (.builtin "type.__call__" ⟨.ref C::us,kw⟩)).units=A.units+1:=by
 first | rfl | simp [Around.under,Code.cUnits,Code.frames,Code.isFrame]
theorem Room.make{k:Nat}{A:Around}(r:Room (k+1) A)(C:Addr)(us:List Value)(kw:List (Str × Value)):Room k (A.under (.builtin "type.__call__" ⟨.ref C::us,kw⟩)) :=
 ⟨r.hd,by have:=r.dp;rw[YH];lia,by have:=r.un;rw[YI];lia⟩
theorem Room.depth{k:Nat}{A:Around}(r:Room k A):A.depth<recursionLimit:=by have:=r.dp;lia
theorem Room.units{k:Nat}{A:Around}(r:Room k A):A.units+64<cLine:=by have:=r.un;lia
def wQ:TA:=fun _ H Q=>Q [] H
def zN(ta:TE)(tr:TA):TA:=fun σ H Q=>ta σ H fun x H1=>tr σ H1 fun xs H2=>Q (x::xs) H2
section
variable{X:Cx}{e:Expr}{es:List Expr}{te:TE}{t:TA}{pos:Pos}
theorem zc:PA X [] wQ:=fun _ _ _ _ H Q I h=>Calls.spliced_nil ⟨[],H,I,.nil,h⟩
theorem za(ha:PE X e te)(hr:PA X es t)(hs:rA (e::es) X.env=(false,eval e X.env)::rA es X.env:=by rfl):PA X (e::es) (zN te t):=by
 intro pos pins s σ H Q I h
 rw[hs]
 show wpAny _ _ (spliced ((false,eval e X.env)::backTo pos (rA es X.env))) _ _ s
 refine Calls.spliced_cons (thn (ha pins s σ H _ I h) fun u s1 ⟨x,H1,I1,r1,q1⟩=>?_)
 exact thn (hr pos pins s1 σ H1 _ I1 q1) fun us s2 ⟨xs,H2,I2,r2,q2⟩=>⟨x::xs,H2,I2,.cons r1 r2,q2⟩
def zay(t:TA):TE:=fun σ H Q=>t σ H fun xs H1=>xs.length<=rB/\∀ p,H1 p=none->Q (.ref p) (upd H1 p (.tup xs))
def zaM(t:TA):TE:=fun σ H Q=>t σ H fun xs H1=>xs.length<=rB/\∀ p,H1 p=none->Q (.ref p) (upd H1 p (.lst xs))
theorem xN{x1}(h:PA X es t):PE X (.Tuple es x1 pos) (zay t):=by
 intro pins s σ H Q I hq
 refine wpAny_Tuple_spliced (thn (h pos pins s σ H _ I hq) fun us s1 ⟨xs,H1,I1,r,z,q⟩=>⟨by rw[<- r.length];exact z,?_⟩)
 have hf:H1 s1.heap.objs.size=none:=I1.hok.fresh (ar _)
 refine⟨.ref s1.heap.objs.size,upd H1 s1.heap.objs.size (.tup xs),I1.laid (t':=s1.toks) (fun b u e=>af _ e) (ar _) ?_,rfl,q _ hf⟩
 exact⟨z,us,r,⟨_,aH _ rfl,rfl,_,rfl⟩⟩
theorem xu(h:PA X es t):PE X (.List es pos) (zaM t):=by
 intro pins s σ H Q I hq
 refine wpAny_List_spliced (thn (h pos pins s σ H _ I hq) fun us s1 ⟨xs,H1,I1,r,z,q⟩=>⟨by rw[<- r.length];exact z,?_⟩)
 have hf:H1 s1.heap.objs.size=none:=I1.hok.fresh (ar _)
 refine⟨.ref s1.heap.objs.size,upd H1 s1.heap.objs.size (.lst xs),I1.laid (t':=s1.toks) (fun b u e=>af _ e) (ar _) ?_,rfl,q _ hf⟩
 exact⟨z,us,0,r,aH _ rfl⟩
end
noncomputable abbrev Sp:=List V->Hp->VK->XK->Prop
noncomputable abbrev CXT:=List Env->Hp->Shared->XK->Value->Shared->Prop
structure Env0(P:Program)(w:World)(K:rC)(mg:Str->Option Value)(base:Heap)(A:Around)(outer:List Env)(s:Shared)(H:Hp):Prop where
 frames:A.frames=some outer
 mod:Mod K mg base
 bs:∀ b o,base.get? b=some o->s.heap.get? b=some o/\H b=none
 bsz:base.objs.size<=s.heap.objs.size
 funs:s.heap.FunFrames base outer
 frf:∀ b ∈ frs outer,H b=none
 hok:HOk P w H s.heap
 bare:AllBare s.gens
def CE(outer:List Env)(P:Program)(w:World)(H:Hp)(s:Shared)(Q:VK)(u:Value)(s':Shared):Prop :=
 ∃ v H',s'.os=s.os/\AllBare s'.gens/\Un (frs outer) [] H H' s.heap s'.heap/\HOk P w H' s'.heap/\RelV v u/\Q v H'
def CR(CX:CXT)(outer:List Env)(P:Program)(w:World)(H:Hp)(s:Shared)(Q:VK)(E:XK)(r:Result)(s':Shared):Prop :=
 match r with
 | .ok (.ret u)=>CE outer P w H s Q u s'
 | .ok _=>False
 | .error e=>CX outer H s E e s'
structure FnOk(P:Program)(w:World)(K:rC)(mg:Str->Option Value)(base:Heap)(CX:CXT)(k:Nat)(f:Addr)(fd:FuncData)(ps:List Str)(sp:Sp):Prop where
 len:∀ vs H Q E,sp vs H Q E->vs.length=ps.length
 run:∀(A:Around) (outer:List Env) (s:Shared) (H:Hp) (args:Args) (us:List Value) (vs:List V) (Q:VK) (E:XK),Room k A->Env0 P w K mg base A outer s H->BindsTo s fd args (ps.zip us)->Vals vs us->sp vs H Q E ->
  codeAny (model P w) A (.call (.ref f) args) (CR CX outer P w H s Q E) s
theorem FnOk.imp{P:Program}{w:World}{K:rC}{mg:Str->Option Value}{base:Heap}{CX:CXT}{k:Nat}{f:Addr}{fd:FuncData}{ps:List Str}{sp sp':Sp}(F:FnOk P w K mg base CX k f fd ps sp)
  (h:∀ vs H Q E,sp' vs H Q E->sp vs H Q E):FnOk P w K mg base CX k f fd ps sp' :=
 ⟨fun vs H Q E q=>F.len vs H Q E (h _ _ _ _ q),fun A outer s H args us vs Q E hr he hb hv hs=>F.run A outer s H args us vs Q E hr he hb hv (h _ _ _ _ hs)⟩
theorem Env0.make{P:Program}{w:World}{K:rC}{mg:Str->Option Value}{base:Heap}{A:Around}{outer:List Env}{s:Shared}{H:Hp}(e:Env0 P w K mg base A outer s H)(C:Addr)(us:List Value)(kw:List (Str × Value)) :
  Env0 P w K mg base (A.under (.builtin "type.__call__" ⟨.ref C::us,kw⟩)) outer s H:=⟨by first | exact e.frames | (simpa [Around.under,Code.envs,Code.isFrame,pushEnvs] using e.frames),e.mod,e.bs,e.bsz,e.funs,e.frf,e.hok,e.bare⟩
section
variable{X:Cx}{pins:List (Addr × Obj)}{σ:St}{H:Hp}{s s':Shared}
theorem Inv.env0(I:Inv X pins σ H s):Env0 X.prog X.w X.K X.mg X.base X.A X.stack s H :=
 ⟨I.ok.frames,I.ok.mod,I.bs,bu I.ok.bsz I.sz,I.stack,I.stkFree,I.hok,I.bare⟩
theorem Inv.after{Q:VK}{u:Value}(I:Inv X pins σ H s)(h:CE X.stack X.prog X.w H s Q u s'):EP X pins σ Q u s':=by
 obtain⟨v,H',os,bare,un,hok,r,q⟩:=h
 obtain⟨hh,g,d,t,os'⟩:=s'
 obtain rfl:os'=s.os:=os
 exact⟨v,H',I.call (h':=hh) (g':=g) (d':=d) (t':=t) (ch:=[]) un hok bare (fun b z=>absurd z (by simp)),r,q⟩
end
def je(sp:Sp)(dvs:List V)(E:XK)(t:TA):TE:=fun σ H Q=>t σ H fun vs H1=>sp (vs ++ dvs) H1 Q E
def qx(C:Addr)(m:Str)(sp:Sp)(dvs:List V)(E:XK)(ta:TE)(t:TA):TE:=fun σ H Q=>ta σ H fun x H1=>∃ a dx fs,x=.ref a/\H1 a=some (.ins C dx fs)/\fs.lookup m=none /\
 t σ H1 fun vs H2=>sp (x::(vs ++ dvs)) H2 Q E
def VQ(C:Addr)(sp:Sp)(dvs:List V)(E:XK)(t:TA):TE:=fun σ H Q=>t σ H fun vs H1=>∀ x dx,H1 x=none->H1 dx=none->dx≠x ->
 sp (.ref x::(vs ++ dvs)) (upd (upd H1 dx (.own x)) x (.ins C dx [])) (fun v H2=>v=.non/\Q (.ref x) H2) E
def Binds(K:rC)(fd:FuncData)(ps:List Str)(ds:List Value):Prop :=
 ∀(s:Shared) (us:List Value),K.In s.heap->(us ++ ds).length=ps.length->BindsTo s fd ⟨us,[]⟩ (ps.zip (us ++ ds))
theorem Binds.all{K:rC}{fd:FuncData}{ps:List Str}(h:∀ us:List Value,us.length=ps.length->bindArgs fd ⟨us,[]⟩=pure (ps.zip us)):Binds K fd ps []:=fun s us _ hl=>by
 rw[aX] at hl ⊢
 exact .of_eq (h us hl)
def ub(CX:CXT)(X:Cx)(E:XK):Prop:=∀(pins:List (Addr × Obj)) (σ:St) (H:Hp) (s:Shared) (e:Value) (s':Shared),Inv X pins σ H s->CX X.stack H s E e s'->X.xe e s'
section
variable{X:Cx}{CX:CXT}{k:Nat}{f C:Addr}{fd:FuncData}{ps:List Str}{sp:Sp}{dvs:List V}{ds:List Value}{E:XK}{x m:Str}{p pos apos:Pos}{e o:Expr}{es:List Expr}{ta:TE}{t:TA}
theorem qM{pins:List (Addr × Obj)}{σ:St}{H:Hp}{s:Shared}{Q:VK}{us:List Value}{vs:List V}(F:FnOk X.prog X.w X.K X.mg X.base CX k f fd ps sp)(hr:Room k X.A)(hb:Binds X.K fd ps ds)(hd:Vals dvs ds)(hx:ub CX X E)
  (I:Inv X pins σ H s) (r:Vals vs us) (h:sp (vs ++ dvs) H Q E):wpAny (model X.prog X.w) X.A (call (.ref f) us) (EP X pins σ Q) X.xe s:=by
 have r2:Vals (vs ++ dvs) (us ++ ds):=r.append hd
 have hl:(us ++ ds).length=ps.length:=by rw[<- r2.length];exact F.len _ _ _ _ h
 refine wpAny_call (codeAny_mono (F.run X.A X.stack s H ⟨us,[]⟩ (us ++ ds) (vs ++ dvs) Q E hr I.env0 (hb s us I.kIn hl) r2 h) fun r s' hq=>?_)
 cases r with
 | error e=>exact hx pins σ H s e s' I hq
 | ok fl =>
  cases fl with
  | ret u=>exact I.after hq
  | next=>exact False.elim hq
  | brk=>exact False.elim hq
  | cont=>exact False.elim hq
theorem XG(F:FnOk X.prog X.w X.K X.mg X.base CX k f fd ps sp)(hr:Room k X.A)(hg:Gl X x)(hm:X.mg x=some (.ref f))(hk:aG X.K (.ref f)=true)(hb:Binds X.K fd ps ds)(hd:Vals dvs ds)(hx:ub CX X E)
  (ha:PA X (e::es) t) (hdb:(x == ("__debug__" : Str))=false:=by decide) (he:rA (e::es) X.env=(false,eval e X.env)::rA es X.env:=by rfl) (hpl:(backTo pos (rA es X.env)).any (·.1)=false:=by rfl) :
  PE X (.Call (.Name x p) (e::es) [] pos) (je sp dvs E t):=by
 intro pins s σ H Q I h
 refine wpAny_Call_Name_kw (wK I hg hm ?_ hdb)
 refine bI (h₀:=X.base) I.ok.mod.kin hk (thn (ha pos pins s σ H _ I h) fun us s1 ⟨vs,H1,I1,r,q⟩=>⟨I1.kIn,?_⟩) he hpl
 exact qM F hr hb hd hx I1 r q
theorem YX{pl:Sem Bool}(he:PE X o ta)(c:Cls X.K C)(hm:QI X.K C m f)(F:FnOk X.prog X.w X.K X.mg X.base CX k f fd ps sp)(hr:Room k X.A)(hb:Binds X.K fd ps ds)(hd:Vals dvs ds)(hx:ub CX X E)(ha:PA X (e::es) t)
    (hst:rA (e::es) X.env=(false,eval e X.env)::rA es X.env:=by rfl) (hpl:(backTo pos (rA es X.env)).any (·.1)=false:=by rfl)
    (ht:eval (.Call (.Attribute o m apos) (e::es) [] pos) X.env=(do
      let ov <- eval o X.env
      standAt apos.atName
      let (f,first) <- holding [ov] (getMethod ov m pl)
      callWith pos f first (backTo pos (rA (e::es) X.env)) (backToKw pos (keywordEach [] X.env))):=by rfl) :
    PE X (.Call (.Attribute o m apos) (e::es) [] pos) (qx C m sp dvs E ta t):=by
  intro pins s σ H Q I h
  refine bU (pl:=pl) (thn (he pins s σ H _ I h) fun u s1 ⟨x,H1,I1,rx,a,dx,fs,ex,ea,l,q⟩=>?_) ht
  subst ex
  obtain rfl:u=Value.ref a:=rx
  refine y0 I1 ea c hm l ?_
  refine bI (first:=[.ref a]) (h₀:=X.base) I.ok.mod.kin hm.kp (thn (ha pos pins s1 σ H1 _ I1 q) fun us s2 ⟨vs,H2,I2,r,q2⟩=>⟨I2.kIn,?_⟩) hst hpl
  exact qM (us:=.ref a::us) (vs:=.ref a::vs) F hr hb hd hx I2 (.cons rfl r) q2
theorem Vv{pl:Sem Bool}(he:PE X o ta)(c:Cls X.K C)(hm:QI X.K C m f)(F:FnOk X.prog X.w X.K X.mg X.base CX k f fd ps sp)(hr:Room k X.A)(hb:Binds X.K fd ps ds)(hd:Vals dvs ds)(hx:ub CX X E)
    (ht:eval (.Call (.Attribute o m apos) [] [] pos) X.env=(do
      let ov <- eval o X.env
      standAt apos.atName
      let (f,first) <- holding [ov] (getMethod ov m pl)
      callWith pos f first (backTo pos (rA [] X.env)) (backToKw pos (keywordEach [] X.env))):=by rfl) :
    PE X (.Call (.Attribute o m apos) [] [] pos) (qx C m sp dvs E ta wQ):=by
  intro pins s σ H Q I h
  refine bU (pl:=pl) (thn (he pins s σ H _ I h) fun u s1 ⟨x,H1,I1,rx,a,dx,fs,ex,ea,l,q⟩=>?_) ht
  subst ex
  obtain rfl:u=Value.ref a:=rx
  refine y0 I1 ea c hm l ?_
  exact e9 (first:=[.ref a]) I1.kIn hm.kp (qM (us:=[.ref a]) (vs:=[.ref a]) F hr hb hd hx I1 (.cons rfl .nil) q)
structure Mk(K:rC)(C f:Addr):Prop where
 makes:cy K C=true
 init:ac K (.ref C) "__init__" = some (some (.ref f))
 fn:aQ K (.ref f)=true
 kp:aG K (.ref C)=true
theorem VG{pins:List (Addr × Obj)}{σ:St}{H:Hp}{s:Shared}{Q:VK}{us:List Value}{vs:List V}(M:Mk X.K C f)(F:FnOk X.prog X.w X.K X.mg X.base CX k f fd ps sp)(hr:Room (k+1) X.A)(hb:Binds X.K fd ps ds)(hd:Vals dvs ds)
  (hx:ub CX X E) (I:Inv X pins σ H s) (r:Vals vs us)
  (h:∀ x dx,H x=none->H dx=none->dx≠x->sp (.ref x::(vs ++ dvs)) (upd (upd H dx (.own x)) x (.ins C dx [])) (fun v H2=>v=.non/\Q (.ref x) H2) E) :
  wpAny (model X.prog X.w) X.A (call (.ref C) us) (EP X pins σ Q) X.xe s:=by
 have hq:=h (s.heap.objs.size+1) s.heap.objs.size (I.hok.fresh (cN _)) (I.hok.fresh (ar _)) (ay (Nat.lt_succ_self _))
 have I2:=Inv.made (C:=C) I
 have r2:Vals (V.ref (s.heap.objs.size+1)::(vs ++ dvs)) (Value.ref (s.heap.objs.size+1)::(us ++ ds)):=.cons rfl (r.append hd)
 have hl:(Value.ref (s.heap.objs.size+1)::us ++ ds).length=ps.length:=by
  have e:=r2.length
  rw[F.len _ _ _ _ hq] at e
  exact e.symm
 refine wpAny_call (Vt (f:=f) I.kIn M.makes M.init (beq_iff_eq.mp M.fn) (codeAny_mono (F.run _ X.stack _ _ ⟨Value.ref (s.heap.objs.size+1)::us,[]⟩ (Value.ref (s.heap.objs.size+1)::(us ++ ds)) _ _ E (hr.make C us [])
  (I2.env0.make C us []) (hb _ (Value.ref (s.heap.objs.size+1)::us) I2.kIn hl) r2 hq) fun r s' hq'=>?_))
 cases r with
 | error e=>exact hx pins σ _ _ e s' I2 hq'
 | ok fl =>
  cases fl with
  | ret u =>
   obtain⟨v,H',I3,rv,ev,q3⟩:=I2.after hq'
   subst ev
   exact⟨rv,⟨V.ref (s.heap.objs.size+1),H',I3,rfl,q3⟩⟩
  | next=>exact False.elim hq'
  | brk=>exact False.elim hq'
  | cont=>exact False.elim hq'
theorem Y7(M:Mk X.K C f)(F:FnOk X.prog X.w X.K X.mg X.base CX k f fd ps sp)(hr:Room (k+1) X.A)(hg:Gl X x)(hm:X.mg x=some (.ref C))(hb:Binds X.K fd ps ds)(hd:Vals dvs ds)(hx:ub CX X E)
  (ha:PA X (e::es) t) (hdb:(x == ("__debug__" : Str))=false:=by decide) (he:rA (e::es) X.env=(false,eval e X.env)::rA es X.env:=by rfl) (hpl:(backTo pos (rA es X.env)).any (·.1)=false:=by rfl) :
  PE X (.Call (.Name x p) (e::es) [] pos) (VQ C sp dvs E t):=by
 intro pins s σ H Q I h
 refine wpAny_Call_Name_kw (wK I hg hm ?_ hdb)
 refine bI (h₀:=X.base) I.ok.mod.kin M.kp (thn (ha pos pins s σ H _ I h) fun us s1 ⟨vs,H1,I1,r,q⟩=>⟨I1.kIn,?_⟩) he hpl
 exact VG M F hr hb hd hx I1 r q
end
def PK(X:Cx)(kws:List Keyword)(t:TA):Prop :=
 ∀(pos:Pos) (pins:List (Addr × Obj)) (s:Shared) (σ:St) (H:Hp) (Q:List V->Hp->Prop),Inv X pins σ H s->t σ H Q->wpAny (model X.prog X.w) X.A (evalAll ((backToKw pos (keywordEach kws X.env)).map (·.2))) (AP X pins σ Q) X.xe s
section
variable{X:Cx}{CX:CXT}{k:Nat}{f C:Addr}{fd:FuncData}{ps ks:List Str}{sp:Sp}{E:XK}{x m:Str}{p pos apos kpos:Pos}{e o:Expr}{es:List Expr}{kws:List Keyword}{te ta:TE}{t tk:TA}{nm:Option Str}
theorem VY:PK X [] wQ:=fun _ _ _ _ H Q I h=>wpAny_evalAll_nil ⟨[],H,I,.nil,h⟩
theorem Xi(ha:PE X e te)(hr:PK X kws t):PK X (⟨nm,e,kpos⟩::kws) (zN te t):=by
 intro pos pins s σ H Q I h
 show wpAny _ _ (evalAll ((do let v <- eval e X.env;standAt pos;pure v)::(backToKw pos (keywordEach kws X.env)).map (·.2))) _ _ s
 refine wpAny_evalAll_cons (ro (thn (ha pins s σ H _ I h) fun u s1 ⟨x,H1,I1,r1,q1⟩=>ro (wpAny_standAt (rp ?_))))
 exact thn (hr pos pins s1 σ H1 _ I1 q1) fun us s2 ⟨xs,H2,I2,r2,q2⟩=>⟨x::xs,H2,I2,.cons r1 r2,q2⟩
variable{g:List Value->List Value->List Value}{gV:List V->List V->List V}
end
structure zm(N P:List Str)(sc:Scope):Prop where
 kind:sc.kind=.function
 co:sc.isCoroutine=false
 gen:sc.isGenerator=false
 nd:N.Nodup
 pre:N.take P.length=P
 par:∀ x ∈ P,sc.names.lookup x=some .local\/sc.names.lookup x=some .cell
 nofree:∀ y ∈ sc.names,y.2≠.free
theorem jM{kindOf:Str->Option NameKind}{x:Str}:∀{binds:List (Str × Value)} {m:Str->Option Value},(∀ v,(x,v) ∉ binds)->bindL kindOf binds m x=m x
  | [],_,_=>rfl
  | (n,v)::r,m,h=>by
    unfold bindL
    rw[jM fun w hw=>h w (aw _ hw)]
    split
    . have:x≠n:=by rintro rfl;exact h v aD
      simp [this]
    . rfl
theorem kg{kindOf:Str->Option NameKind}{x:Str}:∀{binds:List (Str × Value)} {m:Str->Option Value},(∀ v,(x,v) ∉ binds)->bindC kindOf binds m x=m x
  | [],_,_=>rfl
  | (n,v)::r,m,h=>by
    unfold bindC
    rw[kg fun w hw=>h w (aw _ hw)]
    split
    . rfl
    . have:x≠n:=by rintro rfl;exact h v aD
      simp [this]
theorem kh{kindOf:Str->Option NameKind}{x:Str}{v:Value}:∀{P:List Str} {vs:List Value} {i:Nat} {m:Str->Option Value},P.Nodup->P[i]? = some x->vs[i]? = some v->kindOf x=some .local ->
  bindL kindOf (P.zip vs) m x=some v
 | [],_,_,_,_,h,_,_=>by simp at h
 | _::_,[],_,_,_,_,h,_=>by simp at h
 | p::P,w::vs,0,m,nd,h1,h2,hk=>by
  simp at h1 h2;subst h1;subst h2
  show bindL kindOf ((p,w)::P.zip vs) m p=_
  unfold bindL
  rw[jM fun v hv=>(rN.mp nd).1 (eI hv).1,if_pos hk]
  simp
 | p::P,w::vs,i+1,m,nd,h1,h2,hk=>by
  show bindL kindOf ((p,w)::P.zip vs) m x=_
  unfold bindL
  exact kh (i:=i) (rN.mp nd).2 (by simpa using h1) (by simpa using h2) hk
theorem j0{kindOf:Str->Option NameKind}{x:Str}{v:Value}:∀{P:List Str} {vs:List Value} {i:Nat} {m:Str->Option Value},P.Nodup->P[i]? = some x->vs[i]? = some v->kindOf x≠some .local ->
  bindC kindOf (P.zip vs) m x=some v
 | [],_,_,_,_,h,_,_=>by simp at h
 | _::_,[],_,_,_,_,h,_=>by simp at h
 | p::P,w::vs,0,m,nd,h1,h2,hk=>by
  simp at h1 h2;subst h1;subst h2
  show bindC kindOf ((p,w)::P.zip vs) m p=_
  unfold bindC
  rw[kg fun v hv=>(rN.mp nd).1 (eI hv).1,if_neg hk]
  simp
 | p::P,w::vs,i+1,m,nd,h1,h2,hk=>by
  show bindC kindOf ((p,w)::P.zip vs) m x=_
  unfold bindC
  exact j0 (i:=i) (rN.mp nd).2 (by simpa using h1) (by simpa using h2) hk
noncomputable def start(N:List Str)(vs:List V):St:=vs.map some ++ ak (N.length - vs.length) none
noncomputable def uq(CX:CXT)(P:Program)(w:World)(K:rC)(mg:Str->Option Value)(base:Heap)(N:List Str)(qual:Str)(scope:Scope)(f:Addr)(cd:Value)(A:Around)(outer:List Env)(s:Shared)(H:Hp)(E:XK):Cx where
 prog:=P
 w:=w
 K:=K
 mg:=mg
 base:=base
 A:=A.deeper (envOfC qual scope s.heap.objs.size f cd)
 N:=N
 s₀:=s
 H₀:=H
 env:=envOfC qual scope s.heap.objs.size f cd
 outer:=outer
 stack:=envOfC qual scope s.heap.objs.size f cd::outer
 ex:=[]
 calm:=true
 fn:=fun _=>true
 pn:=[]
 xe:=fun e s'=>wpAny (model P w) (A.deeper (envOfC qual scope s.heap.objs.size f cd)) (leaving (envOfC qual scope s.heap.objs.size f cd) e) (fun _ s''=>CX outer H s E e s'') (fun e' s''=>CX outer H s E e' s'') s'
theorem Z6{sc:Scope}{n:Nat}{x:Str}(h:sc.names.lookup x=some .cell):∃ c,(cellsFrom n sc.names []).lookup x=some c:=by
 have q:=eL sc.names n [] (.inl h)
 exact rR.mp q
theorem Xr{CX:CXT}{P:Program}{w:World}{K:rC}{mg:Str->Option Value}{base:Heap}{N ps:List Str}{qual:Str}{scope:Scope}{f:Addr}{cd:Value}{A:Around}{outer:List Env}{s s1:Shared}{H:Hp}{E:XK}{us:List Value}{vs:List V}
  (S:zm N ps scope) (hd:A.handled=none) (e0:Env0 P w K mg base A outer s H) (hl:vs.length=ps.length) (r:Vals vs us)
  (x:InCallC s s.heap.objs.size (bindL (envOfC qual scope s.heap.objs.size f cd).kindOf (ps.zip us) fun _=>none) (cellsFrom (s.heap.objs.size+1) scope.names []) (bindC (envOfC qual scope s.heap.objs.size f cd).kindOf (ps.zip us) fun _=>none) s1) :
  Inv (uq CX P w K mg base N qual scope f cd A outer s H E) [] (start N vs) H s1:=by
 have hpl:ps.length<=N.length:=by have:=congrArg List.length S.pre;rw[aO] at this;lia
 obtain⟨h1,tk,rfl,hk⟩:=x.done
 have noA:∀ b:Addr,b ∉ (uq CX P w K mg base N qual scope f cd A outer s H E).ex:=fun b z=>absurd (show b ∈ ([]:List Addr) from z) (by simp)
 refine⟨⟨e0.mod,S.kind,rfl,rfl,ar _,fun y z c h1 h2=>?_,fun y hy=>?_,fun y c _ h=>?_,fun _=>hd,Around.frames_deeper e0.frames,.inr ⟨rfl,rfl⟩,fun b z=>absurd z (noA b),e0.bs,e0.bsz,fun b _ _=>noA b,fun b z=>absurd z (noA b),e0.funs,e0.frf⟩,
  rfl,e0.bare,Un.kept hk,⟨_,x.toInCall.ns,fun i y v h1 h2 h3=>?_⟩,fun y c h=>⟨_,x.cell y c h⟩,e0.hok.fresh (ar _),fun y c h=>?_,fun p hp=>absurd (show p ∈ ([]:List (Addr × Obj)) from hp) (by simp),e0.hok.kept hk,?_⟩
 ·exact name_of_addr x.apart (bQ h1) (bQ h2)
 ·have hy:scope.names.lookup y=some .cell\/scope.names.lookup y=some .free:=hy
  rcases hy with hy | hy
  ·exact Z6 hy
  ·exact absurd rfl (S.nofree _ (bQ hy))
 ·exact df (x.above y c (bQ h))
 ·have hi:i<vs.length:=by
   unfold start at h2
   by_cases hi:i<vs.length
   ·exact hi
   ·rw[bo (by simpa using hi)] at h2
    rw[eD] at h2
    split at h2 <;> cases h2
  have ha:vs[i]? = some v:=by
   unfold start at h2
   rw[bc (by simpa using hi),au] at h2
   cases e:vs[i]? with
   | none=>rw[e] at h2;cases h2
   | some a=>rw[e] at h2;cases h2;rfl
  obtain⟨u,hu,rv⟩:=r.get ha
  have hp:ps[i]? = some y:=by
   rw[<- S.pre,List.getElem?_take_of_lt (by lia)];exact h1
  have ndP:ps.Nodup:=by rw[<- S.pre];exact S.nd.sublist (List.take_sublist _ _)
  refine⟨u,rv,?_⟩
  rcases S.par y (ae hp) with k | k
  ·exact .inl ⟨k,kh ndP hp hu k⟩
  ·obtain⟨c,e⟩:=Z6 (n:=s.heap.objs.size+1) k
   refine .inr ⟨.inl k,c,e,?_⟩
   have q:=x.cell y c e
   rw[j0 ndP hp hu (by show scope.names.lookup y≠_;rw[k];decide)] at q
   exact q
 ·exact e0.hok.fresh (df (x.above y c (bQ h)))
 ·unfold start
  show _=N.length
  rw[am,aa,bG]
  lia
theorem Vh{CX:CXT}{P:Program}{w:World}{K:rC}{mg:Str->Option Value}{base:Heap}{k:Nat}{f:Addr}{name qual:Str}{params:Arguments}{body:List Stmt}{scope:Scope}{dV kV doc pm cdv ct oc:Value}{an od:Option Addr}
  {osl:Array (Option Value)} {N ps:List Str} {sp:Sp} (lk:K.lookup f=some ⟨oc,od,.func (aZ name qual params body scope dV kV doc pm an cdv ct),osl⟩) (hcd:bz K cdv qual=true) (S:zm N ps scope)
  (len:∀ vs H Q E,sp vs H Q E->vs.length=ps.length)
  (hbody:∀(A:Around) (outer:List Env) (s:Shared) (H:Hp) (vs:List V) (Q:VK) (E:XK),Room k (A.deeper (envOfC qual scope s.heap.objs.size f cdv))->sp vs H Q E ->
   ∃ t,PSs (uq CX P w K mg base N qual scope f cdv A outer s H E) body t/\t { nx:=fun _ H'=>Q .non H',rt:=Q } (start N vs) H) :
  FnOk P w K mg base CX (k+1) f (aZ name qual params body scope dV kV doc pm an cdv ct) ps sp:=by
 refine⟨len,fun A outer s H args us vs Q E hr e0 hb r hsp=>?_⟩
 have hl:=len _ _ _ _ hsp
 have KX:K.In s.heap:=e0.mod.kin.keeps fun b o e=>(e0.bs b o e).1
 have lim:s.heap.NoLimit:=e0.mod.nolimit.keeps fun b o e=>(e0.bs b o e).1
 have hkind:∀ y ∈ ps.zip us,scope.names.lookup y.1=some .local\/(scope.names.lookup y.1=some .cell/\((cellsFrom (s.heap.objs.size+1) scope.names []).lookup y.1).isSome=true):=fun⟨n,v⟩ hy=>by
  rcases S.par n (eI hy).1 with q | q
  ·exact .inl q
  ·exact .inr ⟨q,eL _ _ _ (.inl q)⟩
 refine codeAny_call_function hr.depth (KX _ _ lk) rfl S.co S.gen rfl (PySem.W.codeRec_of KX hcd) (hb _ _ _ _ ?_)
 refine wpAny_newFunctionEnv_cells S.kind hkind fun env he s1 x=>?_
 subst he
 refine⟨lim.keeps x.toInCall.keep,codeAny_func ?_⟩
 obtain⟨t,ht,hq⟩:=hbody A outer s H vs Q E (hr.deeper _) hsp
 have I:Inv (uq CX P w K mg base N qual scope f cdv A outer s H E) [] (start N vs) H s1:=Xr S hr.hd e0 hl r x
 refine wpAny_mono (ht [] s1 (start N vs) H _ I hq) (fun fl s' hs=>?_) fun e s' hs=>hs
 have fin:∀{σ':St} {H':Hp} {v:V} {u:Value},Inv (uq CX P w K mg base N qual scope f cdv A outer s H E) [] σ' H' s'->RelV v u->Q v H'->CE outer P w H s Q u s' :=
  fun {σ' H' v u} J rv q=>⟨v,H',J.os,J.bare,J.base,J.hok,rv,q⟩
 cases fl with
 | ret u =>
  obtain⟨v,σ',H',J,rv,q⟩:=hs
  exact fin J rv q
 | next =>
  obtain⟨σ',H',J,q⟩:=hs
  exact fin (v:=V.non) (u:=Value.none) J rfl q
 | brk =>
  obtain⟨_,_,_,q⟩:=hs
  exact False.elim q
 | cont =>
  obtain⟨_,_,_,q⟩:=hs
  exact False.elim q
end L2
namespace L2
section
variable{X:Cx}{x:Str}{p pos:Pos}{e:Expr}{es:List Expr}{t:TA}{id T:String}{r:List V->Hp->VK->Prop}
def tCB(r:List V->Hp->VK->Prop)(t:TA):TE:=fun σ H Q=>t σ H fun vs H1=>r vs H1 Q
theorem zo(hc:ui X (.builtin id) r)(hg:Gl X x)(hm:X.mg x=none)(hv:bootBuiltins x=some (.builtin id))(ha:PA X (e::es) t)(hn:x≠"__name__":=by decide)(hdb:(x == ("__debug__" : Str))=false:=by decide)
  (he:rA (e::es) X.env=(false,eval e X.env)::rA es X.env:=by rfl) (hpl:(backTo pos (rA es X.env)).any (·.1)=false:=by rfl):PE X (.Call (.Name x p) (e::es) [] pos) (tCB r t):=by
 intro pins s σ H Q I h
 refine wpAny_Call_Name_kw (ug I hg hm hv ?_ hn hdb)
 exact PyProof.Rows.callWith_builtin1 (thn (ha pos pins s σ H _ I h) fun us s1 ⟨vs,H1,I1,r1,q1⟩=>hc pins s1 σ H1 vs us Q I1 r1 q1) he hpl
theorem ve(hc:ui X (.type T) r)(hg:Gl X x)(hm:X.mg x=none)(hv:bootBuiltins x=some (.type T))(ha:PA X (e::es) t)(hn:x≠"__name__":=by decide)(hdb:(x == ("__debug__" : Str))=false:=by decide)
  (he:rA (e::es) X.env=(false,eval e X.env)::rA es X.env:=by rfl) (hpl:(backTo pos (rA es X.env)).any (·.1)=false:=by rfl):PE X (.Call (.Name x p) (e::es) [] pos) (tCB r t):=by
 intro pins s σ H Q I h
 refine wpAny_Call_Name_kw (ug I hg hm hv ?_ hn hdb)
 exact cw (thn (ha pos pins s σ H _ I h) fun us s1 ⟨vs,H1,I1,r1,q1⟩=>hc pins s1 σ H1 vs us Q I1 r1 q1) he hpl
end
end L2
namespace HT
open PySem PyProof.Rows
section
open PySem.SeqAt
open PySem.AutoSeq1 (wpAny_loadPart')
open PySem.MeetsSeq PySem.MeetsSeq2 PySem.MeetsSeq3
end
section
variable{prog:Program}{w:World}{A:Around}{E:Value->Shared->Prop}{s:Shared}
noncomputable def sIx(n d:Nat):Option Int->Nat
 | none=>d
 | some v=>if v<0 then (v+(n:Int)).toNat else min v.toNat n
theorem sIx_none(n d:Nat):sIx n d none=d:=rfl
theorem sIx_nat(n d k:Nat):sIx n d (some (k:Int))=min k n:=by
 show (if (k:Int)<0 then ((k:Int)+(n:Int)).toNat else min (k:Int).toNat n)=min k n
 rw[if_neg (by lia),aL]
theorem sIx_le(n d:Nat)(hd:d<=n)(o:Option Int):sIx n d o<=n:=by
 cases o with
 | none=>exact hd
 | some v =>
  show (if v<0 then (v+(n:Int)).toNat else min v.toNat n)<=n
  by_cases hv:v<0
  ·rw[if_pos hv];lia
  ·rw[if_neg hv];exact Nat.min_le_right _ _
end
end HT
namespace L2
noncomputable abbrev TO:=St->Hp->(Option Int->Hp->Prop)->Prop
def PO(X:Cx)(e:Option Expr)(t:TO):Prop :=
 ∀(pins:List (Addr × Obj)) (s:Shared) (σ:St) (H:Hp) (Q:Option Int->Hp->Prop),Inv X pins σ H s->t σ H Q ->
  wpAny (model X.prog X.w) X.A (evalPart e X.env) (fun u s'=>∃ o H',Inv X pins σ H' s'/\IsPart u o/\Q o H') X.xe s
def XD:TO:=fun _ H Q=>Q none H
def JK(t:TE):TO:=fun σ H Q=>t σ H fun x H1=>∃ i,x=.int i/\Q (some i) H1
section
variable{X:Cx}{e:Expr}{te:TE}{lo hi:Option Expr}{tl th:TO}{pos p2:Pos}
theorem xI:PO X none XD:=by
 intro pins s σ H Q I h
 rw[evalPart_none]
 exact rp ⟨none,H,I,.none,h⟩
theorem yw(h:PE X e te):PO X (some e) (JK te):=by
 intro pins s σ H Q I hw
 rw[evalPart_some]
 refine thn (h pins s σ H _ I hw) fun u s1 ⟨x,H1,I1,r1,q1⟩=>?_
 obtain⟨i,rfl,q⟩:=q1
 obtain⟨t,rfl⟩:=r1
 exact⟨some i,H1,I1,.int i t,q⟩
def SlR(X:Cx)(r:V->Option Int->Option Int->Hp->VK->Prop):Prop :=
 ∀(pins:List (Addr × Obj)) (s:Shared) (σ:St) (H:Hp) (x:V) (v vl vu:Value) (lo hi:Option Int) (sl:Addr) (Q:VK),Inv X pins σ H s->RelV x v->s.heap.IsSliceOf sl vl vu .none->IsPart vl lo->IsPart vu hi->r x lo hi H Q ->
  ∃ T id,typeLookup (.type T) "__getitem__" = pure (some (.builtin id))/\s.TypeIs v T/\wpAny (model X.prog X.w) X.A (getItem v (.ref sl)) (EP X pins σ Q) X.xe s
theorem SlR.or{r r':V->Option Int->Option Int->Hp->VK->Prop}(h:SlR X r)(h':SlR X r'):SlR X (fun x lo hi H Q=>r x lo hi H Q\/r' x lo hi H Q):=by
 intro pins s σ H x v vl vu lo hi sl Q I rx hs pl pu q
 rcases q with q | q
 ·exact h pins s σ H x v vl vu lo hi sl Q I rx hs pl pu q
 ·exact h' pins s σ H x v vl vu lo hi sl Q I rx hs pl pu q
def tSl(r:V->Option Int->Option Int->Hp->VK->Prop)(te:TE)(tl th:TO):TE:=fun σ H Q=>te σ H fun x H1=>tl σ H1 fun l H2=>th σ H2 fun u H3=>r x l u H3 Q
theorem yq{r:V->Option Int->Option Int->Hp->VK->Prop}(hr:SlR X r)(he:PE X e te)(hl:PO X lo tl)(hu:PO X hi th):PE X (.Subscript e (.Slice lo hi none p2) pos) (tSl r te tl th):=by
 intro pins s σ H Q I h
 refine Subscript_ (thn (he pins s σ H _ I h) fun v s1 ⟨x,H1,I1,r1,q1⟩=>?_)
 refine wpAny_Slice (thn (hl pins s1 σ H1 _ I1 q1) fun vl s2 ⟨l,H2,I2,pl,q2⟩=>thn (hu pins s2 σ H2 _ I2 q2) fun vu s3 ⟨u,H3,I3,pu,q3⟩=>?_)
 rw[evalPart_none]
 refine rp ?_
 have I4:Inv X pins σ H3 { s3 with heap:=s3.heap.push { cls:=.type "slice",data:=.fields #[vl,vu,.none] } }:=I3.kept (t':=s3.toks) fun b ob q=>af _ q
 obtain⟨T,id,hT,ht,hg⟩:=hr pins { s3 with heap:=s3.heap.push { cls:=.type "slice",data:=.fields #[vl,vu,.none] } } σ H3 x v vl vu l u s3.heap.objs.size Q I4 r1 (Heap.IsSliceOf.new ..) pl pu q3
 show wpAny (model X.prog X.w) X.A (subscriptTail e (.Slice lo hi none p2) v (.ref s3.heap.objs.size)) (EP X pins σ Q) X.xe { s3 with heap:=s3.heap.push { cls:=.type "slice",data:=.fields #[vl,vu,.none] } }
 exact tail_any (ops:=[.ref s3.heap.objs.size,v]) ht hT hg (by with_unfolding_all rfl)
noncomputable def YB(xs:List V)(lo hi:Option Int):List V:=(xs.drop (HT.sIx xs.length 0 lo)).take (HT.sIx xs.length xs.length hi - HT.sIx xs.length 0 lo)
theorem kQ(xs:List V)(lo hi:Option Int):(YB xs lo hi).length<=xs.length:=by
 unfold YB
 rw[aO,bJ]
 lia
end
end L2
namespace L2
noncomputable def ixN(n:Nat)(i:Int):Option Nat:=if 0<=i then (if i<n then some i.toNat else none) else if -(n:Int)<=i then some (i+n).toNat else none
noncomputable def atI{α:Type}(xs:List α)(i:Int):Option α:=(ixN xs.length i).bind fun j=>xs[j]?
theorem UF{n:Nat}{i:Int}{j:Nat}(h:ixN n i=some j):seqIndex? i n=some j/\j<n/\-(n:Int)<=i/\i<n:=by
 unfold ixN at h
 by_cases h0:0<=i
 ·rw[if_pos h0] at h
  by_cases h1:i<n
  ·rw[if_pos h1] at h
   have e:i.toNat=j:=Option.some.inj h
   exact⟨by rw[seqIndex_of h0 h1,e],by lia,by lia,h1⟩
  ·rw[if_neg h1] at h;cases h
 ·rw[if_neg h0] at h
  by_cases h1:-(n:Int)<=i
  ·rw[if_pos h1] at h
   have e:(i+n).toNat=j:=Option.some.inj h
   exact⟨by rw[seqIndex_neg (by lia) h1,e],by lia,h1,by lia⟩
  ·rw[if_neg h1] at h;cases h
theorem Zk{α:Type}{xs:List α}{i:Int}{v:α}(h:atI xs i=some v):∃ j,seqIndex? i xs.length=some j/\xs[j]? = some v/\j<xs.length/\-(xs.length:Int)<=i/\i<xs.length:=by
 unfold atI at h
 cases e:ixN xs.length i with
 | none=>rw[e] at h;cases h
 | some j =>
  rw[e] at h
  obtain⟨h1,h2,h3,h4⟩:=UF e
  exact⟨j,h1,h,h2,h3,h4⟩
theorem ji{α:Type}{xs:List α}{j:Nat}{v:α}(h:xs[j]? = some v):atI xs (j:Int)=some v:=by
 have hj:j<xs.length:=(rD.mp h).1
 have e:ixN xs.length (j:Int)=some j:=by
  unfold ixN
  rw[if_pos (by lia),if_pos (by lia)];simp
 unfold atI;rw[e];exact h
theorem W6{α:Type}(xs:List α)(v:α):atI (xs ++ [v]) (-1)=some v:=by
 have hl:(xs ++ [v]).length=xs.length+1:=by simp
 have e:ixN (xs ++ [v]).length (-1)=some xs.length:=by
  unfold ixN
  rw[hl,if_neg (by decide),if_pos (by lia)]
  congr 1
  lia
 unfold atI
 rw[e]
 show (xs ++ [v])[xs.length]? = some v
 simp
def UH(b:Expr):Prop:=∀ o i,subscripted b false o i=operate [o,i] (getItem o i)
def IxR(X:Cx)(r:R2):Prop :=
 ∀(value slice:Expr) (pins:List (Addr × Obj)) (s:Shared) (σ:St) (H:Hp) (x y:V) (v u:Value) (Q:VK),Inv X pins σ H s->RelV x v->RelV y u->r x y H Q ->
  subscripted slice false v u=operate [v,u] (getItem v u)->wpAny (model X.prog X.w) X.A (subscriptTail value slice v u) (EP X pins σ Q) X.xe s
def MtR(X:Cx)(id:String)(r:V->List V->Hp->VK->Prop):Prop :=
 ∀(pins:List (Addr × Obj)) (s:Shared) (σ:St) (H:Hp) (x:V) (xs:List V) (v:Value) (us:List Value) (Q:VK),Inv X pins σ H s->RelV x v->Vals xs us->r x xs H Q ->
  wpAny (model X.prog X.w) X.A (call (.builtin id) (v::us)) (EP X pins σ Q) X.xe s
section
variable{X:Cx}{a b:Expr}{ta tb:TE}{pos:Pos}
theorem IxR.or{r r':R2}(h:IxR X r)(h':IxR X r'):IxR X (fun x y H Q=>r x y H Q\/r' x y H Q):=by
 intro value slice pins s σ H x y v u Q I rx ry q hs
 rcases q with q | q
 ·exact h value slice pins s σ H x y v u Q I rx ry q hs
 ·exact h' value slice pins s σ H x y v u Q I rx ry q hs
theorem zV{r:R2}(hr:IxR X r)(ha:PE X a ta)(hb:PE X b tb)(hs:UH b):PE X (.Subscript a b pos) (tOp r ta tb):=by
 intro pins s σ H Q I h
 exact Subscript_ (KR ha hb I h fun v u s2 x y H2 I2 rx ry q=>hr a b pins s2 σ H2 x y v u Q I2 rx ry q (hs _ _))
def J4(K:rC):R2:=fun x y H Q=>∃ p xs i v,x=.ref p/\y=.int i/\SqL K H p xs/\atI xs i=some v/\Q v H
def QD(K:rC):R2:=fun x y H Q=>∃ p xs i v,x=.ref p/\y=.int i/\SqT K H p xs/\atI xs i=some v/\Q v H
def J9:R2:=fun x y H Q=>∃ z i c,x=.str z/\y=.int i/\z.length<=rB/\atI z.cps.toList i=some c/\Q (.str ⟨#[c]⟩) H
theorem ix_list:IxR X (J4 X.K):=by
 intro value slice pins s σ H x y v u Q I rx ry h hs
 obtain⟨p,xs,i,z,rfl,rfl,hq,he,q⟩:=h
 cases rx
 obtain⟨t,rfl⟩:=ry
 obtain⟨its,r,pl,hz⟩:=I.list hq
 obtain⟨j,h1,h2,h3,h4,h5⟩:=Zk he
 obtain⟨w,ew,rw'⟩:=r.get h2
 have hl:=r.length
 have hn:=jX
 have fin:EP X pins σ Q w s:=⟨z,H,I,rw',q⟩
 by_cases h0:0<=i
 ·have hj:i.toNat=j:=by
   rw[seqIndex_of h0 h5] at h1
   exact Option.some.inj h1
  exact item_listR pl.isList h0 (by lia) (by rw[hj];simpa using ew) fin hs
 ·have hj:(i+(its.toArray.size:Int)).toNat=j:=by
   rw[seqIndex_neg (by lia) h4] at h1
   rw[ah,<- hl]
   exact Option.some.inj h1
  exact subscriptTail_builtinR (x:=w) pl.isList.typeIs slot_list_getitem.lookup
   (wpAny_getItem_list_neg (Q:=fun r s'=>r=w/\EP X pins σ Q r s') pl.isList (by lia) (by rw[ah] <;> lia) (by lia) (by rw[hj];simpa using ew) ⟨rfl,fin⟩) hs
theorem ix_tup:IxR X (QD X.K):=by
 intro value slice pins s σ H x y v u Q I rx ry h hs
 obtain⟨p,xs,i,z,rfl,rfl,hq,he,q⟩:=h
 cases rx
 obtain⟨t,rfl⟩:=ry
 obtain⟨its,r,pl,hz⟩:=I.tuple hq
 obtain⟨j,h1,h2,h3,h4,h5⟩:=Zk he
 obtain⟨w,ew,rw'⟩:=r.get h2
 have hl:=r.length
 have hn:=jX
 have fin:EP X pins σ Q w s:=⟨z,H,I,rw',q⟩
 exact subscriptTail_builtinR (x:=w) pl.typeIs slot_tuple_getitem.lookup
  (getItem_tuple (j:=j) (Q:=fun r s'=>r=w/\EP X pins σ Q r s') pl (by lia) (by lia) (by rw[ah,<- hl];exact h1) (by simpa using ew) ⟨rfl,fin⟩) hs
theorem QX:IxR X J9:=by
 intro value slice pins s σ H x y v u Q I rx ry h hs
 obtain⟨z,i,c,rfl,rfl,hz,he,q⟩:=h
 obtain⟨t,rfl⟩:=rx
 obtain⟨t',rfl⟩:=ry
 obtain⟨j,h1,h2,h3,h4,h5⟩:=Zk he
 have hl:z.cps.toList.length=z.length:=by simp [Str.length]
 rw[hl] at h1 h4 h5
 have hn:=jX
 exact tail_any (typeIs_str s z t) slot_str_getitem.lookup (getItem_str (c:=c) (by
  have e1:decide (i < -(2 ^ 63:Int))=false:=decide_eq_false (by lia)
  have e2:decide (i ≥ 2 ^ 63)=false:=decide_eq_false (by lia)
  rw[e1,e2,Bool.or_false]) (by rw[h1];simpa using h2) ⟨.str ⟨#[c]⟩,H,I.tok _,⟨_,rfl⟩,q⟩) hs
def rIx(K:rC):R2:=fun x y H Q=>J4 K x y H Q\/QD K x y H Q\/J9 x y H Q
theorem kB:IxR X (rIx X.K):=ix_list.or (ix_tup.or QX)
theorem jY(lo hi:Option Int)(n:Nat):(sliceBounds lo hi none n).1=((HT.sIx n 0 lo:Nat):Int)/\(sliceBounds lo hi none n).2.1=((HT.sIx n n hi:Nat):Int)/\(sliceBounds lo hi none n).2.2=1:=by
 refine⟨?_,?_,rfl⟩
 ·cases lo with
  | none=>simp [sliceBounds,HT.sIx]
  | some i =>
   simp only[sliceBounds,HT.sIx,fC,show (1:Int) > 0 by decide,if_true]
   by_cases h:i<0
   ·simp only[h,if_true] <;> lia
   ·simp only[h,if_false] <;> lia
 ·cases hi with
  | none=>simp [sliceBounds,HT.sIx]
  | some i =>
   simp only[sliceBounds,HT.sIx,fC,show (1:Int) > 0 by decide,if_true]
   by_cases h:i<0
   ·simp only[h,if_true] <;> lia
   ·simp only[h,if_false] <;> lia
theorem jC(its:List Value)(lo hi:Option Int):slicePick its.toArray lo hi none=((its.drop (HT.sIx its.length 0 lo)).take (HT.sIx its.length its.length hi - HT.sIx its.length 0 lo)).toArray:=by
 obtain⟨h1,h2,h3⟩:=jY lo hi its.toArray.size
 unfold slicePick
 rw[h1,h2,h3]
 simp only[sliceRange_one,pick_run,ah] <;> rfl
def zaq(K:rC):V->Option Int->Option Int->Hp->VK->Prop:=fun x lo hi H Q=>∃ a xs,x=.ref a/\SqL K H a xs/\∀ p,H p=none->Q (.ref p) (upd H p (.lst (YB xs lo hi)))
theorem sl_list:SlR X (zaq X.K):=by
 intro pins s σ H x v vl vu lo hi sl Q I rx hs pl pu h
 obtain⟨a,xs,rfl,hx,q⟩:=h
 cases rx
 obtain⟨its,r,ht,hz⟩:=I.list hx
 have hlen:=r.length
 refine⟨"list",_,slot_list_getitem.lookup,ht.isList.typeIs,?_⟩
 refine wpAny_getItem_list_slice ht.isList hs pl pu .none (by simp) ?_ (by rw[ah] <;> lia)
 rw[jC,<- hlen]
 refine⟨.ref s.heap.objs.size,_,I.laid (t':=s.toks) (o:=.lst (YB xs lo hi)) (fun b ob q=>af _ q) (ar _) ?_,rfl,q _ (I.hok.fresh (ar _))⟩
 exact⟨bu (kQ xs lo hi) hz,_,0,(r.drop (HT.sIx xs.length 0 lo)).take (HT.sIx xs.length xs.length hi - HT.sIx xs.length 0 lo),aH _ rfl⟩
noncomputable def JC:V->Bool
 | .non=>true
 | .bl _=>true
 | .int _=>true
 | .str _=>true
 | _=>false
noncomputable def eqV:V->V->Bool
 | .non,.non=>true
 | .bl a,.bl b=>a == b
 | .bl a,.int b=>(if a then 1 else 0) == b
 | .int a,.bl b=>a == (if b then 1 else 0)
 | .int a,.int b=>a == b
 | .str a,.str b=>a == b
 | _,_=>false
theorem Z4{A:Around}{s:Shared}{y x:V}{u v:Value}(ry:RelV y u)(rx:RelV x v)(fy:JC y=true)(fx:JC x=true):SeqAt.EqAt A s u v (eqV y x):=by
 cases y with
 | non =>
  cases ry
  cases x with
  | non=>cases rx;exact SeqAt.EqAt.same _
  | bl b=>cases rx;exact SeqAt.EqAt.none_bool b
  | int b=>obtain⟨t,rfl⟩:=rx;exact SeqAt.EqAt.none_int b t
  | str b=>obtain⟨t,rfl⟩:=rx;exact SeqAt.EqAt.none_str b t
  | _=>exact absurd (show false=true from fx) av
 | bl a =>
  cases ry
  cases x with
  | non=>cases rx;exact SeqAt.EqAt.bool_none a
  | bl b=>cases rx;exact SeqAt.EqAt.bool_bool a b
  | int b=>obtain⟨t,rfl⟩:=rx;exact SeqAt.EqAt.bool_int a b t
  | str b=>obtain⟨t,rfl⟩:=rx;exact SeqAt.EqAt.bool_str a b t
  | _=>exact absurd (show false=true from fx) av
 | int a =>
  obtain⟨t',rfl⟩:=ry
  cases x with
  | non=>cases rx;exact SeqAt.EqAt.int_none a t'
  | bl b=>cases rx;exact SeqAt.EqAt.int_bool a t' b
  | int b=>obtain⟨t,rfl⟩:=rx;exact SeqAt.EqAt.int_int a t' b t
  | str b=>obtain⟨t,rfl⟩:=rx;exact SeqAt.EqAt.int_str a t' b t
  | _=>exact absurd (show false=true from fx) av
 | str a =>
  obtain⟨t',rfl⟩:=ry
  cases x with
  | non=>cases rx;exact SeqAt.EqAt.str_none a t'
  | bl b=>cases rx;exact SeqAt.EqAt.str_bool a t' b
  | int b=>obtain⟨t,rfl⟩:=rx;exact SeqAt.EqAt.str_int a t' b t
  | str b=>obtain⟨t,rfl⟩:=rx;exact SeqAt.EqAt.str_str a t' b t
  | _=>exact absurd (show false=true from fx) av
 | _=>exact absurd (show false=true from fy) av
theorem xO:ui X (.type "list") (fun xs H Q=>∃ p ys,xs=[.ref p]/\(SqL X.K H p ys\/SqT X.K H p ys)/\∀ l,H l=none->Q (.ref l) (upd H l (.lst ys))):=by
 intro pins s σ H xs us Q I r h
 obtain⟨p,ys,rfl,hq,q⟩:=h
 obtain⟨u,rfl,rx⟩:=wM r
 cases rx
 have fin:∀(its:List Value),Vals ys its->ys.length<=rB->∀(h':Heap) (c':Nat),(∀ b o',s.heap.get? b=some o'->h'.get? b=some o') ->
   h'.get? s.heap.objs.size=some { cls:=.type "list",dict:=none,data:=.seq its.toArray c',slots:=#[] }->EP X pins σ Q (.ref s.heap.objs.size) { s with heap:=h' }:=fun its r' hz h' c' kp e =>
  ⟨.ref s.heap.objs.size,_,I.laid (t':=s.toks) kp (ar _) (show ObjOk X.prog X.w _ h' _ (.lst ys) from ⟨hz,its,c',r',e⟩),rfl,q _ (I.hok.fresh (ar _))⟩
 rcases hq with hq | hq
 ·obtain⟨its,r',pl,hz⟩:=I.list hq
  have hlen:=r'.length
  obtain⟨o,ho,hc,n,hd⟩:=pl.isList
  exact call_list_seq p (.inl rfl) ho hc hd (fun h' c' kp e=>fin its r' hz h' c' kp e) (by simp only[ah] <;> lia)
 ·obtain⟨its,r',pl,hz⟩:=I.tuple hq
  have hlen:=r'.length
  obtain⟨o,ho,hc,n,hd⟩:=pl
  exact call_list_seq p (.inr rfl) ho hc hd (fun h' c' kp e=>fin its r' hz h' c' kp e) (by simp only[ah] <;> lia)
theorem jc:ui X (.type "tuple") (fun xs H Q=>∃ p ys,xs=[.ref p]/\((SqL X.K H p ys/\∀ l,H l=none->Q (.ref l) (upd H l (.tup ys)))\/(SqT X.K H p ys/\Q (.ref p) H))):=by
 intro pins s σ H xs us Q I r h
 obtain⟨p,ys,rfl,h⟩:=h
 obtain⟨u,rfl,rx⟩:=wM r
 cases rx
 rcases h with ⟨hq,q⟩ | ⟨hq,q⟩
 ·obtain⟨its,r',pl,hz⟩:=I.list hq
  have hlen:=r'.length
  refine call_tuple_list pl.isList (fun h' kp=>?_) (by simp only[ah] <;> lia)
  have I1:Inv X pins σ H { s with heap:=h' }:=I.kept (t':=s.toks) kp
  have I2:Inv X pins σ (upd H h'.objs.size (.tup ys)) { s with heap:=h'.push { cls:=.type "tuple",data:=.seq its.toArray } } :=
   I1.laid (t':=s.toks) (fun b o e=>af _ e) (ar _) (show ObjOk X.prog X.w _ _ _ (.tup ys) from ⟨hz,its,r',IsTup.new _ _⟩)
  exact⟨.ref h'.objs.size,_,I2,rfl,q _ (I1.hok.fresh (ar _))⟩
 ·obtain⟨its,r',pl,hz⟩:=I.tuple hq
  exact call_tuple_same pl ⟨.ref p,H,I,rfl,q⟩
def tyV(K:rC)(T:String)(x:V)(H:Hp):Prop:=match x with
 | .str _=>T="str"
 | .int _=>T="int"
 | .ref p=>(T="list"/\∃ xs,SqL K H p xs)\/(T="tuple"/\∃ o,K.lookup p=some o/\o.cls=.type "tuple"/\o.dict=none) \/
   (T="dict"/\((∃ kvs,H p=some (.dK kvs))\/∃ kvs,H p=some (.dT kvs)))\/(T="set"/\∃ S n,H p=some (.set S n))
 | _=>False
theorem QP{pins:List (Addr × Obj)}{σ:St}{H:Hp}{s:Shared}{T:String}{x:V}{v:Value}(I:Inv X pins σ H s)(r:RelV x v)(ty:tyV X.K T x H) :
  s.TypeIs v T/\∀ a,v=.ref a->∃ ob,s.heap.get? a=some ob/\ob.dict=none:=by
 cases x with
 | str z =>
  obtain⟨t,rfl⟩:=r
  cases (show T="str" from ty)
  exact⟨typeIs_str s z t,fun _ e=>nomatch e⟩
 | int i =>
  obtain⟨t,rfl⟩:=r
  cases (show T="int" from ty)
  exact⟨typeIs_int s i t,fun _ e=>nomatch e⟩
 | ref p =>
  cases r
  rcases ty with ⟨rfl,xs,hq⟩ | ⟨rfl,o,hk,hc,hd⟩ | ⟨rfl,hk⟩ | ⟨rfl,S,n,hk⟩
  ·obtain⟨its,_,pl,_⟩:=I.list hq
   refine⟨pl.isList.typeIs,fun a e=>?_⟩
   cases e
   obtain⟨o,n,e,c,hd,_⟩:=pl
   exact⟨o,e,hd⟩
  ·refine⟨⟨o,I.kIn p o hk,hc⟩,fun a e=>?_⟩
   cases e
   exact⟨o,I.kIn _ o hk,hd⟩
  ·have z:∃ o,s.heap.get? p=some o/\o.ExactDict:=by
    rcases hk with ⟨kvs,hk⟩ | ⟨kvs,hk⟩
    ·obtain⟨_,_,_,_,o,_,_,e,ex,_⟩:=I.hok p _ hk
     exact⟨o,e,ex⟩
    ·obtain⟨_,_,_,_,o,_,_,e,ex,_⟩:=I.hok p _ hk
     exact⟨o,e,ex⟩
   obtain⟨o,e,ex⟩:=z
   refine⟨⟨o,e,ex.1⟩,fun a e2=>?_⟩
   cases e2
   exact⟨o,e,ex.2.1⟩
  ·obtain⟨o,_,_,_,e,ex,_⟩:=I.hok p _ hk
   refine⟨⟨o,e,ex.1⟩,fun a e2=>?_⟩
   cases e2
   exact⟨o,e,ex.2.1⟩
 | _=>exact False.elim ty
def zbB(K:rC)(T:String)(r:V->List V->Hp->VK->Prop)(to:TE):TE:=fun σ H Q=>to σ H fun x H1=>tyV K T x H1/\r x [] H1 Q
def tBM(K:rC)(T:String)(r:V->List V->Hp->VK->Prop)(to:TE)(t:TA):TE:=fun σ H Q=>to σ H fun x H1=>tyV K T x H1/\t σ H1 fun xs H2=>r x xs H2 Q
variable{o e:Expr}{es:List Expr}{to:TE}{t:TA}{name:Str}{apos cpos:Pos}{T id:String}{r:V->List V->Hp->VK->Prop}
theorem yL(pa:PlainAttrs T)(slot:Slot T name id)(hty:typeOf (.builtin id)=pure (.type "method_descriptor"))(hm:MtR X id r)(ho:PE X o to)(ha:PA X (e::es) t)
  (hbase:attributeBase o name X.env (eval o X.env)=eval o X.env:=by rfl)
  (hfew:((backTo cpos (rA (e::es) X.env)).all (fun x=>!x.1) && (backToKw cpos (keywordEach [] X.env)).all (fun x=>x.1.isSome)
   && decide ((e::es).length+([]:List Keyword).length+(if ([]:List Keyword).isEmpty then 0 else 1)<30))=true:=by rfl)
  (hline:(apos.endLine == cpos.line)=true:=by rfl) (hs:rA (e::es) X.env=(false,eval e X.env)::rA es X.env:=by rfl) (hplain:(backTo cpos (rA es X.env)).any (·.1)=false:=by rfl) :
  PE X (.Call (.Attribute o name apos) (e::es) [] cpos) (tBM X.K T r to t):=by
 intro pins s σ H Q I h
 refine wpAny_Call_method_late hbase hfew hline rfl (thn (ho pins s σ H _ I h) fun v s1 ⟨x,H1,I1,r1,ty,q1⟩=>?_)
 obtain⟨h1,h2⟩:=QP I1 r1 ty
 refine⟨T,id,pa,slot,hty,h1,h2,?_⟩
 have hA:=ha cpos pins s1 σ H1 _ I1 q1
 rw[hs] at hA ⊢
 refine Calls.callWith_builtin (by show (false || (backTo cpos (rA es X.env)).any (·.1))=false;rw[hplain] <;> rfl) (Calls.evalArgs_plain ?_)
 exact thn hA fun us s2 ⟨vs,H2,I2,r2,q2⟩=>hm pins s2 σ H2 x vs v us Q I2 r1 r2 q2
/- xs.append(e),list.index on a module's tuple .. are MtR facts of 06m -/
end
end L2
namespace L2
def MtM(X:Cx)(id:String)(r:V->List V->Hp->VK->Prop):Prop :=
 ∀(pins:List (Addr × Obj)) (s:Shared) (σ:St) (H:Hp) (x:V) (xs:List V) (v:Value) (us:List Value) (Q:VK),Inv X pins σ H s->RelV x v->Vals xs us->r x xs H Q ->
  wpAny (model X.prog X.w) X.A (call (.builtin id) (v::us)) (EP X pins σ Q) X.xe s
theorem Vals.one:∀{x:V} {us:List Value},Vals [x] us->∃ u,us=[u]/\RelV x u
 | _,_,.cons r .nil=>⟨_,rfl,r⟩
theorem Vals.two:∀{x y:V} {us:List Value},Vals [x,y] us->∃ u v,us=[u,v]/\RelV x u/\RelV y v
 | _,_,_,.cons r (.cons q .nil)=>⟨_,_,rfl,r,q⟩
theorem Vals.zero:∀{us:List Value},Vals [] us->us=[]
 | _,.nil=>rfl
theorem Vals.reverse{xs:List V}{us:List Value}(h:Vals xs us):Vals xs.reverse us.reverse:=by
 induction h with
 | nil=>exact .nil
 | cons r t ih=>rw[d8,d8];exact Vals.append ih (.cons r .nil)
theorem Vals.rep{xs:List V}{us:List Value}(h:Vals xs us):∀ k:Nat,Vals (ak k xs).flatten (ak k us).flatten
 | 0=>.nil
 | k+1=>by
  rw[aU,aU,cF,cF]
  exact Vals.append h (Vals.rep h k)
theorem kG(its:List Value):∀(k:Nat) (acc:List Value),
  eV (fun x1 x2=>x1 ++ x2) acc.toArray (ak k its.toArray)=(acc ++ (ak k its).flatten).toArray
 | 0,acc=>by simp
 | k+1,acc=>by
  have e:acc.toArray ++ its.toArray=(acc ++ its).toArray:=by simp
  have e2:(acc ++ its) ++ (ak k its).flatten=acc ++ (ak (k+1) its).flatten:=by
   rw[aU,cF,bN]
  rw[<- e2,<- kG its k (acc ++ its),<- e,aU,List.foldl_cons]
section
variable{X:Cx}{pins:List (Addr × Obj)}{σ:St}{H:Hp}{s:Shared}{l b:Addr}{xs ys zs:List V}
theorem Inv.lset{its its':List Value}{n:Nat}{f:Array Value->Array Value}{t':Nat}(I:Inv X pins σ H s)(hH:H l=some (.lst xs))
  (e:s.heap.get? l=some { cls:=.type "list",data:=.seq its.toArray n }) (hf:f its.toArray=its'.toArray) (hv:Vals ys its') (hz:ys.length<=rB) :
  Inv X pins σ (upd H l (.lst ys)) { s with heap:=s.heap.update l (Obj.mapSeq f),toks:=t' }:=by
 have q:=PySem.IsL.update e f
 rw[hf] at q
 refine I.write (x:=l) (e:=l) (by rw[hH];exact trivial) (.inl rfl) (fun b' u hb hu=>(aJ s.heap (Obj.mapSeq f) (Ne.symm hb)).trans hu) ⟨_,q⟩ ?_
 exact⟨hz,its',_,hv,q⟩
theorem Inv.lnew{its:List Value}{t':Nat}(I:Inv X pins σ H s)(hv:Vals ys its)(hz:ys.length<=rB) :
  Inv X pins σ (upd H s.heap.objs.size (.lst ys)) { s with heap:=s.heap.push { cls:=.type "list",data:=.seq its.toArray },toks:=t' } :=
 I.laid (fun _ _ q=>af _ q) (ar _) ⟨hz,its,0,hv,aH _ rfl⟩
theorem Inv.fresh(I:Inv X pins σ H s):H s.heap.objs.size=none:=I.hok.fresh (ar _)
theorem Inv.lstM(I:Inv X pins σ H s)(hH:H l=some (.lst xs)):xs.length<=rB/\∃(its:List Value) (n:Nat),Vals xs its/\xs.length=its.length/\s.heap.get? l=some { cls:=.type "list",data:=.seq its.toArray n }:=by
 obtain⟨z,its,n,r,e⟩:=I.hok l _ hH
 exact⟨z,its,n,r,r.length,e⟩
theorem Zz{n:Nat}(h:n<=rB):Builtin.List.listTooLong n=false:=by
 unfold Builtin.List.listTooLong
 exact decide_eq_false (by lia)
end
section
variable{X:Cx}
def Zo:V->List V->Hp->VK->Prop:=fun x vs H Q=>∃ l xs y,x=.ref l/\vs=[y]/\H l=some (.lst xs)/\xs.length<rB/\Q .non (upd H l (.lst (xs ++ [y])))
theorem z7:MtM X "list.append" Zo:=by
 intro pins s σ H x vs v us Q I rx rv h
 obtain⟨l,xs,y,rfl,rfl,hH,hz,q⟩:=h
 cases rx
 obtain⟨u,rfl,ru⟩:=rv.one
 obtain⟨z,its,n,r,hl,e⟩:=I.lstM hH
 refine call_meets F.slot_list_append ⟨_,e,rfl⟩ F.entry_list_append (F.args_list_append_2 _ _) (PySem.list_append l its.toArray n u (by rw[ah];lia)) ⟨e,?_⟩
 refine⟨.non,_,I.lset (its':=its ++ [u]) hH e (by simp) (r.append (.cons ru .nil)) ?_,rfl,q⟩
 rw[am,cz]
 lia
def Qm:V->List V->Hp->VK->Prop:=fun x vs H Q=>∃ l b xs zs,x=.ref l/\vs=[.ref b]/\H l=some (.lst xs)/\H b=some (.lst zs)/\xs.length+zs.length<=rB/\Q .non (upd H l (.lst (xs ++ zs)))
theorem QZ:MtM X "list.extend" Qm:=by
 intro pins s σ H x vs v us Q I rx rv h
 obtain⟨l,b,xs,zs,rfl,rfl,hH,hB,hz,q⟩:=h
 cases rx
 obtain⟨u,rfl,ru⟩:=rv.one
 cases ru
 obtain⟨z,its,n,r,hl,e⟩:=I.lstM hH
 obtain⟨z2,its2,n2,r2,hl2,e2⟩:=I.lstM hB
 have hsz:its.toArray.size+its2.toArray.size<=rB:=by rw[ah,ah];lia
 have hlong:¬ (!its.toArray.isEmpty && Builtin.List.listTooLong (its.toArray.size+its2.toArray.size))=true:=by
  rw[Zz hsz,dW]
  exact av
 refine call_meets F.slot_list_extend ⟨_,e,rfl⟩ F.entry_list_extend (F.args_list_extend_2 _ _)
  (AutoSeq1.list_extend_list_list_0 l its.toArray n b its2.toArray n2 hlong (by rw[ah];lia) (by lia)) ⟨e,e2,?_⟩
 refine⟨.non,_,I.lset (its':=its ++ its2) hH e (by simp) (r.append r2) ?_,rfl,q⟩
 rw[am]
 lia
def K5:R2:=fun x y H Q=>∃ l b xs zs,x=.ref l/\y=.ref b/\H l=some (.lst xs)/\H b=some (.lst zs)/\xs.length+zs.length<=rB/\∀ p,H p=none->Q (.ref p) (upd H p (.lst (xs ++ zs)))
theorem Jc:OpR X (binaryOp .Add) K5:=by
 intro pins s σ H x y v u Q I rx ry h
 obtain⟨l,b,xs,zs,rfl,rfl,hH,hB,hz,q⟩:=h
 cases rx
 cases ry
 obtain⟨z,its,n,r,hl,e⟩:=I.lstM hH
 obtain⟨z2,its2,n2,r2,hl2,e2⟩:=I.lstM hB
 refine PySem.P.add_list e e2 ?_ (by rw[ah,ah];lia)
 have ea:its.toArray ++ its2.toArray=(its ++ its2).toArray:=by simp
 rw[ea]
 exact⟨.ref _,_,I.lnew (t':=s.toks) (r.append r2) (by rw[am];lia),rfl,q _ I.fresh⟩
def zba:R2:=fun x y H Q=>∃ l k xs,x=.ref l/\y=.int k/\H l=some (.lst xs)/\-(2 ^ 63)<=k/\k<2 ^ 63/\xs.length * k.toNat<=rB /\
 ∀ p,H p=none->Q (.ref p) (upd H p (.lst (ak k.toNat xs).flatten))
theorem len_rep{α:Type}(xs:List α)(k:Nat):(ak k xs).flatten.length=k * xs.length:=by
 induction k with
 | zero=>simp
 | succ k ih=>rw[aU,cF,am,ih,dg,fm]
theorem Jm:OpR X (binaryOp .Mult) zba:=by
 intro pins s σ H x y v u Q I rx ry h
 obtain⟨l,k,xs,rfl,rfl,hH,h1,h2,hz,q⟩:=h
 cases rx
 obtain⟨t,rfl⟩:=ry
 obtain⟨z,its,n,r,hl,e⟩:=I.lstM hH
 have hlen:its.toArray.size * k.toNat<=rB:=by rw[ah,<- hl];exact hz
 have hcap:¬ its.toArray.size * k.toNat > (2 ^ 63 - 1) / 8:=by
  have:(rB:Nat)<=(2 ^ 63 - 1) / 8:=by decide
  lia
 have hfit:¬ (!Builtin.List.listFitsIndex k)=true:=by
  rw[fitsIndex_both h1 h2]
  exact av
 have hlong:¬ Builtin.List.listTooLong (its.toArray.size * k.toNat)=true:=by
  rw[Zz hlen]
  exact av
 have hnew:eV (fun x1 x2=>x1 ++ x2) #[] (ak (if its.toArray.isEmpty=true then 0 else k.toNat) its.toArray)=(ak k.toNat its).flatten.toArray:=by
  have f0:∀ m:Nat,eV (fun x1 x2=>x1 ++ x2) #[] (ak m its.toArray)=(ak m its).flatten.toArray:=fun m=>by
   have:=kG its m []
   rw[cA] at this
   exact this
  rw[f0]
  cases its with
  | nil=>simp
  | cons a r'=>rw[if_neg (by simp)]
 refine wpAny_binaryOp_repeat_ref (T:="list") (U:="int") (by decide) ⟨_,e,rfl⟩ (fun s'=>typeIs_int s' k t) noFill_list_mul F.fills_int_mul F.slot_int_rmul repeat_list F.slot_int_index.lookup
  (call_meets F.slot_int_rmul (typeIs_int s k t) F.entry_int_rmul (F.args_int_rmul_2 _ _) (int___rmul___int_list k t l its.toArray n)
   ⟨e,rfl,⟨_,e,rfl⟩,call_meets F.slot_list_mul ⟨_,e,rfl⟩ F.entry_list_mul (F.args_list_mul_2 _ _) (AutoListH.list___mul___list_int_3 l its.toArray n k t hfit hcap hlong) ⟨e,?_⟩⟩)
 rw[hnew]
 exact⟨.ref _,_,I.lnew (t':=s.toks) (r.rep k.toNat) (by rw[len_rep,Nat.mul_comm];exact hz),rfl,q _ I.fresh⟩
end
section
variable{prog:Program}{w:World}{A:Around}{E:Value->Shared->Prop}{s:Shared}
end
section
variable{X:Cx}
end
end L2
namespace Att
open PySem PySem.W PySem.Calls PyProof.Rows
theorem qf{P:Params}{h:Heap}:∀(ns:List Int) (vs:List Value),WellAll P h vs (ns.map WData.int)->IntsAre vs ns:=by
 intro ns
 induction ns with
 | nil =>
  intro vs w
  rw[ba] at w
  cases w
  exact .nil
 | cons n ns ih =>
  intro vs w
  rw[ax] at w
  cases w with
  | cons a b =>
   cases a
   exact .cons _ _ (ih _ b)
theorem script_of{l:OpenLaw}{n:Nat}(hn:l.most=some n){P:Params}{h:Heap}{args:List WData}{vals:List Value}
  (hpre:l.row.toRowW.claim.pre args=true) (hwl:WellAll P h vals args) :
  ∃ a vs ns,vals=[Value.ref a]/\args=[WData.list (ns.map WData.int)]/\h.get? a=some { cls:=.type "list",data:=.seq vs.toArray }/\IntsAre vs ns/\ns.length<=n:=by
 have hsh:WShape.hasAll [] args [.list .int]=true:=(pre_splitW hpre).1
 have hc:l.pre.holds [] { args:=args }=true:=(pre_splitW hpre).2
 obtain⟨d,r,rfl,h1,h2⟩:=hasAllW_cons hsh
 obtain rfl:=hasAllW_nil h2
 obtain⟨xs,rfl,h3⟩:=hasW_list h1
 obtain⟨ns,rfl⟩:=items_int h3
 have hlen:ns.length<=n:=by
  unfold OpenLaw.pre at hc
  have h4:(WTm.not (.lt (.lit (.int (n:Int))) (.len (.arg 0)))).holds [] { args:=[.list (ns.map .int)] }=true:=by
   have h4:=(holds_andW hc).1
   rw[hn] at h4
   exact h4
  have h5:=condW_of h4 (w_not (w_lt w_lit (w_len_list (w_arg rfl))))
  rw[aa] at h5
  refine cX fun q=>?_
  have q':(n:Int)<((ns.length:Nat):Int):=by lia
  first
   | (rw[decide_eq_true q'] at h5;exact absurd h5 (by decide))
   | (simp at h5;lia)
 cases hwl with
 | cons w1 w2 =>
  cases w2
  cases w1 with
  | list ho hall=>exact⟨_,_,ns,rfl,rfl,ho,qf ns _ hall,hlen⟩
theorem post_true(l:OpenLaw)(args:List WData):l.row.toRowW.claim.post args (.bool true) args=true :=
 postW_of (r:=l.row.toRowW) (X:=(true == true))
  (show WShape.has [] (.bool true) .bool=true by first | rfl | decide | simp [WShape.has,WShape.arms,WShape.armsAll])
  (show (WTm.eq .res (.lit (.bool true))).value [] { args:=args,res:=some (.bool true),after:=args }=some (.bool (true == true)) from w_eq_bool (w_res rfl) w_lit) rfl
section
variable{prog:Program}{w:World}{A:Around}{E:Value->Shared->Prop}{s:Shared}{K:Frag}
noncomputable def zaS(h:Heap)(L d:Addr):List (Addr × Obj):=(az h.objs.size).filterMap fun a=>if a=L\/a=d then none else (h.get? a).map fun o=>(a,o)
end
end Att
namespace L2
theorem jS:∀{vs:List Value} {ns:List Int},IntsAre vs ns->Vals (ns.map V.int) vs
 | _,_,.nil=>.nil
 | _,_,.cons n t h=>.cons ⟨t,rfl⟩ (jS h)
end L2
namespace L2
end L2
namespace L2
noncomputable def zM(s:Stmt)(j:Nat):Stmt:=match s with
 | .ClassDef _ _ _ body _ _ _ _ _ _ _=>body.getD j (.Pass ⟨0,0,0,0⟩)
 | _=>.Pass ⟨0,0,0,0⟩
noncomputable def zR(s:Stmt):Arguments:=match s with
 | .FunctionDef _ a _ _ _ _ _ _ _ _=>a
 | _=>{ posonlyargs:=[],args:=[],vararg:=none,kwonlyargs:=[],kw_defaults:=[],kwarg:=none,defaults:=[] }
noncomputable def zD(s:Stmt):List Stmt:=match s with
 | .FunctionDef _ _ b _ _ _ _ _ _ _=>b
 | _=>[]
noncomputable def ze(s:Stmt):Scope:=match s with
 | .FunctionDef _ _ _ _ _ _ sc _ _ _=>sc
 | _=>{ kind:=.function,names:=[],isGenerator:=false,isCoroutine:=false }
abbrev CX0:CXT:=fun _ _ _ _ _ _=>False
noncomputable abbrev E0:XK:=fun _ _ _=>False
theorem k7{X:Cx}:ub CX0 X E0:=fun _ _ _ _ _ _ _ h=>h.elim
structure Fun(K:rC)(x qual:Str)(st:Stmt)(f:Addr)(fd:FuncData):Prop where
 ex:∃(oc:Value) (od:Option Addr) (kV doc pm:Value) (an:Option Addr) (cdv ct:Value) (osl:Array (Option Value)),
  fd=aZ x qual (zR st) (zD st) (ze st) .none kV doc pm an cdv ct/\K.lookup f=some ⟨oc,od,.func fd,osl⟩/\bz K cdv qual=true
 kp:aG K (.ref f)=true
section
variable{P:Program}{w:World}{K:rC}{mg:Str->Option Value}{base:Heap}
theorem Fun.ok{x qual:Str}{st:Stmt}{f:Addr}{fd:FuncData}{N ps:List Str}{k:Nat}{sp:Sp}(F:Fun K x qual st f fd)(S:zm N ps (ze st))(len:∀ vs H Q E,sp vs H Q E->vs.length=ps.length)
  (hbody:∀(cdv:Value) (A:Around) (outer:List Env) (s:Shared) (H:Hp) (vs:List V) (Q:VK) (E:XK),Room k (A.deeper (envOfC qual (ze st) s.heap.objs.size f cdv))->sp vs H Q E ->
   ∃ t,PSs (uq CX0 P w K mg base N qual (ze st) f cdv A outer s H E).nox (zD st) t/\t { nx:=fun _ H'=>Q .non H',rt:=Q } (start N vs) H):FnOk P w K mg base CX0 (k+1) f fd ps sp:=by
 obtain⟨oc,od,kV,doc,pm,an,cdv,ct,osl,rfl,lk,hcd⟩:=F.ex
 refine Vh lk hcd S len fun A outer s H vs Q E hr hsp=>?_
 obtain⟨t,h,q⟩:=hbody cdv A outer s H vs Q E hr hsp
 exact⟨t,h.nox,q⟩
theorem Fun.binds{x qual:Str}{st:Stmt}{f:Addr}{fd:FuncData}{ps:List Str}(F:Fun K x qual st f fd)
  (h:∀(kV doc pm:Value) (an:Option Addr) (cdv ct:Value) (us:List Value),us.length=ps.length->bindArgs (aZ x qual (zR st) (zD st) (ze st) .none kV doc pm an cdv ct) ⟨us,[]⟩=pure (ps.zip us)):Binds K fd ps []:=by
 obtain⟨oc,od,kV,doc,pm,an,cdv,ct,osl,rfl,lk,hcd⟩:=F.ex
 exact .all (h kV doc pm an cdv ct)
theorem fun_mk{x qual:Str}{st:Stmt}{f:Addr}{oc:Value}{od an:Option Addr}{osl:Array (Option Value)}{kV doc pm cdv ct:Value}(l:K.lookup f=some ⟨oc,od,.func (aZ x qual (zR st) (zD st) (ze st) .none kV doc pm an cdv ct),osl⟩)
  (c:bz K cdv qual=true) (k:aG K (.ref f)=true):Fun K x qual st f (aZ x qual (zR st) (zD st) (ze st) .none kV doc pm an cdv ct):=⟨⟨oc,od,kV,doc,pm,an,cdv,ct,osl,rfl,l,c⟩,k⟩
end
section
variable{X:Cx}
theorem pv(i:Nat){x:Str}{pos:Pos}(hN:X.N[i]? = some x:=by rfl)(hv:Vis X.env.scope x:=by first | exact Or.inl rfl | exact Or.inr (.inl rfl) | exact Or.inr (Or.inr rfl))(hd:(x == ("__debug__" : Str))=false:=by decide)
  (hcd:(x == ("__classdict__" : Str))=false:=by decide):PE X (.Name x pos) (ya i):=QY hN hv hd hcd
end
theorem zaD{A B:Prop}(h:B):if false=true then A else B:=by
 rw[if_neg av]
 exact h
theorem zal{A B:Prop}(h:A):if true=true then A else B:=by
 rw[if_pos rfl]
 exact h
theorem xx{c A B:Prop}[Decidable c](h1:c->A)(h2:¬ c->B):if c then A else B:=by
 by_cases h:c
 ·rw[if_pos h]
  exact h1 h
 ·rw[if_neg h]
  exact h2 h
def Same(H H':Hp):Prop:=∀ b o,H b=some o->H' b=some o
theorem Same.refl(H:Hp):Same H H:=fun _ _ h=>h
theorem Same.trans{H H1 H2:Hp}(a:Same H H1)(b:Same H1 H2):Same H H2:=fun c o h=>b c o (a c o h)
theorem Same.free{H H':Hp}(e:Same H H'){l:Addr}(h:H' l=Option.none):H l=Option.none:=by
 cases q:H l with
 | none=>rfl
 | some o =>
  rw[e l o q] at h
  cases h
theorem Same.seq{K:rC}{H H':Hp}{a:Addr}{xs:List V}(e:Same H H')(h:SqL K H a xs):SqL K H' a xs:=by
 rcases h with (h | ⟨o,h⟩) | h
 ·exact .inl (.inl (e _ _ h))
 ·exact .inl (.inr ⟨o,e _ _ h⟩)
 ·exact .inr h
end L2
open L2
namespace L3
noncomputable abbrev St:=L2.St
noncomputable abbrev cs(x:Str):List Nat:=x.cps.toList
noncomputable abbrev tx(l:List Nat):Str:=⟨l.toArray⟩
theorem Q5(x:Str):tx (cs x)=x:=by cases x;rfl
theorem W9(l:List Nat):cs (tx l)=l:=rfl
theorem ZZ(x:Str):x.length=(cs x).length:=by simp [Str.length,cs]
theorem yu(l:List Nat):(tx l).length=l.length:=by simp [Str.length,tx]
theorem jK{x y:Str}(h:cs x=cs y):x=y:=by rw[<- Q5 x,<- Q5 y,h]
theorem Q0{l m:List Nat}(h:tx l=tx m):l=m:=by rw[<- W9 l,<- W9 m,h]
theorem UU{l m:List Nat}:tx l=tx m ↔ l=m:=⟨Q0,fun h=>by rw[h]⟩
theorem vn(l m:List Nat):tx l ++ tx m=tx (l ++ m):=by
 apply jK
 show (tx l ++ tx m).cps.toList=l ++ m
 rw[Str.cps_append]
 simp
noncomputable def cut{α:Type}(l:List α)(lo hi:Option Int):List α:=(l.drop (HT.sIx l.length 0 lo)).take (HT.sIx l.length l.length hi - HT.sIx l.length 0 lo)
theorem uH{α:Type}(l:List α)(lo hi:Option Int):(cut l lo hi).length<=l.length:=by
 unfold cut
 rw[aO,bJ]
 lia
theorem Y5(a b:Nat):sliceRange (a:Int) (b:Int) 1=(az (b - a)).map (fun k=>a+k):=by
 unfold sliceRange
 have e:(if (1:Int) > 0 then (if (a:Int)<b then ((b:Int) - a+1 - 1) / 1 else 0) else (if (a:Int) > b then ((a:Int) - b - 1 - 1) / (-1) else 0)).toNat=b - a:=by
  rw[if_pos (by decide)]
  by_cases h:(a:Int)<b
  ·rw[if_pos h,Int.ediv_one];lia
  ·rw[if_neg h];lia
 show (az ((if (1:Int) > 0 then (if (a:Int)<b then ((b:Int) - a+1 - 1) / 1 else 0) else (if (a:Int) > b then ((a:Int) - b - 1 - 1) / (-1) else 0)).toNat)).map _=_
 rw[e]
 refine bR fun k _=>?_
 lia
theorem Qw(lo hi:Option Int)(n:Nat):Builtin.Str.strSliceIndices lo hi 1 n=(az (HT.sIx n n hi - HT.sIx n 0 lo)).map (fun k=>HT.sIx n 0 lo+k):=by
 rw[<- Y5]
 have clip:∀(v:Int) (d:Nat),max 0 (min (if v<0 then v+(n:Int) else v) (n:Int))=((HT.sIx n d (some v):Nat):Int):=fun v d=>by
  show _=(((if v<0 then (v+(n:Int)).toNat else min v.toNat n):Nat):Int)
  by_cases hv:v<0
  ·simp only[if_pos hv];lia
  ·simp only[if_neg hv];lia
 have h1:((1:Int) > 0)=True:=by simp
 unfold Builtin.Str.strSliceIndices
 cases lo with
 | none =>
  cases hi with
  | none=>simp only[h1,if_true];rfl
  | some j=>simp only[h1,if_true,clip j n];rfl
 | some i =>
  cases hi with
  | none=>simp only[h1,if_true,clip i 0];rfl
  | some j=>simp only[h1,if_true,clip i 0,clip j n]
theorem Wg(x:Str)(lo hi:Option Int):Txt.slice x lo hi=tx (cut (cs x) lo hi):=by
 have hn:x.length=x.cps.toList.length:=ZZ x
 have hj:HT.sIx x.length x.length hi<=x.length:=HT.sIx_le _ _ (ar _) hi
 have hi0:HT.sIx x.length 0 lo<=x.length:=HT.sIx_le _ _ (aP _) lo
 unfold Txt.slice
 rw[Qw]
 split
 ·rename_i h
  have h':HT.sIx x.length x.length hi - HT.sIx x.length 0 lo=x.length:=by simpa using h
  apply jK
  show x.cps.toList=cut x.cps.toList lo hi
  unfold cut
  rw[<- hn]
  by_cases z:x.length=0
  ·have:x.cps.toList=[]:=dL (by lia)
   rw[this];simp
  ·have e0:HT.sIx x.length 0 lo=0:=by lia
   rw[e0] at h' ⊢
   rw[h',List.drop_zero,hn,be]
 ·apply jK
  have h:=StrLaws.picks x.cps.toList (HT.sIx x.length x.length hi - HT.sIx x.length 0 lo) (HT.sIx x.length 0 lo) (by lia)
  show (List.filterMap (fun k=>x.cps[k]?) _).toArray.toList=cut x.cps.toList lo hi
  unfold cut
  rw[<- hn]
  simpa using h
section
variable{X:Cx}
theorem Wv{v:Value}{o:Option Int}(p:IsPart v o):∃ l:Option (Int × Tok),v=partValue l/\l.map (·.1)=o:=by
 cases p with
 | none=>exact⟨none,rfl,rfl⟩
 | int i t=>exact⟨some (i,t),rfl,rfl⟩
def zaz:V->Option Int->Option Int->Hp->VK->Prop:=fun x lo hi H Q=>∃ z,x=.str z/\z.length<=rB/\Q (.str (tx (cut (cs z) lo hi))) H
theorem ZF:SlR X zaz:=by
 intro pins s σ H x v vl vu lo hi sl Q I rx hs pl pu h
 obtain⟨z,rfl,hz,q⟩:=h
 obtain⟨t,rfl⟩:=rx
 obtain⟨l,rfl,el⟩:=Wv pl
 obtain⟨u,rfl,eu⟩:=Wv pu
 refine⟨"str",_,slot_str_getitem.lookup,typeIs_str s z t,?_⟩
 refine wpAny_getItem_str_slice (l:=l) (u:=u) (st:=none) hs rfl ?_
 have e:Txt.slice z lo hi=tx (cut (cs z) lo hi):=Wg z lo hi
 have hl:(tx (cut (cs z) lo hi)).length<=rB:=by rw[yu];have:=uH (cs z) lo hi;rw[<- ZZ] at this;lia
 unfold sliceMade slicePicked
 rw[el,eu]
 unfold Txt.slice at e
 by_cases hc:((1:Int) == 1 && (Builtin.Str.strSliceIndices lo hi 1 z.length).length == z.length)=true
 ·rw[if_pos hc] at e
  have hc':(((none:Option (Int × Tok)).map (·.1)).getD 1 == 1 && (Builtin.Str.strSliceIndices lo hi (((none:Option (Int × Tok)).map (·.1)).getD 1) z.length).length == z.length)=true:=hc
  rw[if_pos hc']
  exact⟨.str (tx (cut (cs z) lo hi)),H,I,⟨t,by rw[<- e]⟩,q⟩
 ·rw[if_neg hc] at e
  have hc':¬ (((none:Option (Int × Tok)).map (·.1)).getD 1 == 1 && (Builtin.Str.strSliceIndices lo hi (((none:Option (Int × Tok)).map (·.1)).getD 1) z.length).length == z.length)=true:=hc
  rw[if_neg hc']
  show (Str.mk ((Builtin.Str.strSliceIndices lo hi 1 z.length).filterMap (z.cps[·]?)).toArray).length<=rB/\_
  rw[e]
  refine⟨hl,?_⟩
  exact⟨.str (tx (cut (cs z) lo hi)),H,I.tok _,⟨_,by
   show Value.str (Str.mk ((Builtin.Str.strSliceIndices lo hi 1 z.length).filterMap (z.cps[·]?)).toArray) _=_
   rw[e]⟩,q⟩
theorem Ya(l:List Nat):∀(k:Nat) (acc:Array Nat),((ak k l.toArray).foldl (· ++ ·) acc).toList=acc.toList ++ (ak k l).flatten
 | 0,acc=>by simp
 | k+1,acc=>by
  rw[aU,List.foldl_cons,Ya l k,aU,cF]
  simp
theorem Ys:OpR X (binaryOp .Mult) (fun x y H Q=>∃ z n,x=.str z/\y=.int n/\0<=n/\n<=1000/\z.length<=1000/\Q (.str (tx (ak n.toNat (cs z)).flatten)) H):=by
 intro pins s σ H x y v u Q I rx ry h
 obtain⟨z,n,rfl,rfl,h0,h1,hz,q⟩:=h
 obtain⟨t,rfl⟩:=rx
 obtain⟨t',rfl⟩:=ry
 have hs:rB=16777216:=sizeLine_eq
 have hmul:z.length * n.toNat<=1000 * 1000:=dk hz (by lia)
 have fl:((ak n.toNat (cs z)).flatten).length=n.toNat * z.length:=by rw[L2.len_rep,<- ZZ]
 refine PySem.P.mul_str ?_ (fun _ _=>?_) (fun _ _=>?_) ?_
 ·rw[decide_eq_false (by lia),decide_eq_false (by lia)];rfl
 ·have:(1000:Int)<=(2 ^ 63 - 1) / n:=by
   apply Int.le_ediv_of_mul_le (by lia)
   lia
  lia
 ·unfold Builtin.Str.tooLong
  exact decide_eq_false (by lia)
 ·by_cases c1:n<1
  ·rw[if_pos c1]
   have e:n.toNat=0:=by lia
   rw[e] at q
   exact⟨by decide,.str (tx []),H,I.tok _,⟨_,rfl⟩,q⟩
  ·rw[if_neg c1]
   by_cases c2:(n == 1 || z.length == 0)=true
   ·rw[if_pos c2]
    have e:tx (ak n.toNat (cs z)).flatten=z:=by
     rw[Bool.or_eq_true] at c2
     rcases c2 with c | c
     ·have:n.toNat=1:=by have:=eq_of_beq c;lia
      rw[this]
      simp only[List.replicate_one,List.flatten_singleton]
     ·have c0:z.length=0:=eq_of_beq c
      have:cs z=[]:=dL (by rw[<- ZZ];exact c0)
      apply jK
      rw[this]
      show (ak n.toNat ([]:List Nat)).flatten=[]
      simp only[List.flatten_replicate_nil]
    rw[e] at q
    exact⟨.str z,H,I,⟨_,rfl⟩,q⟩
   ·rw[if_neg c2]
    have e:(⟨(ak n.toNat z.cps).foldl (· ++ ·) #[]⟩:Str)=tx (ak n.toNat (cs z)).flatten:=by
     apply jK
     have:=Ya (cs z) n.toNat #[]
     have e2:(cs z).toArray=z.cps:=by cases z;rfl
     rw[e2] at this
     show (eV (· ++ ·) #[] (ak n.toNat z.cps)).toList=(ak n.toNat (cs z)).flatten
     rw[this]
     rfl
    rw[e]
    refine⟨by rw[yu,fl,Nat.mul_comm];lia,.str _,H,I.tok _,⟨_,rfl⟩,q⟩
theorem Xf:OpR X (compareOp .LtE) (fun x y H Q=>∃ i j,x=.str i/\y=.str j/\Q (.bl (!(decide (cs j<cs i)))) H):=by
 intro pins s σ H x y v u Q I rx ry h
 obtain⟨i,j,rfl,rfl,q⟩:=h
 obtain⟨t,rfl⟩:=rx
 obtain⟨t',rfl⟩:=ry
 exact PySem.P.le_str ⟨.bl _,H,I,rfl,q⟩
theorem op_lt_str':OpR X (compareOp .Lt) (fun x y H Q=>∃ i j,x=.str i/\y=.str j/\Q (.bl (decide (cs i<cs j))) H):=Y4
theorem Vu:MtR X "str.count" (fun x xs H Q=>∃ z y,x=.str z/\xs=[.str y]/\Q (.int (Txt.count z y)) H):=by
 intro pins s σ H x xs v us Q I rx rv h
 obtain⟨z,y,rfl,rfl,q⟩:=h
 obtain⟨t,rfl⟩:=rx
 obtain⟨u,rfl,t',rfl⟩:=wM rv
 exact PySem.SC.count ⟨.int _,H,I.tok _,⟨_,rfl⟩,q⟩
theorem U5:MtR X "str.find" (fun x xs H Q=>∃ z y,x=.str z/\xs=[.str y]/\Q (.int (Txt.find z y)) H):=by
 intro pins s σ H x xs v us Q I rx rv h
 obtain⟨z,y,rfl,rfl,q⟩:=h
 obtain⟨t,rfl⟩:=rx
 obtain⟨u,rfl,t',rfl⟩:=wM rv
 exact PySem.SC.find ⟨.int _,H,I.tok _,⟨_,rfl⟩,q⟩
end
end L3
namespace L3
section
variable{X:Cx}{pins:List (Addr × Obj)}{σ:St}{H:Hp}{s:Shared}{fp:List Addr}{h':Heap}{t':Nat}
theorem Inv.turns(I:Inv X pins σ H s)(k:∀ b o,b ∉ fp->s.heap.get? b=some o->h'.get? b=some o)(hf:∀ b ∈ fp,wT X pins H b):Inv X pins σ H { s with heap:=h',toks:=t' }:=by
 have nit:∀ b u,H b=some u->b ∉ fp:=fun b u e z=>by rw[(hf b z).1] at e;cases e
 refine I.step (g':=s.gens) (d':=s.drawn) (ch:=fp) (fun b hb=>?_) (fun b o _ _ hc e _=>k b o hc e) (fun b o _ _ hc e _=>⟨o.slots,k b o hc e⟩) (fun _ _ _ _ n=>n)
  (fun b o hc e=>⟨o,k b o hc e⟩) (fun _ _ e=>e) (fun _ _ _ e=>e) (fun b ps e=>⟨#[],by rw[e];simp⟩) (fun m hm=>?_) (fun b u e=>?_) I.bare
 ·obtain⟨_,a1,_,a3,a4,a5⟩:=hf b hb
  exact⟨a3,a1,a4,a5⟩
 ·obtain⟨o,es,ep,ho,r⟩:=hm
  exact⟨o,es,ep,k _ o (fun z=>(hf _ z).2.1 rfl) ho,r⟩
 ·refine (I.hok b u e).stay (fun c v hc q=>k c v ?_ q) (fun _ q=>q) fun _ _ q=>q
  rcases hc with z | z
  ·rw[z];exact nit b u e
  ·exact nit c _ z
theorem Inv.track{a:Addr}{o:HO}(I:Inv X pins σ H s)(fa:wT X pins H a)(new:ObjOk X.prog X.w (upd H a o) s.heap a o):Inv X pins σ (upd H a o) s:=by
 obtain⟨a0,a1,a2,a3,a4,a5⟩:=fa
 have e:s={ s with heap:=s.heap,gens:=s.gens,drawn:=s.drawn,toks:=s.toks }:=rfl
 rw[e]
 refine I.step (g':=s.gens) (d':=s.drawn) (ch:=[a]) (fun b hb=>?_) (fun b o _ _ _ e _=>e) (fun b o _ _ _ e _=>⟨o.slots,e⟩) (fun b o hc _ n=>?_)
  (fun b o _ e=>⟨o,e⟩) (fun b xs e=>?_) (fun b u xs e=>?_) (fun b ps e=>?_) (fun m hm=>hm) (fun b u e=>?_) I.bare
 ·have eb:b=a:=by simpa using hb
  subst eb
  exact⟨a3,a1,a4,a5⟩
 ·rw[zh (by simpa using hc)];exact n
 ·rw[zh (zr e a0)];exact e
 ·rw[zh (zr e a0)];exact e
 ·exact⟨#[],by rw[zh (zr e a0),e];simp⟩
 ·by_cases hb:b=a
  ·subst hb;rw[zb] at e;cases e;exact new
  ·rw[zh hb] at e
   exact (I.hok b u e).stay (fun c v _ q=>q) (fun c q=>by rw[zh (zr q a0)];exact q) fun c xs q=>by rw[zh (zr q a0)];exact q
end
noncomputable def Its(x:Str):It:=⟨fun i _=>i<(cs x).length,fun i H v H'=>H'=H/\∃ c,(cs x)[i]? = some c/\v=.str (tx [c]),fun i _=>i=(cs x).length⟩
theorem VI{P:Program}{w:World}{K:rC}{tg:Expr}{ty:String}(hty:["enumerate","zip","dict_itemiterator","dict_reverseitemiterator","odict_iterator","itertools.zip_longest","itertools.pairwise"].contains ty=false)(it:Addr)(x:Str)(t:Tok)
  (W:∀ A:Around,A.handled=none->Walks P w A it [it] [it] x.cps.size (SignAt x) fun i h=>h.IsStrIter it ty x t i)
  (S:∀(A:Around) (i:Nat) (s:Shared) (Q:Value->Shared->Prop) (E:Value->Shared->Prop),s.heap.IsStrIter it ty x t i->Q (.ref it) s->wpAny (model P w) A (pyIter (.ref it)) Q E s) :
  U6 P w K tg (Its x) [it] it (fun i h=>h.IsStrIter it ty x t i) where
 mem:=by simp
 obj:=fun i h st b hb=>by
  have e:b=it:=by simpa using hb
  subst e
  obtain⟨o,e,c,d⟩:=st
  exact⟨o,e,fun v z=>by rw[d] at z;cases z⟩
 keep:=fun i h h' st k=>let ⟨o,e,r⟩:=st; ⟨o,k it (by simp) o e,r⟩
 item:=by
  intro X hP hw hK hc i pins s σ H E I hf st hg
  subst hP hw hK
  obtain⟨f0,f1,f2,f3,f4,f5⟩:=hf it (by simp)
  have hg':i<x.cps.size:=by have:i<x.cps.toList.length:=hg;simpa using this
  refine (W X.A (I.ok.hd hc)).item i s _ _ hg' st fun v h' tk hv st' kk=>?_
  obtain⟨c,u,hcc,rfl⟩:=hv
  have I1:Inv X pins σ H { s with heap:=h',toks:=tk }:=I.turned (fun b o hb e=>kk b o (by simpa using hb) e) f0 f1 f3 f4 f5
  obtain⟨o,e,cl,d⟩:=id st'
  refine⟨_,rfl,U8 (s:={ s with heap:=h',toks:=tk }) e cl d hty ⟨.str (tx [c]),H,I1,⟨u,rfl⟩,⟨rfl,c,?_,rfl⟩,st',fun b hb=>(hf b hb).1⟩⟩
  show x.cps.toList[i]? = some c
  simpa using hcc
 done:=by
  intro X hP hw hK hc i pins s σ H E I hf st hg
  subst hP hw hK
  obtain⟨f0,f1,f2,f3,f4,f5⟩:=hf it (by simp)
  have hi:i=x.cps.size:=by have:i=x.cps.toList.length:=hg;simpa using this
  rw[hi] at st
  exact (W X.A (I.ok.hd hc)).done s _ _ st fun h' tk kk=>⟨rfl,I.turned (fun b o hb e=>kk b o (by simpa using hb) e) f0 f1 f3 f4 f5⟩
 self:=fun A i s Q E st h=>S A i s Q E st h
section
variable{X:Cx}{tg:Expr}
def J0(tl:TE):TI:=fun σ H R=>tl σ H fun v H1=>∃ x,v=.str x/\R (Its x) H1
theorem vz{l:Expr}{tl:TE}(hl:PE X l tl):PI X tg l (J0 tl):=by
 intro pins s σ H R I h
 refine thn (hl pins s σ H _ I h) fun v s1 ⟨y,H1,I1,r1,q1⟩=>?_
 obtain⟨x,e,q⟩:=q1
 subst e
 obtain⟨t,rfl⟩:=r1
 have fin:∀(ty:String) (hty:["enumerate","zip","dict_itemiterator","dict_reverseitemiterator","odict_iterator","itertools.zip_longest","itertools.pairwise"].contains ty=false)
   (W:∀ A:Around,A.handled=none->Walks X.prog X.w A s1.heap.objs.size [s1.heap.objs.size] [s1.heap.objs.size] x.cps.size (SignAt x) fun i h=>h.IsStrIter s1.heap.objs.size ty x t i)
   (S:∀(A:Around) (i:Nat) (s:Shared) (Q:Value->Shared->Prop) (E:Value->Shared->Prop),s.heap.IsStrIter s1.heap.objs.size ty x t i->Q (.ref s1.heap.objs.size) s->wpAny (model X.prog X.w) A (pyIter (.ref s1.heap.objs.size)) Q E s),
   PIE X pins σ tg R (.ref s1.heap.objs.size) { s1 with heap:=s1.heap.push { cls:=.type ty,data:=.fields #[.str x t,.int 0 0] } }:=fun ty hty W S=>by
  refine⟨s1.heap.objs.size,[s1.heap.objs.size],_,_,H1,rfl,I1.kept (t':=s1.toks) fun b o e=>af _ e,VI hty _ x t W S,⟨_,aH _ rfl,rfl,rfl⟩,fun b hb=>?_,q⟩
  have e:b=s1.heap.objs.size:=by simpa using hb
  subst e
  exact I1.fpOk (ar _) (I1.hok.fresh (ar _))
 cases ha:x.cps.all (· < 128)
 ·exact wpAny_pyIter_wide ha (fin "str_iterator" (by decide) (fun A hA=>Walks.strWide hA _ x t) fun A i s Q E st h=>wpAny_pyIter_striter_wide st h)
 ·exact wpAny_pyIter_ascii ha (fin "str_ascii_iterator" (by decide) (fun A hA=>Walks.strAscii hA _ x t) fun A i s Q E st h=>wpAny_pyIter_striter_ascii st h)
end
theorem UK{x:Str}{g:TG}{tb:TS}{D:xw}{σ:St}{H:Hp}(Pv:Nat->St->Hp->Prop)(h0:Pv 0 σ H)
  (hs:∀ i c σ H,(cs x)[i]? = some c->Pv i σ H->g (.str (tx [c])) σ H fun σ2 H2=>tb { D with nx:=Pv (i+1),ct:=Pv (i+1),bk:=D.nx } σ2 H2) (hd:∀ σ H,Pv (cs x).length σ H->D.nx σ H) :
  ∃ W:Nat->Nat->St->Hp->Prop,(∃ m,W 0 m σ H)/\∀ i m σ H,W i m σ H ->
   ((Its x).stop i H/\D.nx σ H)\/((Its x).go i H/\∃ N:St->Hp->Prop,(∀ σ' H',N σ' H'->∃ m',m'<m/\W (i+1) m' σ' H')/\∀ v H',(Its x).yld i H v H'->g v σ H' fun σ2 H2=>tb { D with nx:=N,ct:=N,bk:=D.nx } σ2 H2):=by
 refine⟨fun i m σ H=>m=(cs x).length - i/\i<=(cs x).length/\Pv i σ H,⟨(cs x).length,by simp,aP _,h0⟩,?_⟩
 rintro i m σ H ⟨rfl,hi,p⟩
 by_cases hlt:i<(cs x).length
 ·refine .inr ⟨hlt,Pv (i+1),fun σ' H' p'=>⟨(cs x).length - (i+1),by lia,rfl,hlt,p'⟩,fun v H' y=>?_⟩
  obtain⟨e,c,hc,ev⟩:=y
  subst e ev
  exact hs i c σ _ hc p
 ·have e:i=(cs x).length:=by lia
  subst e
  exact .inl ⟨rfl,hd σ H p⟩
noncomputable def Ite(x:Str):It:=⟨fun i _=>i<(cs x).length,fun i H v H'=>∃ p c,H p=none/\(cs x)[i]? = some c/\v=.ref p/\H'=upd H p (.tup [.int (i:Nat),.str (tx [c])]),fun i _=>i=(cs x).length⟩
section
variable{X:Cx}
def zat(ta:TA):TI:=fun σ H R=>ta σ H fun vs H1=>∃ x,vs=[.str x]/\R (Ite x) H1
end
end L3
namespace L3
theorem vY{env:Env}:∀(names:List (Str × NameKind)) (acc:List (Str × Addr)),
    (∀ y,(y,NameKind.free) ∈ names->∃ c,env.cells.lookup y=some c)->(∀ y c,acc.lookup y=some c->env.cells.lookup y=some c) ->
    ∃ cl,(forIn names acc fun(x:Str × NameKind) (cs:List (Str × Addr))=>if (x.2 == NameKind.free)=true then (do let a <- cellOf env x.1;pure (ForInStep.yield ((x.1,a)::cs))) else pure (ForInStep.yield cs):Sem (List (Str × Addr)))=pure cl /\
      (∀ y c,cl.lookup y=some c->env.cells.lookup y=some c)/\(∀ y,(y,NameKind.free) ∈ names\/(acc.lookup y).isSome=true->∃ c,cl.lookup y=some c)
  | [],acc,_,ha=>⟨acc,rfl,ha,fun y h=>by
      rcases h with h | h
      . cases h
      . exact rR.mp h⟩
  | (n,k)::r,acc,hn,ha=>by
    by_cases hk:k=NameKind.free
    . subst hk
      obtain⟨c,hc⟩:=hn n (by simp)
      have ha':∀ y d,((n,c)::acc).lookup y=some d->env.cells.lookup y=some d:=fun y d e=>by
        rw[aS] at e
        by_cases hy:(y == n)=true
        . rw[hy] at e
          have:y=n:=eq_of_beq hy
          subst this
          cases e
          exact hc
        . have hy':(y == n)=false:=by simpa using hy
          rw[hy'] at e
          exact ha y d e
      obtain⟨cl,e,h1,h2⟩:=vY r ((n,c)::acc) (fun y hy=>hn y (aw _ hy)) ha'
      refine⟨cl,?_,h1,fun y hy=>h2 y ?_⟩
      . rw[dF]
        have ec:cellOf env n=pure c:=by unfold cellOf;rw[hc]
        simp only[beq_self_eq_true,if_true,ec,pure_bind]
        exact e
      . rcases hy with hy | hy
        . rcases rH.mp hy with q | q
          . cases q
            exact .inr (by simp)
          . exact .inl q
        . refine .inr ?_
          rw[aS]
          by_cases hyn:(y == n)=true
          . rw[hyn];rfl
          . have hy':(y == n)=false:=by simpa using hyn
            rw[hy'];exact hy
    . obtain⟨cl,e,h1,h2⟩:=vY r acc (fun y hy=>hn y (aw _ hy)) ha
      refine⟨cl,?_,h1,fun y hy=>h2 y ?_⟩
      . rw[dF]
        have ek:(k == NameKind.free)=false:=by simpa using hk
        simp only[ek,bV,if_false,pure_bind]
        exact e
      . rcases hy with hy | hy
        . rcases rH.mp hy with q | q
          . cases q;exact absurd rfl hk
          . exact .inl q
        . exact .inr hy
theorem vC{scope:Scope}{env:Env}(hn:∀ y,(y,NameKind.free) ∈ scope.names->∃ c,env.cells.lookup y=some c) :
  ∃ cl,closureFor scope env=pure cl/\(∀ y c,cl.lookup y=some c->env.cells.lookup y=some c)/\(∀ y,(y,NameKind.free) ∈ scope.names->∃ c,cl.lookup y=some c):=by
 obtain⟨cl,e,h1,h2⟩:=vY scope.names [] hn (fun y c h=>by cases h)
 refine⟨cl,?_,h1,fun y hy=>h2 y (.inl hy)⟩
 unfold closureFor
 simp only[bind_pure]
 exact e
noncomputable abbrev XV(ifs:List Expr)(env:Env):Sem Bool :=
 forIn ifs true fun c r=>if r=true then (do let ok <- isTrue c env (eval c env);pure (ForInStep.yield ok)) else pure (ForInStep.yield r)
theorem Ww{prog:Program}{w:World}{A:Around}{R:Result->Shared->Prop}{s:Shared}{elt tg iter:Expr}{ifs:List Expr}{scope:Scope}{pos:Pos}{it acc:Value}{env:Env}
  (I:Nat->Shared->Prop) {EE:Value->Shared->Prop} (hEE:EE=notedBy (model prog w) A env fun e s'=>R (.error e) s')
  (turn:∀ n s,I n s->wpAny (model prog w) A (pyNext it) (fun r s1=>match r with
   | none=>R (.ok .next) s1
   | some v=>wpAny (model prog w) A (letOwnedTupleGo tg it v) (fun _ s2=>wpAny (model prog w) A (assign tg env v) (fun _ s3 =>
     wpAny (model prog w) A (XV ifs env) (fun ok s4=>if ok=true then
      wpAny (model prog w) A (eval elt env) (fun x s5=>wpAny (model prog w) A (call (.builtin "list.append") [acc,x]) (fun _ s6=>∃ m,m<n/\I m s6) EE s5) EE s4
      else ∃ m,m<n/\I m s4) EE s3) EE s2) EE s1) EE s) (n:Nat) (h:I n s) :
  codeAny (model prog w) A (.compLoop (.ListComp elt [⟨tg,iter,ifs,0⟩] scope pos) 0 it acc env) R s:=by
 subst hEE
 refine codeAny_loop rfl I (fun n s hI=>?_) n h
 show wpAny _ A ((compTurn (.ListComp elt [⟨tg,iter,ifs,0⟩] scope pos) 0 it acc env).onRaise (fun x=>do noteFrame x env;theTreesLotGoes x)) _ _ s
 refine wpAny_noted ?_
 rw[compTurn_list]
 refine ro (wpAny_standAt (ro (thn (turn n s hI) fun r s1 h1=>?_)))
 cases r with
 | none=>exact rp h1
 | some v =>
  refine ro (thn h1 fun _ s2 h2=>ro (thn h2 fun _ s3 h3=>ro (thn h3 fun ok s4 h4=>?_)))
  cases ok with
  | false=>exact rp ⟨rfl,h4⟩
  | true=>exact ro (ro (thn h4 fun x s5 h5=>ro (thn h5 fun _ s6 h6=>rp (rp ⟨rfl,h6⟩))))
noncomputable def yZ(X:Cx)(scope:Scope)(cl:List (Str × Addr))(C:Addr)(N:List Str)(pins:List (Addr × Obj))(s3:Shared)(H3:Hp)(fp:List Addr)(E:Value->Shared->Prop):Cx :=
 { X with N:=N,s₀:=s3,H₀:=H3,env:=compEnvC scope cl C X.env,outer:=X.stack,ex:=fp,fn:=fun _=>false,pn:=X.pn ++ pins,xe:=E }
noncomputable def uI(σ:St)(own:Nat)(ix:List Nat):St:=ak own none ++ ix.map fun i=>(σ[i]?).join
structure qD(X:Cx)(scope:Scope)(own caps:List Str)(ix:List Nat):Prop where
 kind:scope.kind=.function
 nocell:∀ y ∈ scope.names,y.2≠.cell
 names:∀ y ∈ scope.names,y.2=.local->scope.names.lookup y.1=some .local
 free:∀ y,(y,NameKind.free) ∈ scope.names->X.env.kindOf y=some .cell\/X.env.kindOf y=some .free
 hown:∀ y ∈ own,scope.names.lookup y=some .local
 hcaps:∀ y ∈ caps,scope.names.lookup y=some .free
 hix:ix.map (fun i=>X.N[i]?)=caps.map some
theorem xh{α β:Type}[BEq α][LawfulBEq α]{l:List (α × β)}{a:α}{b:β}(h:l.lookup a=some b):(a,b) ∈ l:=by
 induction l with
 | nil=>cases h
 | cons p r ih =>
  obtain⟨c,d⟩:=p
  rw[aS] at h
  by_cases e:(a == c)=true
  ·rw[e] at h
   cases h
   rw[eq_of_beq e]
   exact aD
  ·have e':(a == c)=false:=by simpa using e
   rw[e'] at h
   exact aw _ (ih h)
theorem wB{scope:Scope}{env:Env}(hf:env.scope.kind=.function):∀{names:List (Str × NameKind)} {x:Str} {k:NameKind},names.lookup x=some k ->
    (names.map fun(n,k)=>if (k == NameKind.free && env.scope.kind == .function && env.kindOf n == some .cell) then (n,NameKind.cell) else (n,k)).lookup x=some (if (k == NameKind.free && env.scope.kind == .function && env.kindOf x == some .cell)=true then .cell else k)
  | [],_,_,h=>by simp at h
  | (n,k')::r,x,k,h=>by
    have ih:=@wB scope env hf r x k
    show bn x ((if (k' == NameKind.free && env.scope.kind == .function && env.kindOf n == some .cell)=true then (n,NameKind.cell) else (n,k'))::_)=_
    by_cases hx:(x == n)=true
    . have hxn:x=n:=eq_of_beq hx
      subst hxn
      rw[aS,hx] at h
      cases h
      by_cases c:(k' == NameKind.free && env.scope.kind == .function && env.kindOf x == some .cell)=true
      . rw[if_pos c,if_pos c,aS,hx]
      . rw[if_neg c,if_neg c,aS,hx]
    . have hx':(x == n)=false:=by simpa using hx
      rw[aS,hx'] at h
      by_cases c:(k' == NameKind.free && env.scope.kind == .function && env.kindOf n == some .cell)=true
      . rw[if_pos c,aS,hx'];exact ih h
      . rw[if_neg c,aS,hx'];exact ih h
theorem uc{scope:Scope}{env:Env}:∀{names:List (Str × NameKind)} {x:Str},names.lookup x=none ->
    (names.map fun(n,k)=>if (k == NameKind.free && env.scope.kind == .function && env.kindOf n == some .cell) then (n,NameKind.cell) else (n,k)).lookup x=none
  | [],_,_=>rfl
  | (n,k')::r,x,h=>by
    have ih:=@uc scope env r x
    show bn x ((if (k' == NameKind.free && env.scope.kind == .function && env.kindOf n == some .cell)=true then (n,NameKind.cell) else (n,k'))::_)=_
    by_cases hx:(x == n)=true
    . rw[aS,hx] at h;cases h
    . have hx':(x == n)=false:=by simpa using hx
      rw[aS,hx'] at h
      by_cases c:(k' == NameKind.free && env.scope.kind == .function && env.kindOf n == some .cell)=true
      . rw[if_pos c,aS,hx'];exact ih h
      . rw[if_neg c,aS,hx'];exact ih h
section
variable{X:Cx}{scope:Scope}{own caps:List Str}{ix:List Nat}{cl:List (Str × Addr)}{pins:List (Addr × Obj)}{σ:St}{H:Hp}{s:Shared}{fp:List Addr}{E:Value->Shared->Prop}
theorem Yo(S:qD X scope own caps ix)(hcl1:∀ y c,cl.lookup y=some c->X.env.cells.lookup y=some c)(hcl2:∀ y,(y,NameKind.free) ∈ scope.names->∃ c,cl.lookup y=some c)
  (I:Inv X pins σ H s) (hfp:∀ b ∈ fp,wT X pins H b) (hlt:∀ b ∈ fp,b<s.heap.objs.size) {h4:Heap} {t4:Nat} (hn:h4.Ns s.heap.objs.size fun _=>none) (hk:∀ b o,s.heap.get? b=some o->h4.get? b=some o) :
  Inv (yZ X scope cl s.heap.objs.size (own ++ caps) pins s H fp E) [] (uI σ own.length ix) H { s with heap:=h4,toks:=t4 }:=by
 have kf:X.env.scope.kind=.function:=I.ok.kind
 have nofp:∀ b ∈ fp,b≠s.heap.objs.size:=fun b hb=>ay (hlt b hb)
 have cellLt:∀ x c,X.env.cells.lookup x=some c->c<s.heap.objs.size:=fun x c e=>by
  obtain⟨v,o,ho,_⟩:=I.cell x c e
  exact ao ho
 have kinds:∀ y k,scope.names.lookup y=some k->(relabel scope X.env).names.lookup y=some (if (k == NameKind.free && X.env.scope.kind == .function && X.env.kindOf y == some .cell)=true then .cell else k):=fun y k e=>wB (scope:=scope) kf e
 have back:∀ y k,(relabel scope X.env).names.lookup y=some k->∃ k',scope.names.lookup y=some k'/\k=(if (k' == NameKind.free && X.env.scope.kind == .function && X.env.kindOf y == some .cell)=true then .cell else k'):=fun y k e=>by
  cases q:scope.names.lookup y with
  | none =>
   have:=uc (scope:=scope) (env:=X.env) q
   have e':(scope.names.map fun(n,k)=>if (k == NameKind.free && X.env.scope.kind == .function && X.env.kindOf n == some .cell) then (n,NameKind.cell) else (n,k)).lookup y=some k:=e
   rw[this] at e';cases e'
  | some k' =>
   refine⟨k',rfl,?_⟩
   have:=kinds y k' q
   rw[e] at this
   exact Option.some.inj this
 have isCell:∀ y,scope.names.lookup y=some .free->(relabel scope X.env).names.lookup y=some .cell\/(relabel scope X.env).names.lookup y=some .free:=fun y e=>by
  have:=kinds y _ e
  rcases S.free y (xh e) with q | q
  ·refine .inl ?_
   rw[this,if_pos]
   rw[q,kf]
   rfl
  ·refine .inr ?_
   rw[this,if_neg]
   rw[q]
   simp
 refine⟨⟨I.ok.mod,?_,I.ok.glob,I.ok.blt,ar _,?_,?_,?_,I.ok.hd,I.ok.frames,.inl rfl,?_,I.bs,bu I.ok.bsz I.sz,?_,?_,I.stack,I.stkFree⟩,rfl,I.bare,Un.kept hk,⟨_,hn,?_⟩,?_,?_,?_,?_,I.hok.kept hk,?_⟩
 ·show (relabel scope X.env).kind=.function
  exact S.kind
 ·intro x y c h1 h2
  exact I.ok.inj x y c (hcl1 x c h1) (hcl1 y c h2)
 ·intro y hy
  have hy':(relabel scope X.env).names.lookup y=some .cell\/(relabel scope X.env).names.lookup y=some .free:=hy
  have:scope.names.lookup y=some .free:=by
   rcases hy' with q | q
   ·obtain⟨k',e,ek⟩:=back y _ q
    by_cases c:(k' == NameKind.free && X.env.scope.kind == .function && X.env.kindOf y == some .cell)=true
    ·rw[cK,cK] at c
     rw[e,eq_of_beq c.1.1]
    ·rw[if_neg c] at ek
     exact absurd ek.symm (S.nocell _ (xh e))
   ·obtain⟨k',e,ek⟩:=back y _ q
    by_cases c:(k' == NameKind.free && X.env.scope.kind == .function && X.env.kindOf y == some .cell)=true
    ·rw[if_pos c] at ek;cases ek
    ·rw[if_neg c] at ek
     rw[e,<- ek]
  exact hcl2 y (xh this)
 ·intro x c h _
  exact absurd h (by simp [yZ])
 ·intro b hb
  refine⟨nofp b hb,fun x c e=>?_⟩
  exact (hfp b hb).2.2.2.2.1 x c (hcl1 x c e)
 ·intro b o e hb
  obtain⟨_,_,_,q,_⟩:=hfp b hb
  rcases q with q | q
  ·exact I.ok.noex b o e q
  ·exact absurd (aq (ao e) (bu I.ok.bsz q)) (cM _)
 ·intro b hb z
  rcases rH.mp (I.stkSub b z) with e | e
  ·exact (hfp b hb).2.1 e
  ·exact (hfp b hb).2.2.1 e
 ·intro i y v h1 h2 h3
  have hi:own.length<=i:=by
   refine cX fun hlt'=>?_
   unfold uI at h2
   rw[bc (by rw[bG];exact hlt'),eD,if_pos hlt'] at h2
   cases h2
  have h1':caps[i - own.length]? = some y:=by
   have:(own ++ caps)[i]? = some y:=h1
   rw[bo hi] at this
   exact this
  have h2':(ix.map fun i=>(σ[i]?).join)[i - own.length]? = some (some v):=by
   unfold uI at h2
   rw[bo (by rw[bG];exact hi),bG] at h2
   exact h2
  rw[au] at h2'
  have hx:=congrArg (fun l=>l[i - own.length]?) S.hix
  simp only[au,h1',eJ] at hx
  cases q:ix[i - own.length]? with
  | none=>rw[q] at h2';cases h2'
  | some j =>
   rw[q] at h2' hx
   have hj:X.N[j]? = some y:=Option.some.inj hx
   have hv:(σ[j]?).join=some v:=Option.some.inj h2'
   have hσ:σ[j]? = some (some v):=by
    cases r:σ[j]? with
    | none=>rw[r] at hv;cases hv
    | some z=>rw[r] at hv;cases z with
     | none=>cases hv
     | some z=>cases hv;rfl
   have hfree:scope.names.lookup y=some .free:=S.hcaps y (ae h1')
   have hkc:=S.free y (xh hfree)
   obtain⟨m,hm,hl⟩:=I.loc
   obtain⟨u,ru,l⟩:=hl j y v hj hσ (.inr hkc)
   refine⟨u,ru,.inr ⟨isCell y hfree,?_⟩⟩
   rcases l with ⟨k,_⟩ | ⟨_,c,e,z⟩
   ·have:X.env.kindOf y=some .local:=k
    rcases hkc with q' | q' <;> (rw[q'] at this;cases this)
   ·obtain⟨c',e'⟩:=hcl2 y (xh hfree)
    have:=hcl1 y c' e'
    rw[e] at this
    cases this
    obtain⟨o,ho,hd⟩:=z
    exact⟨c,e',o,hk c o ho,hd⟩
 ·intro x c e
  obtain⟨v,o,ho,hd⟩:=I.cell x c (hcl1 x c e)
  exact⟨v,o,hk c o ho,hd⟩
 ·exact I.hok.fresh (ar _)
 ·intro x c e
  exact I.freeC x c (hcl1 x c e)
 ·intro p hp
  have hp':p ∈ X.pn ++ pins:=by
   have:p ∈ (X.pn ++ pins) ++ []:=hp
   rwa [aX] at this
  obtain⟨e,n,ne,nf,d⟩:=I.pin p hp'
  refine⟨hk _ _ e,n,?_,fun z=>?_,d⟩
  ·exact ay (ao e)
  ·rcases rH.mp (I.stkSub p.1 z) with q | q
   ·exact ne q
   ·exact nf q
 ·show (uI σ own.length ix).length=(own ++ caps).length
  have:=congrArg List.length S.hix
  rw[aa,aa] at this
  unfold uI
  rw[am,bG,aa,am,this]
end
end L3
namespace L3
def xR(σ σ':St):Prop:=σ.length=σ'.length/\∀(i:Nat) v,σ[i]? = some (some v)->σ'[i]? = some (some v)
def PTs(X:Cx)(ifs:List Expr)(t:TT):Prop :=
 ∀(pins:List (Addr × Obj)) (s:Shared) (σ:St) (H:Hp) (Q:Bool->Hp->Prop),Inv X pins σ H s->t σ H Q->wpAny (model X.prog X.w) X.A (XV ifs X.env) (TP X pins σ Q) X.xe s
def ud:TT:=fun _ H Q=>Q true H
theorem xl{X:Cx}:PTs X [] ud:=fun _ _ _ H _ I h=>rp ⟨H,I,h⟩
def kJ(wi:TI)(g:TG)(tt:TT)(te:TE)(own:Nat)(ix:List Nat):TE:=fun σ H Q=>wi σ H fun J H1=>∀ D,H1 D=none->∃ W:Nat->Nat->List V->Hp->Prop,(∃ m,W 0 m [] (upd H1 D (.lst []))) /\
 ∀ i m acc H',W i m acc H'->(J.stop i H'/\Q (.ref D) H')\/(J.go i H'/\∀ x H2,J.yld i H' x H2->g x (uI σ own ix) H2 fun σ3 H3=>xR (uI σ own ix) σ3/\tt σ3 H3 fun b H4=>if b=true then
  te σ3 H4 fun v H5=>H5 D=some (.lst acc)/\acc.length<rB/\∃ m',m'<m/\W (i+1) m' (acc ++ [v]) (upd H5 D (.lst (acc ++ [v])))
  else ∃ m',m'<m/\W (i+1) m' acc H4)
theorem HOk.but{P:Program}{w:World}{H:Hp}{h1 h2:Heap}{a:Addr}(ok:HOk P w H h1)(sb:Heap.SameBut a h1 h2)(ha:H a=none):HOk P w H h2:=fun b ob e=>by
 refine (ok b ob e).stay (fun c u hc q=>(sb.2 c ?_).trans q) (fun _ q=>q) fun _ _ q=>q
 rintro rfl
 rcases hc with rfl | hc
 ·rw[ha] at e;cases e
 ·rw[ha] at hc;cases hc
section
variable{X:Cx}{scope:Scope}{own caps:List Str}{ix:List Nat}{elt tg iter:Expr}{ifs:List Expr}{pos:Pos}{wi:TI}{g:TG}{tt:TT}{te:TE}
theorem qO(hc:X.calm=true)(S:qD X scope own caps ix)
  (hg:∀ cl C pins s3 H3 fp,PG (yZ X scope cl C (own ++ caps) pins s3 H3 fp fun _ _=>False) tg g)
  (ht:∀ cl C pins s3 H3 fp,PTs (yZ X scope cl C (own ++ caps) pins s3 H3 fp fun _ _=>False) ifs tt)
  (he:∀ cl C pins s3 H3 fp,PE (yZ X scope cl C (own ++ caps) pins s3 H3 fp fun _ _=>False) elt te)
  {cl:List (Str × Addr)} (hc1:∀ y c,cl.lookup y=some c->X.env.cells.lookup y=some c) (hc2:∀ y,(y,NameKind.free) ∈ scope.names->∃ c,cl.lookup y=some c)
  {pins:List (Addr × Obj)} {σ:St} {H2:Hp} {s2:Shared} {Q:VK} {it:Addr} {fp:List Addr} {tn:Nat->Heap->Prop} {J:It} (I2:Inv X pins σ H2 s2) (T:U6 X.prog X.w X.K tg J fp it tn) (st2:tn 0 s2.heap) (f2:∀ b ∈ fp,wT X pins H2 b)
  (q:∀ D,H2 D=none->∃ W:Nat->Nat->List V->Hp->Prop,(∃ m,W 0 m [] (upd H2 D (.lst []))) /\
   ∀ i m acc H',W i m acc H'->(J.stop i H'/\Q (.ref D) H')\/(J.go i H'/\∀ x H2,J.yld i H' x H2->g x (uI σ own.length ix) H2 fun σ3 H3=>xR (uI σ own.length ix) σ3/\tt σ3 H3 fun b H4=>if b=true then
    te σ3 H4 fun v H5=>H5 D=some (.lst acc)/\acc.length<rB/\∃ m',m'<m/\W (i+1) m' (acc ++ [v]) (upd H5 D (.lst (acc ++ [v])))
    else ∃ m',m'<m/\W (i+1) m' acc H4))
  {RR:Value->Addr->Result->Shared->Prop} {E:Value->Shared->Prop}
  (hRR:∀ D C m s' H',H2 D=none->s'.heap.Ns C m->wT X pins H' C->Inv X pins σ H' s'->Q (.ref D) H'->RR (.ref D) C (.ok .next) s') :
  wpAny (model X.prog X.w) X.A (newList []) (fun acc s3=>wpAny (model X.prog X.w) X.A (newFunctionEnv scope X.env.globals cl [] X.env.qual none .none (some X.env)) (fun cenv s4 =>
   codeAny (model X.prog X.w) X.A (.compStart (.ListComp elt [⟨tg,iter,ifs,0⟩] scope pos) 0 (.ref it) acc { cenv with scope:=relabel scope X.env }) (RR acc cenv.locals) s4) E s3) E s2:=by
 have hD:H2 s2.heap.objs.size=none:=I2.hok.fresh (ar _)
 obtain⟨W,⟨m0,w0⟩,turn⟩:=q _ hD
 refine wpAny_newObj_type (wpAny_newFunctionEnv S.nocell (by intro y hy;simp at hy) (fun h1 hns1 hsb1=>?_) S.kind)
 dsimp only at hns1 hsb1 ⊢
 have I3:Inv X pins σ (upd H2 s2.heap.objs.size (.lst [])) { s2 with heap:=s2.heap.push { cls:=.type "list",dict:=none,data:=.seq ([]:List Value).toArray } } :=
  I2.lnew (its:=[]) (t':=s2.toks) .nil (aP _)
 generalize hs3:({ s2 with heap:=s2.heap.push { cls:=.type "list",dict:=none,data:=.seq ([]:List Value).toArray } }:Shared)=s3 at I3
 have e3:s2.heap.push { cls:=.type "list",dict:=none,data:=.seq ([]:List Value).toArray }=s3.heap:=by rw[<- hs3]
 rw[e3] at hns1 hsb1 ⊢
 have k1:∀ b o,s3.heap.get? b=some o->h1.get? b=some o:=fun b o e=>(hsb1.2 b (ay (ao e))).trans (af _ e)
 have k23:∀ b o,s2.heap.get? b=some o->s3.heap.get? b=some o:=fun b o e=>by rw[<- e3];exact af _ e
 have hz:s3.heap.objs.size=s2.heap.objs.size+1:=by rw[<- e3,bK]
 have fpObj:∀ b ∈ fp,∃ o,s2.heap.get? b=some o:=fun b hb=>let ⟨o,e,_⟩:=T.obj 0 _ st2 b hb; ⟨o,e⟩
 have fplt:∀ b ∈ fp,b<s2.heap.objs.size:=fun b hb=>let ⟨o,e⟩:=fpObj b hb;ao e
 have f3:∀ b ∈ fp,wT X pins (upd H2 s2.heap.objs.size (.lst [])) b:=fun b hb=>⟨by rw[zh (ay (fplt b hb))];exact (f2 b hb).1,(f2 b hb).2⟩
 have I4:Inv (yZ X scope cl s3.heap.objs.size (own ++ caps) pins s3 (upd H2 s2.heap.objs.size (.lst [])) fp fun _ _=>False) [] (uI σ own.length ix) (upd H2 s2.heap.objs.size (.lst [])) { s3 with heap:=h1,toks:=s3.toks+([]:List (Str × Value)).length } :=
  Yo S hc1 hc2 I3 f3 (fun b hb=>by rw[hz];exact cQ (fplt b hb)) hns1 k1
 have st4:tn 0 h1:=T.keep 0 _ _ st2 fun b hb o e=>k1 b o (k23 b o e)
 generalize hs4:({ s3 with heap:=h1,toks:=s3.toks+([]:List (Str × Value)).length }:Shared)=s4 at I4
 have es4:({ s2 with heap:=h1,toks:=s2.toks+([]:List (Str × Value)).length }:Shared)=s4:=by rw[<- hs4,<- hs3]
 have e4:h1=s4.heap:=by rw[<- hs4]
 have loop:codeAny (model X.prog X.w) X.A (.compLoop (.ListComp elt [⟨tg,iter,ifs,0⟩] scope pos) 0 (.ref it) (.ref s2.heap.objs.size) (compEnvC scope cl s3.heap.objs.size X.env)) (RR (.ref s2.heap.objs.size) s3.heap.objs.size) s4:=by
  let X':=yZ X scope cl s3.heap.objs.size (own ++ caps) pins s3 (upd H2 s2.heap.objs.size (.lst [])) fp fun _ _=>False
  have fp':∀{H':Hp},(∀ b ∈ fp,H' b=none)->∀ b ∈ fp,wT X' [] H' b:=fun {H'} hn b hb=>by
   obtain⟨_,a1,a2,a3,a4,a5⟩:=f3 b hb
   refine⟨hn b hb,ay (show b<s3.heap.objs.size from by rw[hz];exact cQ (fplt b hb)),fun z=>?_,.inl hb,fun x c e=>a4 x c (hc1 x c e),fun p hp=>?_⟩
   ·rcases rH.mp (I3.stkSub b z) with e | e
    ·exact a1 e
    ·exact a2 e
   ·have:p ∈ (X.pn ++ pins) ++ []:=hp
    rw[aX] at this
    exact a5 p this
  refine Ww (fun n s'=>∃ i acc H',Inv X' [] (uI σ own.length ix) H' s'/\tn i s'.heap/\(∀ b ∈ fp,H' b=none)/\W i n acc H') rfl ?_ m0 ⟨0,[],_,I4,by rw[<- e4];exact st4,fun b hb=>(f3 b hb).1,w0⟩
  rintro n s5 ⟨i,acc,H5,I5,st5,fr5,w5⟩
  refine wpAny_noRaise ?_
  rcases turn i n acc H5 w5 with ⟨stop,qn⟩ | ⟨go,step⟩
  ·refine thn (T.done X' rfl rfl rfl hc i [] s5 _ H5 _ I5 (fp' fr5) st5 stop) fun r s6 ⟨hr,I6⟩=>?_
   subst hr
   obtain⟨m,hm,_⟩:=I6.loc
   refine hRR _ _ m s6 H5 hD hm (I3.fpOk (ar _) I6.free) (I3.call' (s':=s6) I6.os I6.base I6.hok I6.bare fun b hb=>?_) qn
   obtain⟨_,a1,a2,a3,a4,a5⟩:=f3 b hb
   exact⟨a3,a1,a4,a5⟩
  ·refine thn (T.item X' rfl rfl rfl hc i [] s5 _ H5 (fun _ _=>False) I5 (fp' fr5) st5 go) fun r s6 ⟨u,hr,h6⟩=>?_
   subst hr
   refine wpAny_noRaise (thn h6 fun _ s7 ⟨x,H7,I7,r7,y7,st7,fr7⟩=>?_)
   have I7':=I7.pinned (fp' fr7) (T.obj _ _ st7)
   refine wpAny_noRaise (thn (hg _ _ _ _ _ _ _ s7 _ H7 x u _ I7' r7 (step x H7 y7)) fun _ s8 ⟨σ8,H8,I8,ks,q8⟩=>?_)
   refine wpAny_noRaise (thn (ht _ _ _ _ _ _ _ s8 σ8 H8 _ I8 q8) fun b s9 ⟨H9,I9,q9⟩=>?_)
   have back:∀{s':Shared} {H':Hp} {acc':List V} {m':Nat},Inv X' ([] ++ kr fp s7.heap) σ8 H' s'->m'<n->W (i+1) m' acc' H'->∃ m,m<n/\∃ i acc H',Inv X' [] (uI σ own.length ix) H' s'/\tn i s'.heap/\(∀ b ∈ fp,H' b=none)/\W i m acc H':=fun {s' H' acc' m'} J' hm w'=>by
    refine⟨m',hm,i+1,acc',H',(J'.unpinned).weak ks.1 ks.2,T.keep _ _ _ st7 fun b hb o e=>(J'.pin (b,o) (aF _ (aF _ (wg hb e)))).1,fun b hb=>?_,w'⟩
    obtain⟨o,e,d⟩:=T.obj _ _ st7 b hb
    exact (J'.pin (b,o) (aF _ (aF _ (wg hb e)))).2.1
   cases b with
   | false =>
    rw[if_neg av] at q9 ⊢
    obtain⟨m',hm,w'⟩:=q9
    exact back I9 hm w'
   | true =>
    rw[if_pos rfl] at q9 ⊢
    refine wpAny_noRaise (thn (he _ _ _ _ _ _ _ s9 σ8 H9 _ I9 q9) fun v s10 ⟨y,H10,I10,r10,hD10,hsz,m',hm,w'⟩=>?_)
    refine wpAny_noRaise ?_
    have:=z7 (X:=X') _ s10 σ8 H10 (.ref s2.heap.objs.size) [y] (.ref s2.heap.objs.size) [v] (fun _ H'=>H'=upd H10 s2.heap.objs.size (.lst (acc ++ [y]))) I10 rfl (.cons r10 .nil) ⟨_,acc,y,rfl,rfl,hD10,hsz,rfl⟩
    refine thn this fun _ s11 ⟨_,H11,I11,_,eH⟩=>?_
    subst eH
    exact back I11 hm w'
 have goal:codeAny (model X.prog X.w) X.A (.compStart (.ListComp elt [⟨tg,iter,ifs,0⟩] scope pos) 0 (.ref it) (.ref s2.heap.objs.size) (compEnvC scope cl s3.heap.objs.size X.env)) (RR (.ref s2.heap.objs.size) s3.heap.objs.size) s4 :=
  codeAny_compStart_list loop (T.self _ 0 s4 _ _ (by rw[<- e4];exact st4) loop)
 rw[<- es4] at goal
 exact goal
theorem xU(hc:X.calm=true)(S:qD X scope own caps ix)(hi:PI X tg iter wi)
  (hg:∀ cl C pins s3 H3 fp,PG (yZ X scope cl C (own ++ caps) pins s3 H3 fp fun _ _=>False) tg g)
  (ht:∀ cl C pins s3 H3 fp,PTs (yZ X scope cl C (own ++ caps) pins s3 H3 fp fun _ _=>False) ifs tt)
  (he:∀ cl C pins s3 H3 fp,PE (yZ X scope cl C (own ++ caps) pins s3 H3 fp fun _ _=>False) elt te)
  (hs:∀ x,foldedSetIterable iter X.env x=pure x:=by intro _;rfl) :
  PE X (.ListComp elt [⟨tg,iter,ifs,0⟩] scope pos) (kJ wi g tt te own.length ix):=by
 intro pins s σ H Q I h
 obtain⟨cl,hclos,hc1,hc2⟩:=vC (scope:=scope) (env:=X.env) fun y hy=>I.ok.has y (S.free y hy)
 rw[eval_ListComp]
 refine wpAny_comprehension_free (use:=none) rfl hs hclos S.kind S.names (thn (hi pins s σ H _ I h) fun v s1 h1=>thn h1 fun itv s2 h2=>?_)
 obtain⟨it,fp,tn,J,H2,e,I2,T,st2,f2,q⟩:=h2
 subst e
 refine qO (RR:=fun acc C=>compPost (model X.prog X.w) X.A X.xe none (EP X pins σ Q) acc C) hc S hg ht he hc1 hc2 I2 T st2 f2 q ?_
 intro D C m s' H' _ hn fc I' qn
 obtain⟨a0,a1,a2,a3,a4,a5⟩:=fc
 exact⟨m,hn,fun h' sb=>⟨.ref D,H',I'.turned (t':=s'.toks) (fun b o hb e=>(sb.2 b hb).trans e) a0 a1 a3 a4 a5,rfl,qn⟩⟩
def ZC(i:Nat)(t:TE):TS:=fun D σ H=>t σ H fun x H1=>D.nx (σ.set i (some x)) H1
theorem Zn{i:Nat}{y:Str}{py spos:Pos}(hN:X.N.Nodup)(hy:X.N[i]? = some y)(hly:Loc X.env.scope y)(hf:X.fn y=true\/X.env.scope.names.lookup y=some .local)(hc:X.calm=true)(S:qD X scope own caps ix)(hi:PI X tg iter wi)
  (hg:∀ cl C pins s3 H3 fp,PG (yZ X scope cl C (own ++ caps) pins s3 H3 fp fun _ _=>False) tg g)
  (ht:∀ cl C pins s3 H3 fp,PTs (yZ X scope cl C (own ++ caps) pins s3 H3 fp fun _ _=>False) ifs tt)
  (he:∀ cl C pins s3 H3 fp,PE (yZ X scope cl C (own ++ caps) pins s3 H3 fp fun _ _=>False) elt te)
  (hsw:swapsWith (.ListComp elt [⟨tg,iter,ifs,0⟩] scope pos) (some (.Name y py)) spos.line X.env=pure true:=by rfl)
  (hs:∀ x,foldedSetIterable iter X.env x=pure x:=by intro _;rfl) :
  PS X (.Assign [.Name y py] (.ListComp elt [⟨tg,iter,ifs,0⟩] scope pos) spos) (ZC i (kJ wi g tt te own.length ix)):=by
 intro pins s σ H D I h
 obtain⟨cl,hclos,hc1,hc2⟩:=vC (scope:=scope) (env:=X.env) fun y hy=>I.ok.has y (S.free y hy)
 rw[exec_Assign_Name_used _ _ _ _ hsw]
 refine ro (wpAny_standAt (ro ?_))
 show wpAny _ X.A (do let _ <- comprehension (.ListComp elt [⟨tg,iter,ifs,0⟩] scope pos) scope X.env _ (newList []) false (eval iter X.env) (some (assign (.Name y py) X.env))) _ _ s
 refine ro (thn (wpAny_comprehension_free (use:=some (assign (.Name y py) X.env)) (Q:=fun _ s'=>SP X pins D .next s') rfl hs hclos S.kind S.names (thn (hi pins s σ H _ I h) fun v s1 h1=>thn h1 fun itv s2 h2=>?_)) fun _ s' hq=>rp (rp hq))
 obtain⟨it,fp,tn,J,H2,e,I2,T,st2,f2,q⟩:=h2
 subst e
 refine qO (Q:=fun x H1=>D.nx (σ.set i (some x)) H1) (RR:=fun acc C=>compPost (model X.prog X.w) X.A X.xe (some (assign (.Name y py) X.env)) (fun _ s'=>SP X pins D .next s') acc C) hc S hg ht he hc1 hc2 I2 T st2 f2 q ?_
 intro D' C m s' H1 hD' hn fc I1 nx
 obtain⟨a0,a1,a2,a3,a4,a5⟩:=fc
 show wpAny _ X.A (assign (.Name y py) X.env (.ref D')) _ _ s'
 refine wpAny_assign_Name (jU I1 hN hy hly (v:=.ref D') rfl (fun s'' I2' ⟨a,sb,ha⟩=>?_) hf)
 have hCa:C≠a:=by
  rcases ha with e | e
  ·rw[e];exact a1
  ·exact fun z=>a4 _ _ e z.symm
 refine⟨m,hn.sameBut sb hCa,fun h' sb'=>⟨_,H1,I2'.turned (t':=s''.toks) (fun b o hb e=>(sb'.2 b hb).trans e) a0 a1 a3 a4 a5,nx⟩⟩
end
end L3
namespace L3
section
variable{X:Cx}{a b:Expr}{ta tb:TE}{pos:Pos}
def YA:R2:=fun x y H Q=>(∃ i j,x=.int i/\y=.int j/\Q (.int (i+j)) H)\/(∃ i j,x=.str i/\y=.str j/\i.length+j.length<=rB/\Q (.str (i ++ j)) H)\/K5 x y H Q
theorem zL:OpR X (binaryOp .Add) YA:=op_add.or (op_add_str.or Jc)
def Vr:R2:=fun x y H Q=>(∃ i j,x=.int i/\y=.int j/\CMul i j/\Q (.int (i * j)) H)\/∃ z n,x=.str z/\y=.int n/\0<=n/\n<=1000/\z.length<=1000/\Q (.str (tx (ak n.toNat (cs z)).flatten)) H
theorem qT:OpR X (binaryOp .Mult) Vr:=op_mul.or Ys
def JZ:R2:=fun x y H Q=>(∃ i j,x=.int i/\y=.int j/\Q (.bl (decide (i<j))) H)\/∃ i j,x=.str i/\y=.str j/\Q (.bl (decide (cs i<cs j))) H
theorem WN:OpR X (compareOp .Lt) JZ:=op_lt.or op_lt_str'
def J8:R2:=fun x y H Q=>(∃ i j,x=.int i/\y=.int j/\Q (.bl (decide (i<=j))) H)\/∃ i j,x=.str i/\y=.str j/\Q (.bl (!(decide (cs j<cs i)))) H
theorem xC:OpR X (compareOp .LtE) J8:=op_le.or Xf
theorem YQ:OpR X (compareOp .Gt) (fun x y H Q=>∃ i j,x=.str i/\y=.str j/\Q (.bl (decide (cs j<cs i))) H):=by
 intro pins s σ H x y v u Q I rx ry h
 obtain⟨i,j,rfl,rfl,q⟩:=h
 obtain⟨t,rfl⟩:=rx
 obtain⟨t',rfl⟩:=ry
 exact PySem.P.gt_str ⟨.bl _,H,I,rfl,q⟩
def J6:R2:=fun x y H Q=>(∃ i j,x=.int i/\y=.int j/\Q (.bl (decide (j<i))) H)\/∃ i j,x=.str i/\y=.str j/\Q (.bl (decide (cs j<cs i))) H
theorem ZB:OpR X (compareOp .Gt) J6:=op_gt.or YQ
def J7(K:rC):V->Option Int->Option Int->Hp->VK->Prop:=fun x lo hi H Q=>zaq K x lo hi H Q\/zaz x lo hi H Q
theorem uT:SlR X (J7 X.K):=sl_list.or ZF
noncomputable def cV:V->Option Value
 | .ty n=>some (.type n)
 | .ref a=>some (.ref a)
 | _=>none
theorem WZ:ui X (.builtin "isinstance") (fun xs H Q=>∃ x c u t b,xs=[x,c]/\cV c=some u/\Yi X.K H x t/\aR X.K t u=some b/\Q (.bl b) H):=by
 intro pins s σ H xs us Q I r h
 obtain⟨x,c,u,t,b,rfl,hc,ty,e,q⟩:=h
 obtain⟨v,w',rfl,rx,rc⟩:=XA r
 have:w'=u:=by
  cases c with
  | ty n=>cases hc;exact rc
  | ref a=>cases hc;exact rc
  | _=>cases hc
 subst this
 exact XH I rx ty e fun tk=>⟨.bl b,H,I.tok tk,rfl,q⟩
end
end L3
namespace L3
noncomputable def Iel(K:rC)(a:Addr):It:=⟨fun i H=>∃ xs x,SqL K H a xs/\xs[i]? = some x,fun i H v H'=>∃ p x,H p=none/\(∀ xs,SqL K H a xs->xs[i]? = some x)/\v=.ref p/\H'=upd H p (.tup [.int (i:Nat),x]),fun i H=>∃ xs,SqL K H a xs/\i=xs.length⟩
theorem Yt{P:Program}{w:World}{K:rC}{elts:List Expr}{x1:Nat}{tpos:Pos}(e it a:Addr)(hei:e≠it) :
  U6 P w K (.Tuple elts x1 tpos) (Iel K a) [e,it] e (fun i h=>(∃ old,IsEnum h e it i old)/\h.IsListIter it a i) where
 mem:=by simp
 obj:=fun i h st b hb=>by
  obtain⟨⟨old,he⟩,o,e2,c,d⟩:=st
  rcases rH.mp hb with q | q
  ·subst q
   exact⟨_,he,fun v z=>by have z':Data.fields _=Data.cell v:=z;cases z'⟩
  ·have q':b=it:=by simpa using q
   subst q'
   exact⟨o,e2,fun v z=>by rw[d] at z;cases z⟩
 keep:=fun i h h' st k=>by
  obtain⟨⟨old,he⟩,st⟩:=st
  exact⟨⟨old,k e (by simp) _ he⟩,st.at fun o q=>k it (by simp) o q⟩
 item:=by
  intro X hP hw hK hc i pins s σ H E I hf st hg
  subst hP hw hK
  obtain⟨⟨old,he⟩,st⟩:=st
  obtain⟨xs,x,hq,hx⟩:=hg
  obtain⟨its,rv,p,hz⟩:=I.list hq
  obtain⟨u,hu,ru⟩:=rv.get hx
  have hA:X.A.in1.handled=none:=I.ok.hd hc
  have pl:=p.isList
  have hai:a≠it:=fun z=>by
   subst z
   obtain⟨o1,q1,c1,_⟩:=st
   obtain⟨o2,q2,c2,_⟩:=pl
   rw[q1] at q2;cases q2
   rw[c1] at c2
   exact absurd (Value.type.inj c2) (by decide)
  have hea:e≠a:=fun z=>by
   subst z
   obtain⟨o2,q2,c2,_⟩:=pl
   rw[he] at q2;cases q2
   exact absurd (Value.type.inj c2) (by decide)
  refine wpAny_pyNext_enum_itemD (Draws.list (A:=X.A.in1) hA it a hai its.toArray) he ⟨st,pl⟩ (by rw[ah];exact (rD.mp hu).1) hei (by simp [hei,hea]) fun v h' tk hv ho st' hT hsz kk=>?_
  have ev:v=u:=by
   have hv':its.toArray[i]? = some v:=hv
   rw[List.getElem?_toArray,hu] at hv'
   exact (Option.some.inj hv').symm
  subst ev
  refine⟨_,rfl,wpAny_letOwnedTupleGo_enum ho fun h2 he2 sb=>?_⟩
  have elt:e<s.heap.objs.size:=ao he
  have ilt:it<s.heap.objs.size:=by obtain⟨o,q,_⟩:=st;exact ao q
  have I1:Inv X pins σ H { s with heap:=h2,toks:=tk+1 }:=Inv.turns (fp:=[e,it]) I (fun b o hb q=>by
   have hb':b≠e/\b≠it:=by simpa using hb
   exact (sb.2 b hb'.1).trans (kk b o hb'.1 hb'.2 q)) hf
  have hp:H s.heap.objs.size=none:=I.hok.fresh (ar _)
  have hT2:h2.get? s.heap.objs.size=some { cls:=.type "tuple",data:=.seq #[.int (i:Nat) tk,v] }:=(sb.2 _ (cJ elt)).trans hT
  have I2:Inv X pins σ (upd H s.heap.objs.size (.tup [.int (i:Nat),x])) { s with heap:=h2,toks:=tk+1 } :=
   Inv.track I1 (I.fpOk (ar _) hp) ⟨by show 2<=rB;decide,[.int (i:Nat) tk,v],.cons ⟨_,rfl⟩ (.cons ru .nil),⟨_,hT2,rfl,_,rfl⟩⟩
  refine⟨.ref s.heap.objs.size,_,I2,rfl,⟨s.heap.objs.size,x,hp,fun ys hy=>by rw[I.list_inj hy hq];exact hx,rfl,rfl⟩,⟨⟨_,by simpa using he2⟩,?_⟩,fun b hb=>?_⟩
  ·exact st'.1.at fun o q=>(sb.2 it (Ne.symm hei)).trans q
  ·rw[zh]
   ·exact (hf b hb).1
   ·rcases rH.mp hb with q | q
    ·rw[q];exact ay elt
    ·have q':b=it:=by simpa using q
     rw[q'];exact ay ilt
 done:=by
  intro X hP hw hK hc i pins s σ H E I hf st hg
  subst hP hw hK
  obtain⟨⟨old,he⟩,st⟩:=st
  obtain⟨xs,hq,hi⟩:=hg
  obtain⟨its,rv,p,hz⟩:=I.list hq
  have pl:=p.isList
  have hai:a≠it:=fun z=>by
   subst z
   obtain⟨o1,q1,c1,_⟩:=st
   obtain⟨o2,q2,c2,_⟩:=pl
   rw[q1] at q2;cases q2
   rw[c1] at c2
   exact absurd (Value.type.inj c2) (by decide)
  have hA:X.A.in1.handled=none:=I.ok.hd hc
  have hi':i=its.toArray.size:=by rw[ah,<- rv.length];exact hi
  subst hi'
  refine wpAny_pyNext_enum_endD (Draws.list (A:=X.A.in1) hA it a hai its.toArray) he ⟨st,pl⟩ fun h' hx=>⟨rfl,?_⟩
  exact Inv.turns (fp:=[e,it]) (t':=s.toks) I (fun b o hb q=>hx b o (fun z=>hb (by simp [z])) q) hf
 self:=fun A i s Q E st h=>by
  obtain⟨⟨old,he⟩,_⟩:=st
  exact wpAny_pyIter_enum he h
section
variable{X:Cx}
def V9(K:rC)(ta:TA):TI:=fun σ H R=>ta σ H fun vs H1=>∃ a,vs=[.ref a]/\(∃ xs,SqL K H1 a xs)/\R (Iel K a) H1
theorem ZH{a:Expr}{ta:TA}{p pos tpos:Pos}{elts:List Expr}{x1:Nat}(hg:Gl X "enumerate")(hm:X.mg "enumerate" = none)(ha:PA X [a] ta)(hs:rA [a] X.env=[(false,eval a X.env)]:=by rfl) :
  PI X (.Tuple elts x1 tpos) (.Call (.Name "enumerate" p) [a] [] pos) (V9 X.K ta):=by
 intro pins s σ H R I h
 refine Call_ (ug I hg hm PyProof.Rows.boot_enumerate (cw (thn (ha pos pins s σ H _ I h) fun us s1 ⟨vs,H1,I1,r1,q1⟩=>?_) hs rfl))
 obtain⟨l,e,⟨xs,hq⟩,q⟩:=q1
 subst e
 obtain⟨u,rfl,ru⟩:=wM r1
 cases ru
 obtain⟨its,rv,pl,hz⟩:=I1.list hq
 refine call_enumerate_list pl.isList fun h' he hit hsz kk=>?_
 have I2:Inv X pins σ H1 { s1 with heap:=h' }:=I1.kept (t':=s1.toks) kk
 refine wpAny_pyIter_enum (s:={ s1 with heap:=h' }) (i:=0) he ?_
 refine⟨s1.heap.objs.size+1,[s1.heap.objs.size+1,s1.heap.objs.size],_,_,H1,rfl,I2,Yt _ _ l (Nat.succ_ne_self _),⟨⟨_,he⟩,hit⟩,fun b hb=>?_,q⟩
 have hb':s1.heap.objs.size<=b:=by
  rcases rH.mp hb with e | e
  ·rw[e];exact cN _
  ·have:b=s1.heap.objs.size:=by simpa using e
   rw[this];exact ar _
 exact I1.fpOk hb' (I1.hok.fresh hb')
end
def ForEL(K:rC)(a:Addr)(g:TG)(tb:TS)(D:xw)(σ:St)(H:Hp):Prop:=∃ W:Nat->Nat->St->Hp->Prop,(∃ m,W 0 m σ H)/\∀ i m σ H,W i m σ H ->
 ((Iel K a).stop i H/\D.nx σ H)\/((Iel K a).go i H/\∃ N:St->Hp->Prop,(∀ σ' H',N σ' H'->∃ m',m'<m/\W (i+1) m' σ' H')/\∀ x H',(Iel K a).yld i H x H'->g x σ H' fun σ2 H2=>tb { D with nx:=N,ct:=N,bk:=D.nx } σ2 H2)
theorem zag{K:rC}{ta:TA}{g:TG}{tb:TS}{D:xw}{σ:St}{H:Hp}:Va (V9 K ta) g tb D σ H=ta σ H fun vs H1=>∃ a,vs=[.ref a]/\(∃ xs,SqL K H1 a xs)/\ForEL K a g tb D σ H1:=rfl
theorem ForEL.by{K:rC}{a:Addr}{xs:List V}{g:TG}{tb:TS}{D:xw}{σ:St}{H:Hp}(Pv:Nat->St->Hp->Prop)(h0:Pv 0 σ H)(hl:∀ i σ H,i<=xs.length->Pv i σ H->SqL K H a xs)
  (hs:∀ i x σ H p,xs[i]? = some x->Pv i σ H->H p=none->g (.ref p) σ (upd H p (.tup [.int (i:Nat),x])) fun σ2 H2=>tb { D with nx:=Pv (i+1),ct:=Pv (i+1),bk:=D.nx } σ2 H2) (hd:∀ σ H,Pv xs.length σ H->D.nx σ H):ForEL K a g tb D σ H:=by
 refine⟨fun i m σ H=>m=xs.length - i/\i<=xs.length/\Pv i σ H,⟨xs.length,by simp,aP _,h0⟩,?_⟩
 rintro i m σ H ⟨rfl,hi,p⟩
 have q:=hl i σ H hi p
 by_cases hlt:i<xs.length
 ·refine .inr ⟨⟨xs,xs[i],q,by simp [hlt]⟩,Pv (i+1),fun σ' H' p'=>⟨xs.length - (i+1),by lia,rfl,hlt,p'⟩,fun v H' y=>?_⟩
  obtain⟨p',x,hp,hx,ev,eH⟩:=y
  subst ev eH
  exact hs i x σ H p' (hx xs q) p hp
 ·have e:i=xs.length:=by lia
  subst e
  exact .inl ⟨⟨xs,q,rfl⟩,hd σ H p⟩
def zbz(K:rC)(a:Addr)(g:TG)(tb:TS)(D:xw)(σ:St)(H:Hp):Prop:=∃ W:Nat->Nat->St->Hp->Prop,(∃ m,W 0 m σ H)/\∀ i m σ H,W i m σ H ->
 ((Itt K a).stop i H/\D.nx σ H)\/((Itt K a).go i H/\∃ N:St->Hp->Prop,(∀ σ' H',N σ' H'->∃ m',m'<m/\W (i+1) m' σ' H')/\∀ x H',(Itt K a).yld i H x H'->g x σ H' fun σ2 H2=>tb { D with nx:=N,ct:=N,bk:=D.nx } σ2 H2)
theorem zbo{K:rC}{tl:TE}{g:TG}{tb:TS}{D:xw}{σ:St}{H:Hp}:Va (zbh K tl) g tb D σ H=tl σ H fun x H1=>∃ a,x=.ref a/\(∃ xs,SqT K H1 a xs)/\zbz K a g tb D σ H1:=rfl
def tTr(K:rC)(ta:TE):TT:=fun σ H Q=>ta σ H fun x H'=>∃ k,QB K x H' k/\Q k H'
theorem KM{K:rC}{ta:TE}{σ:L2.St}{H:Hp}{Q:Bool->Hp->Prop}:tTr K ta σ H Q=ta σ H fun x H'=>∃ k,QB K x H' k/\Q k H':=rfl
def tBl(ta:TE):TT:=fun σ H Q=>ta σ H fun x H'=>∃ k,x=.bl k/\Q k H'
theorem zae{ta:TE}{σ:L2.St}{H:Hp}{Q:Bool->Hp->Prop}:tBl ta σ H Q=ta σ H fun x H'=>∃ k,x=.bl k/\Q k H':=rfl
section
variable{X:Cx}{a:Expr}{ta:TE}
theorem vb(ha:PE X a ta)(he:∀ whole,isTrue a X.env whole=(do let v <- whole;standAt a.pos;holding [v] (truthy v))):PT X a (tBl ta):=by
 intro pins s σ H Q I h
 refine isTrue_plain (thn (ha pins s σ H _ I h) fun v s1 ⟨x,H1,I1,r1,k,e,q1⟩=>?_) (he _)
 subst e
 exact Ub pins s1 σ H1 (.bl k) v Q I1 r1 ⟨k,rfl,q1⟩
end
end L3
namespace L3
noncomputable def Irv(K:rC)(a:Addr)(n:Nat):It:=⟨fun i H=>∃ xs,SqL K H a xs/\xs.length=n/\i<n,fun i H v H'=>H'=H/\∀ xs,SqL K H a xs->xs.length=n->xs[n - 1 - i]? = some v,fun i H=>i=n⟩
section
variable{X:Cx}{tg:Expr}
def zaZ(K:rC)(ta:TA):TI:=fun σ H R=>ta σ H fun vs H1=>∃ a xs,vs=[.ref a]/\SqL K H1 a xs/\R (Irv K a xs.length) H1
end
section
variable{prog:Program}{w:World}{A:Around}{E:Value->Shared->Prop}{s:Shared}
end
section
variable{X:Cx}
def Kp(K:rC)(ta:TA):TE:=fun σ H Q=>ta σ H fun vs H1=>∃ a xs,vs=[.ref a]/\SqL K H1 a xs/\∀ l,H1 l=none->Q (.ref l) (upd H1 l (.lst xs.reverse))
theorem UX{K:rC}{ta:TA}{σ:L2.St}{H:Hp}{Q:VK}:Kp K ta σ H Q=ta σ H fun vs H1=>∃ a xs,vs=[.ref a]/\SqL K H1 a xs/\∀ l,H1 l=none->Q (.ref l) (upd H1 l (.lst xs.reverse)):=rfl
end
noncomputable def Izp(K:rC)(a b:Addr):It:=⟨fun i H=>∃ xs ys x y,SqL K H a xs/\SqL K H b ys/\xs[i]? = some x/\ys[i]? = some y,fun i H v H'=>∃ p x y,H p=none/\(∀ xs,SqL K H a xs->xs[i]? = some x)/\(∀ ys,SqL K H b ys->ys[i]? = some y)/\v=.ref p/\H'=upd H p (.tup [x,y]),fun i H=>∃ xs ys,SqL K H a xs/\SqL K H b ys/\(xs.length=i\/ys.length=i)/\i<=xs.length/\i<=ys.length⟩
theorem xG{h:Heap}{a b:Addr}{o1 o2:Obj}{t u:String}(h1:h.get? a=some o1)(c1:o1.cls=.type t)(h2:h.get? b=some o2)(c2:o2.cls=.type u)(hne:t≠u):a≠b:=fun z=>by
 rw[z,h2] at h1
 cases h1
 rw[c2] at c1
 exact hne (Value.type.inj c1).symm
structure V2(z TI TO i1 i2:Addr):Prop where
 TIz:TI≠z
 TOz:TO≠z
 i1z:i1≠z
 i2z:i2≠z
 TITO:TI≠TO
 TIi1:TI≠i1
 TIi2:TI≠i2
 TOi1:TO≠i1
 TOi2:TO≠i2
 i12:i1≠i2
def ZipAt(z TI TO i1 i2 l1 l2:Addr)(i:Nat)(h:Heap):Prop:=IsZip h z TI TO .none/\IsPair h TI (.ref i1) (.ref i2)/\(∃ a b,IsPair h TO a b)/\h.IsListIter i1 l1 i/\h.IsListIter i2 l2 i
theorem ZipAt.apart{z TI TO i1 i2 l1 l2:Addr}{i:Nat}{h:Heap}{xs ys:Array Value}(D:V2 z TI TO i1 i2)(st:ZipAt z TI TO i1 i2 l1 l2 i h)(h1:h.IsList l1 xs)(h2:h.IsList l2 ys):ZipApart z TI TO i1 i2 l1 l2:=by
 obtain⟨hz,hTI,⟨a,b,hTO⟩,⟨o1,e1,c1,_⟩,⟨o2,e2,c2,_⟩⟩:=st
 obtain⟨p1,q1,k1,_⟩:=h1
 obtain⟨p2,q2,k2,_⟩:=h2
 exact⟨D.TIz,D.TOz,D.i1z,D.i2z,D.TITO,D.TIi1,D.TIi2,D.TOi1,D.TOi2,D.i12,xG q1 k1 hz rfl (by decide),xG q1 k1 hTO rfl (by decide),xG q1 k1 e1 c1 (by decide),xG q1 k1 e2 c2 (by decide),xG q2 k2 hz rfl (by decide),xG q2 k2 hTO rfl (by decide),xG q2 k2 e1 c1 (by decide),xG q2 k2 e2 c2 (by decide)⟩
section
variable{X:Cx}
def zbG(K:rC)(ta:TA):TI:=fun σ H R=>ta σ H fun vs H1=>∃ a b,vs=[.ref a,.ref b]/\(∃ xs,SqL K H1 a xs)/\(∃ ys,SqL K H1 b ys)/\R (Izp K a b) H1
end
def zbC(K:rC)(a b:Addr)(g:TG)(tb:TS)(D:xw)(σ:L2.St)(H:Hp):Prop:=∃ W:Nat->Nat->L2.St->Hp->Prop,(∃ m,W 0 m σ H)/\∀ i m σ H,W i m σ H ->
 ((Izp K a b).stop i H/\D.nx σ H)\/((Izp K a b).go i H/\∃ N:L2.St->Hp->Prop,(∀ σ' H',N σ' H'->∃ m',m'<m/\W (i+1) m' σ' H')/\∀ x H',(Izp K a b).yld i H x H'->g x σ H' fun σ2 H2=>tb { D with nx:=N,ct:=N,bk:=D.nx } σ2 H2)
theorem za2{K:rC}{ta:TA}{g:TG}{tb:TS}{D:xw}{σ:L2.St}{H:Hp}:Va (zbG K ta) g tb D σ H=ta σ H fun vs H1=>∃ a b,vs=[.ref a,.ref b]/\(∃ xs,SqL K H1 a xs)/\(∃ ys,SqL K H1 b ys)/\zbC K a b g tb D σ H1:=rfl
end L3
namespace L3
noncomputable abbrev xob(C:Addr)(dx:Option Addr)(t:Addr)(tb:Value):Obj:={ cls:=.ref C,dict:=dx,data:=.fields #[.ref t,tb,.none,.none,.bool false,.none] }
noncomputable abbrev xog(C:Addr)(dx:Option Addr)(t:Addr)(tb c:Value)(k:Bool):Obj:={ cls:=.ref C,dict:=dx,data:=.fields #[.ref t,tb,c,.none,.bool k,.none] }
def QH(h:Heap)(x:Addr)(tb:Value):Prop:=tb=.none\/∃ T oT ts,tb=.ref T/\T≠x/\h.get? T=some oT/\oT.data=.fields ts/\3<ts.size
section
variable{M:Model}{A:Around}{E:Value->Shared->Prop}{s:Shared}{base:Heap}{env env0:Env}{outer:List Env}{L x t C:Addr}{dx:Option Addr}{cx:Value}{kx:Bool}
theorem jQ(h:env.frame=env0.frame):d4 env=d4 env0:=by unfold d4;rw[h]
theorem WI{tb head:Value}{hadNext:Bool}{Q:Unit->Shared->Prop}(hfr:A.frames=some (env0::outer))(hl:s.heap.FunFrames base (env0::outer))(hf:env0.frame=some L)(he:env.frame=some L)
  (hx:s.heap.get? x=some (xog C dx t tb cx kx))
  (h:∀ h' oT ts,h'.get? x=some (xog C dx t (.ref s.heap.objs.size) cx kx)->s.heap.objs.size≠x->h'.get? s.heap.objs.size=some oT->oT.data=.fields ts->3<ts.size ->
   (∀ b o,b≠x->b ∉ frs (env0::outer)->s.heap.get? b=some o->h'.get? b=some o)->(∀ b o,b≠x->s.heap.get? b=some o->∃ sl,h'.get? b=some { o with slots:=sl })->Q () { s with heap:=h' }) :
  wpAny M A (do let a <- d4 env;let pl <- entryPlaceOf L hadNext;let b <- EntryCells.newEntry head a .none (rawInt L) .none pl;setField (.ref x) 1 b) Q E s:=by
 have hxf:x ∉ frs (env0::outer):=fun hm=>by
  obtain⟨_,o,ho,hnf⟩:=hl.mem hm
  rw[hx] at ho
  cases ho
  exact hnf _ rfl
 rw[jQ (he.trans hf.symm)]
 refine ro (wpAny_frameOf_fun hfr hl hf fun h1 hs1=>ro (wpAny_entryPlaceOf fun pl hpl=>?_))
 unfold EntryCells.newEntry newFields
 refine ro (wpAny_newObj_type ?_ (hpl.sizeOk5 _ _ _ _ _))
 have hz:h1.objs.size=s.heap.objs.size:=hs1.1
 have hx1:h1.get? x=some (xog C dx t tb cx kx):=(hs1.2.1 x hxf).trans hx
 generalize ho:({ cls:=.type "traceback",dict:=none,data:=.fields ([head,.ref L,.none,rawInt L,.none] ++ (if pl.isEmpty then ak 6 Value.none else pl)).toArray }:Obj)=ob
 have hx2:(h1.push ob).get? x=some (xog C dx t tb cx kx):=af _ hx1
 refine wpAny_setField hx2 rfl (by show 1<6;decide) ?_
 have hne:h1.objs.size≠x:=cJ (ao hx1)
 have hx3:((h1.push ob).update x (Obj.mapFields (·.setIfInBounds 1 (Value.ref h1.objs.size)))).get? x=some (xog C dx t (.ref h1.objs.size) cx kx) :=
  cB (Obj.mapFields (·.setIfInBounds 1 (Value.ref h1.objs.size))) hx2 rfl
 have hT:((h1.push ob).update x (Obj.mapFields (·.setIfInBounds 1 (Value.ref h1.objs.size)))).get? h1.objs.size=some ob :=
  (aJ _ _ (Ne.symm hne)).trans (aH h1 (by rw[<- ho];rfl))
 rw[hz] at hx3 hT hne
 have kp:∀ b o,b≠x->h1.get? b=some o->((h1.push ob).update x (Obj.mapFields (·.setIfInBounds 1 (Value.ref h1.objs.size)))).get? b=some o:=fun b o hb e =>
  (aJ _ _ (Ne.symm hb)).trans (af _ e)
 rw[hz] at kp ⊢
 refine h _ ob _ hx3 hne hT (by rw[<- ho]) (by simp only[ah,am,aI,db] <;> lia) (fun b o hb hbf e=>kp b o hb ((hs1.2.1 b hbf).trans e)) fun b o hb e=>?_
 obtain⟨sl,q⟩:=hs1.2.2 b o e
 exact⟨sl,kp b _ hb q⟩
theorem Zx{tb:Value}{Q:Unit->Shared->Prop}(hfr:A.frames=some (env0::outer))(hl:s.heap.FunFrames base (env0::outer))(hf:env0.frame=some L)(he:env.frame=some L)
  (hx:s.heap.get? x=some (xog C dx t tb cx kx)) (htb:QH s.heap x tb)
  (h:∀ h' T oT ts,h'.get? x=some (xog C dx t (.ref T) cx kx)->T≠x->(tb=.ref T\/s.heap.objs.size<=T)->h'.get? T=some oT->oT.data=.fields ts->3<ts.size ->
   (∀ b o,b≠x->tb≠.ref b->b ∉ frs (env0::outer)->s.heap.get? b=some o->h'.get? b=some o)->(∀ b o,b≠x->tb≠.ref b->s.heap.get? b=some o->∃ sl,h'.get? b=some { o with slots:=sl })->Q () { s with heap:=h' }) :
  wpAny M A (noteFrame (.ref x) env) (fun _ s1=>wpAny M A (setFlight (.ref x) none) Q E s1) E s:=by
 have land:∀(h1:Heap) (T:Addr) (oT:Obj) (ts:Array Value),h1.get? x=some (xog C dx t (.ref T) cx kx)->T≠x->(tb=.ref T\/s.heap.objs.size<=T)->h1.get? T=some oT->oT.data=.fields ts->3<ts.size ->
   (∀ b o,b≠x->tb≠.ref b->b ∉ frs (env0::outer)->s.heap.get? b=some o->h1.get? b=some o)->(∀ b o,b≠x->tb≠.ref b->s.heap.get? b=some o->∃ sl,h1.get? b=some { o with slots:=sl }) ->
   wpAny M A (setFlight (.ref x) none) Q E { s with heap:=h1 }:=fun h1 T oT ts e1 nT oldT e2 d2 z2 k1 k2=>by
  unfold setFlight
  refine ro (wpAny_field (s:={ s with heap:=h1 }) e1 rfl (x:=.ref T) rfl ?_)
  rw[if_pos (show (Value.ref T != Value.none)=true from by simp)]
  refine wpAny_setField (s:={ s with heap:=h1 }) e2 d2 z2 ?_
  have d3:=Obj.data_mapFields d2 (·.setIfInBounds 3 ((none:Option Addr).elim Value.none fun f=>rawInt f))
  have nb:∀ b,b≠x->tb≠.ref b->(∃ o,s.heap.get? b=some o)->b≠T:=fun b hb hbt ⟨o,eo⟩ z=>by
   subst z
   rcases oldT with q | q
   ·exact hbt q
   ·exact absurd (ao eo) (Nat.not_lt.mpr q)
  refine h _ T _ _ ((aJ _ _ nT).trans e1) nT oldT (cB _ e2 (Obj.isFreed_of_fields d3)) d3 (by simpa using z2) (fun b o hb hbt hbf e=>?_) fun b o hb hbt e=>?_
  ·exact (aJ _ _ (Ne.symm (nb b hb hbt ⟨o,e⟩))).trans (k1 b o hb hbt hbf e)
  ·obtain⟨sl,q⟩:=k2 b o hb hbt e
   exact⟨sl,(aJ _ _ (Ne.symm (nb b hb hbt ⟨o,e⟩))).trans q⟩
 unfold noteFrame
 simp only[he]
 refine ro (wpAny_field hx rfl (x:=tb) rfl ?_)
 rcases htb with rfl | ⟨T,oT,ts,rfl,nT,e2,d2,z2⟩
 ·rw[if_neg (by decide)]
  refine WI hfr hl hf he hx fun h' oT ts e1 ne e2 d2 z2 k1 k2=>land h' _ oT ts e1 ne (.inr (ar _)) e2 d2 z2 (fun b o hb _ hbf e=>k1 b o hb hbf e) fun b o hb _ e=>k2 b o hb e
 ·rw[if_pos (show (Value.ref T != Value.none)=true from by simp)]
  obtain⟨y,hy⟩:∃ y,ts[3]? = some y:=⟨ts[3],by simp [z2]⟩
  refine ro (wpAny_field e2 d2 (x:=y) hy ?_)
  by_cases c:(y == rawInt L)=true
  ·rw[if_pos c]
   exact rp (land s.heap T oT ts hx nT (.inl rfl) e2 d2 z2 (fun b o _ _ _ e=>e) fun b o _ _ e=>⟨o.slots,e⟩)
  ·rw[if_neg c]
   refine ro (wpAny_setField e2 d2 z2 ?_)
   have oth:∀ b,b≠T->(s.heap.update T (Obj.mapFields (·.setIfInBounds 3 Value.none))).get? b=s.heap.get? b:=fun b hb=>aJ _ _ (Ne.symm hb)
   have hl1:(s.heap.update T (Obj.mapFields (·.setIfInBounds 3 Value.none))).FunFrames base (env0::outer):=hl.of_keeps fun b o hb hnf=>⟨o,(oth b fun q=>by rw[q,e2] at hb;cases hb;exact hnf ts d2).trans hb,rfl⟩
   have hsz:(s.heap.update T (Obj.mapFields (·.setIfInBounds 3 Value.none))).objs.size=s.heap.objs.size:=ee ..
   refine WI (s:={ s with heap:=s.heap.update T (Obj.mapFields (·.setIfInBounds 3 Value.none)) }) hfr hl1 hf he ((oth x (Ne.symm nT)).trans hx) fun h' oT' ts' e1 ne e2' d2' z2' k1 k2=>?_
   refine land h' _ oT' ts' e1 ne (.inr (by rw[hsz];exact ar _)) e2' d2' z2' (fun b o hb hbt hbf e=>k1 b o hb hbf ((oth b fun q=>hbt (by rw[q])).trans e)) fun b o hb hbt e=>k2 b o hb ((oth b fun q=>hbt (by rw[q])).trans e)
theorem U3{tb:Value}{Q:Unit->Shared->Prop}(hfr:A.frames=some (env0::outer))(hl:s.heap.FunFrames base (env0::outer))(hf:env0.frame=some L)(he:env.frame=some L)
  (hx:s.heap.get? x=some (xog C dx t tb cx kx)) (htb:QH s.heap x tb)
  (h:∀ h' T oT ts,h'.get? x=some (xog C dx t (.ref T) cx kx)->T≠x->(tb=.ref T\/s.heap.objs.size<=T)->h'.get? T=some oT->oT.data=.fields ts->3<ts.size ->
   (∀ b o,b≠x->tb≠.ref b->b ∉ frs (env0::outer)->s.heap.get? b=some o->h'.get? b=some o)->(∀ b o,b≠x->tb≠.ref b->s.heap.get? b=some o->∃ sl,h'.get? b=some { o with slots:=sl })->Q () { s with heap:=h' }) :
  wpAny M A (leaving env (.ref x)) Q E s:=ro (Zx hfr hl hf he hx htb h)
end
def CXx(P:Program)(w:World):CXT:=fun outer H s E e s'=>∃(x C t:Addr) (dx:Option Addr) (tb:Value) (H':Hp),e=.ref x/\s'.os=s.os/\AllBare s'.gens/\Un (frs outer) [] H H' s.heap s'.heap/\HOk P w H' s'.heap /\
 s'.heap.get? x=some (xob C dx t tb)/\QH s'.heap x tb/\H' x=none/\s.heap.objs.size<=x/\(∀ T,tb=.ref T->H' T=none/\s.heap.objs.size<=T)/\E (.ref C) dx H'
def zar(X:Cx)(E:XK)(e:Value)(s:Shared):Prop:=∃(pins:List (Addr × Obj)) (σ:St) (H:Hp) (x C t:Addr) (dx:Option Addr) (tb:Value),e=.ref x/\Inv X pins σ H s /\
 s.heap.get? x=some (xob C dx t tb)/\QH s.heap x tb/\wT X pins H x/\(∀ T,tb=.ref T->wT X pins H T)/\E (.ref C) dx H
def XE(X:Cx)(E:XK):Prop:=∀ e s,zar X E e s->X.xe e s
theorem jt{X:Cx}{E:XK}(hx:XE X E):ub (CXx X.prog X.w) X E:=by
 intro pins σ H s e s' I h
 obtain⟨x,C,t,dx,tb,H',rfl,os,bare,un,hok,ob,tr,hn,hsz,hT,q⟩:=h
 have I':Inv X pins σ H' s':=I.call' os un hok bare fun b z=>absurd z (by simp)
 exact hx _ _ ⟨pins,σ,H',x,C,t,dx,tb,rfl,I',ob,tr,I.fpOk hsz hn,fun T e=>I.fpOk (hT T e).2 (hT T e).1,q⟩
theorem JI{P:Program}{w:World}{K:rC}{mg:Str->Option Value}{base:Heap}{N:List Str}{qual:Str}{scope:Scope}{f:Addr}{cd:Value}{A:Around}{outer:List Env}{s:Shared}{H:Hp}{E:XK} :
  XE (uq (CXx P w) P w K mg base N qual scope f cd A outer s H E) E:=by
 intro e s1 h
 obtain⟨pins,σ,H1,x,C,t,dx,tb,rfl,I,ob,tr,fx,fT,q⟩:=h
 show wpAny _ _ (leaving _ (.ref x)) _ _ s1
 have ff:=I.stack
 refine U3 (A:=(uq (CXx P w) P w K mg base N qual scope f cd A outer s H E).A) (env0:=envOfC qual scope s.heap.objs.size f cd) (outer:=outer) I.ok.frames ff rfl rfl ob tr fun h' T oT ts e1 nT oldT e2 d2 z2 k1 k2=>?_
 have szs:s.heap.objs.size<=s1.heap.objs.size:=I.sz
 have hxs:s.heap.objs.size<=x:=by
  rcases fx.2.2.2.1 with z | z
  ·exact absurd z (by simp [uq])
  ·exact z
 have hTs:s.heap.objs.size<=T/\H1 T=none:=by
  rcases oldT with z | z
  ·obtain⟨a0,_,_,a3,_⟩:=fT T z
   rcases a3 with y | y
   ·exact absurd y (by simp [uq])
   ·exact⟨y,a0⟩
  ·exact⟨bu szs z,I.hok.fresh z⟩
 have tbs:∀ b,tb=.ref b->s.heap.objs.size<=b/\H1 b=none:=fun b hb=>by
  obtain⟨a0,_,_,a3,_⟩:=fT b hb
  rcases a3 with y | y
  ·exact absurd y (by simp [uq])
  ·exact⟨y,a0⟩
 have old:∀ b o,s.heap.get? b=some o->b≠x/\tb≠.ref b:=fun b o e=>by
  have hb:=ao e
  refine⟨ay (aq hb hxs),fun z=>?_⟩
  exact absurd (aq hb (tbs b z).1) (cM _)
 have un:Un (frs outer) [] H H1 s.heap h':=by
  have B:=I.base
  refine⟨fun b o e n hb _=>?_,fun b o e n hb _=>?_,fun b o e n _=>B.free b o e n (by simp [uq]),fun b o e _=>?_,B.tups,B.frzs,B.tbls⟩
  ·have e1:=B.keep b o e n hb (by simp [uq])
   refine k1 b o (old b o e).1 (old b o e).2 (fun z=>?_) e1
   have z':=I.stkSub b z
   rcases rH.mp z' with q | q
   ·exact absurd q (ay (aq (ao e) I.ok.above))
   ·exact hb q
  ·obtain⟨sl,e1⟩:=B.slot b o e n hb (by simp [uq])
   obtain⟨sl',e2⟩:=k2 b _ (old b o e).1 (old b o e).2 e1
   exact⟨sl',e2⟩
  ·obtain⟨o',e1⟩:=B.there b o e (by simp [uq])
   obtain⟨sl',e2⟩:=k2 b _ (old b o e).1 (old b o e).2 e1
   exact⟨_,e2⟩
 have hok:HOk P w H1 h':=fun b u e=>by
  refine (I.hok b u e).stay (fun c v hc q=>k1 c v ?_ ?_ ?_ q) (fun _ q=>q) fun _ _ q=>q
  ·rintro rfl
   rcases hc with rfl | hc
   ·rw[fx.1] at e;cases e
   ·rw[fx.1] at hc;cases hc
  ·intro z
   have:=(tbs c z).2
   rcases hc with rfl | hc
   ·rw[this] at e;cases e
   ·rw[this] at hc;cases hc
  ·intro z
   have:=I.stkFree c z
   rcases hc with rfl | hc
   ·rw[this] at e;cases e
   ·rw[this] at hc;cases hc
 exact⟨x,C,t,dx,.ref T,H1,rfl,I.os,I.bare,un,hok,e1,.inr ⟨T,oT,ts,rfl,nT,e2,d2,z2⟩,fx.1,hxs,fun T' z=>by cases z;exact⟨hTs.2,hTs.1⟩,q⟩
theorem Fun.okX{P:Program}{w:World}{K:rC}{mg:Str->Option Value}{base:Heap}{x qual:Str}{st:Stmt}{f:Addr}{fd:FuncData}{N ps:List Str}{k:Nat}{sp:Sp}(F:Fun K x qual st f fd)(S:zm N ps (ze st))(len:∀ vs H Q E,sp vs H Q E->vs.length=ps.length)
  (hbody:∀(cdv:Value) (A:Around) (outer:List Env) (s:Shared) (H:Hp) (vs:List V) (Q:VK) (E:XK),Room k (A.deeper (envOfC qual (ze st) s.heap.objs.size f cdv))->XE (uq (CXx P w) P w K mg base N qual (ze st) f cdv A outer s H E) E->sp vs H Q E ->
   ∃ t,PSs (uq (CXx P w) P w K mg base N qual (ze st) f cdv A outer s H E) (zD st) t/\t { nx:=fun _ H'=>Q .non H',rt:=Q } (start N vs) H):FnOk P w K mg base (CXx P w) (k+1) f fd ps sp:=by
 obtain⟨oc,od,kV,doc,pm,an,cdv,ct,osl,rfl,lk,hcd⟩:=F.ex
 exact Vh lk hcd S len fun A outer s H vs Q E hr hsp=>hbody cdv A outer s H vs Q E hr JI hsp
def Q8(X:Cx)(E:XK)(e:Value)(s:Shared):Prop:=∃(cx:Value) (kx:Bool) (pins:List (Addr × Obj)) (σ:St) (H:Hp) (x C t:Addr) (dx:Option Addr) (tb:Value),e=.ref x/\Inv X pins σ H s /\
 s.heap.get? x=some (xog C dx t tb cx kx)/\QH s.heap x tb/\wT X pins H x/\(∀ T,tb=.ref T->wT X pins H T)/\E (.ref C) dx H
def XEg(X:Cx)(E:XK):Prop:=∀ e s,Q8 X E e s->X.xe e s
end L3
namespace L3
structure RoomH(k:Nat)(A:Around):Prop where
 dp:A.depth+3 * k+5<recursionLimit
 un:A.units+16 * k+200<cLine
theorem RoomH.mark{k:Nat}{A:Around}(r:RoomH k A)(e:Option Value):RoomH k (A.mark e):=⟨r.dp,r.un⟩
noncomputable def cxH(P:Program)(w:World)(K:rC)(mg:Str->Option Value)(base:Heap)(N:List Str)(qual:Str)(scope:Scope)(f:Addr)(cd:Value)(A:Around)(outer:List Env)(s:Shared)(H:Hp):Cx :=
 { uq CX0 P w K mg base N qual scope f cd A outer s H E0 with calm:=false,xe:=fun _ _=>False }
section
variable{X:Cx}{k:Nat}{f:Addr}{fd:FuncData}{ps:List Str}{sp:Sp}{x:Str}{p pos:Pos}{e:Expr}{es:List Expr}{t:TA}
end
end L3
namespace L3
noncomputable abbrev bmV:List Value:=[.type "ValueError",.type "Exception",.type "BaseException",.type "object"]
noncomputable def km(K:rC)(C:Addr):Bool:=match K.lookup C with
 | some ⟨.type "type",_,.cls cd,sl⟩=>(match cd.mro,sl.toList with
  | .ref C'::bm,[_,_,_,_,some (.builtin n),_]=>C' == C && (n == "ValueError.__new__" && (!cd.hasDel && (cd.hasDict && PySem.W.tailIn K bmV bm)))
  | _,_=>false)
 | _=>false
theorem wZ{K:rC}{C:Addr}(q:km K C=true):∃ bm N nm qn bs sn sub ab col dd k0 k1 k2 k3 k5,K.lookup C=some (excClassObj nm qn C N bs bm true sn sub ab col dd k0 k1 k2 k3 k5 "ValueError.__new__")/\∀ h:Heap,K.In h->OwnTail h bmV bm:=by
 unfold km at q
 split at q
 ·rename_i dd cd sl ho
  split at q
  ·rename_i C' bm k0 k1 k2 k3 n k5 hm hs
   simp only[cK,beq_iff_eq,Bool.not_eq_true'] at q
   obtain⟨rfl,rfl,hdel,hdct,ht⟩:=q
   obtain⟨nm,bs,mro,ns,qn,hd,sn,sub,ab,col,del⟩:=cd
   dsimp only at hm hdel hdct
   subst hm hdel hdct
   have hsl:sl=#[k0,k1,k2,k3,some (.builtin "ValueError.__new__"),k5]:=by
    obtain⟨l⟩:=sl
    simp only at hs
    rw[hs]
   subst hsl
   exact⟨bm,ns,nm,qn,bs,sn,sub,ab,col,dd,k0,k1,k2,k3,k5,ho,fun h X=>PySem.W.tail_of_in X ht⟩
  ·cases q
 ·cases q
structure XC(K:rC)(C:Addr):Prop where
 ok:km K C=true
 sa:ac K (.ref C) "__setattr__" = some (some (.builtin "object.__setattr__"))
 ga:ac K (.ref C) "__getattribute__" = some (some (.builtin "BaseException.__getattribute__"))
 gt:ac K (.ref C) "__getattr__" = some none
 kp:aG K (.ref C)=true
section
variable{prog:Program}{w:World}{A:Around}{R:Result->Shared->Prop}{h:Heap}{g:Array GenState}{d:Drawn}{t:Nat}{os:OsState}{K:rC}{C:Addr}
theorem ZR{init:Value}{rest:List Value}(X:K.In h)(q:km K C=true)(hi:ac K (.ref C) "__init__" = some (some init))
  (hb:∀ self,PySem.W.Looks (model prog w) h (bindSpecial init self) (init,[self])) (hrest:rest.length<=rB)
  (hq:codeAny (model prog w) (A.under (.builtin "type.__call__" ⟨.ref C::rest,[]⟩)) (.call init ⟨.ref (h.objs.size+1)::rest,[]⟩) (PySem.W.InitBack (h.objs.size+1) R) ⟨(h.push { cls:=.type "tuple",data:=.seq rest.toArray }).push (xob C none h.objs.size .none),g,d,t,os⟩) :
  codeAny (model prog w) A (.call (.ref C) ⟨rest,[]⟩) R ⟨h,g,d,t,os⟩:=by
 obtain⟨bm,N,nm,qn,bs,sn,sub,ab,col,dd,k0,k1,k2,k3,k5,lk,tl⟩:=wZ q
 have hC:=X _ _ lk
 have T:=tl h X
 have F:=d5
 have f1:=tc_lookup
 have f2:=tc_bind (.ref C)
 have hT:(⟨h,g,d,t,os⟩:Shared).TypeIs (.ref C) "type":=⟨_,hC,rfl⟩
 refine codeAny_of_tree ?_
 show wpAny _ _ (callAny (.ref C) _) _ _ _
 repeat (any_goals (first | assumption | with_reducible refine wpAny_loadPart_at hC ?_ | wp_step))
 refine⟨rfl,?_⟩
 refine codeAny_call_builtin_at (Code.quiet_builtin _ (by symm)) entry_typeCall (wpAny_check_type_call_sub hC ?_)
 repeat (first | with_reducible refine wpAny_loadPart_at hC ?_ | with_reducible refine wpAny_madeBy_exc hC ?_ | wp_step)
 refine codeAny_call_builtin_code (Code.quiet_builtin _ F.quiet) (wpAny_check_new_subT F T hC ?_)
 refine codeAny_exc_new_subT F T hC ?_ hrest
 show wpAny _ _ _ _ _ _
 have k:∀ b o,h.get? b=some o->((h.push { cls:=.type "tuple",data:=.seq rest.toArray }).push (xob C none h.objs.size .none)).get? b=some o:=fun b o e=>af _ (af _ e)
 have hC1:=k _ _ hC
 have hget:((h.push { cls:=.type "tuple",data:=.seq rest.toArray }).push (xob C none h.objs.size .none)).get? (h.objs.size+1)=some (xob C none h.objs.size .none):=by heap_get
 have hcC:(Value.ref C::bm).contains (.ref C)=true:=by simp
 unfold isInstance
 repeat (first | with_reducible refine wpAny_loadPart_at hget ?_ | wp_step)
 refine wpAny_isSubtype_exc (C:=C) hC1 ?_
 rw[hcC]
 repeat wp_step
 show wpAny _ _ (typeLookup (.ref C) _) _ _ _
 refine ((cG X hi).keeps k).at ?_
 refine wpAny_holding (ro (((hb _).keeps k).at ?_))
 refine ro (wpAny_call (codeAny_mono hq fun r s' z=>?_))
 rcases r with e | (v | _ | _ | _) <;> first | exact z | exact z.elim | skip
 obtain⟨rfl,z⟩:=z
 exact rp (rp z)
end
end L3
namespace L3
noncomputable def XN(x C:Addr)(dx:Option Addr):HO:=.ext fun h=>∃ t,h.get? x=some (xob C dx t .none)
noncomputable def XT(x C:Addr)(dx:Option Addr):HO:=.ext fun h=>∃ t tb c k,h.get? x=some (xog C dx t tb c k)
noncomputable def XP(x C:Addr)(dx:Option Addr):HO:=.ext fun h=>∃ t tb,h.get? x=some (xob C dx t tb)
theorem Jl{P:Program}{w:World}{H:Hp}{h:Heap}{x C t:Addr}{dx:Option Addr}(e:h.get? x=some (xob C dx t .none)):ObjOk P w H h x (XN x C dx) :=
 ⟨⟨t,e⟩,⟨_,e⟩,fun h1 h2 ⟨t,q⟩ k=>⟨t,k _ q⟩⟩
theorem zak{P:Program}{w:World}{H:Hp}{h:Heap}{x C t:Addr}{dx:Option Addr}{tb c:Value}{k:Bool}(e:h.get? x=some (xog C dx t tb c k)):ObjOk P w H h x (XT x C dx) :=
 ⟨⟨t,tb,c,k,e⟩,⟨_,e⟩,fun h1 h2 ⟨t,tb,c,k',q⟩ k=>⟨t,tb,c,k',k _ q⟩⟩
theorem Jd{P:Program}{w:World}{H:Hp}{h:Heap}{x C:Addr}{dx:Option Addr}(o:ObjOk P w H h x (XN x C dx)):∃ t,h.get? x=some (xob C dx t .none):=o.1
theorem Kd{P:Program}{w:World}{H:Hp}{h:Heap}{x C:Addr}{dx:Option Addr}(o:ObjOk P w H h x (XT x C dx)):∃ t tb c k,h.get? x=some (xog C dx t tb c k):=o.1
section
variable{nm q:Str}{C N:Addr}{bs bm:List Value}{hdct:Bool}{sn:List Str}{sub:List Value}{ab:Bool}{col:Option Bool}{dd:Option Addr}{k0 k1 k2 k3 k5:Option Value}{newId:String}{h:Heap}{M:Model}
theorem kA(hC:h.get? C=some (excClassObj nm q C N bs bm hdct sn sub ab col dd k0 k1 k2 k3 k5 newId))(base:Value):PySem.W.Looks M h (isSubtype (.ref C) base) ((Value.ref C::bm).contains base):=fun A Q E s k z=>by
 obtain⟨hp,g,d,t,os⟩:=s
 exact wpAny_isSubtype_exc (k _ _ hC) z
theorem Y2(hC:h.get? C=some (excClassObj nm q C N bs bm hdct sn sub ab col dd k0 k1 k2 k3 k5 newId)):PySem.W.Looks M h (mroOf (.ref C)) (.ref C::bm):=fun A Q E s k z=>by
 obtain⟨hp,g,d,t,os⟩:=s
 exact wpAny_mroOf_exc (k _ _ hC) z
theorem XR(hC:h.get? C=some (excClassObj nm q C N bs bm hdct sn sub ab col dd k0 k1 k2 k3 k5 newId)):PySem.W.Looks M h (classData C) { name:=nm,bases:=bs,mro:=.ref C::bm,ns:=N,qualname:=q,hasDict:=hdct,slotNames:=sn,subclasses:=sub,abstract:=ab,collection:=col,hasDel:=false }:=fun A Q E s k z=>by
 unfold classData
 exact ro (wpAny_load (k _ _ hC) (rp z))
theorem kN{bmB bm:List Value}(T:OwnTail h bmB bm)(self:Value)(hp:refuseLoop self "__setattr__" bmB=pure ()):refuseLoop self "__setattr__" bm=pure ():=by
 induction T with
 | base=>exact hp
 | own _ _ _ _ ih=>rw[refuseLoop_ref];exact ih
end
section
variable{X:Cx}{pins:List (Addr × Obj)}{σ:St}{H:Hp}{s:Shared}{A:Around}{E:Value->Shared->Prop}{x C:Addr}{f:Str}{y:V}{u:Value}
theorem UN{Q:Unit->Shared->Prop}(I:Inv X pins σ H s)(e:H x=some (XN x C none))(xc:XC X.K C)(n:NoAttr X.K C f)(ry:RelV y u)
  (h:∀ s' dx,H dx=none->Inv X pins σ (upd (upd H dx (.xd [(f,y)])) x (XN x C (some dx))) s'->Q () s'):wpAny (model X.prog X.w) A (setAttr (.ref x) f u) Q E s:=by
 obtain⟨t,ob⟩:=Jd (I.hok x _ e)
 obtain⟨bm,N,nm,qn,bs,sn,sub,ab,col,dd,k0,k1,k2,k3,k5,lk,tl⟩:=wZ xc.ok
 have hC:=I.kIn _ _ lk
 have T:=tl _ I.kIn
 have SF:=PySem.F.store_ValueError
 have J:PySem.W.InstAt s.heap x (xob C none t .none) C none:=⟨ob,rfl,rfl,trivial⟩
 have hob:(Value.ref C::bm).contains (.type "object")=true:=by rw[dh,T.hasType (show bmV.contains (.type "object")=true by symm),eg]
 have isO:PySem.W.Looks (model X.prog X.w) s.heap (isInstance (.ref x) (.type "object")) true:=J.type.andThen (by have:=kA (M:=model X.prog X.w) hC (.type "object");rw[hob] at this;exact this)
 refine fz I.kIn J xc.sa ?_
 refine codeAny_call_builtin SF.slot.plain SF.entry (@PySem.W.check_slot (model X.prog X.w) _ _ { s with toks:=s.toks+1 } "object.__setattr__" "object" "__setattr__" (.ref x) [.str f s.toks,u] [] _ SF.kind SF.split isO (SF.args _ _ _) ?_)
 rw[PySem.W.osa_eq,refuse_eq]
 refine ro (ro (J.type.here (s:={ s with toks:=s.toks+1 }) (ro ((Y2 hC).here (s:={ s with toks:=s.toks+1 }) ?_))))
 rw[refuseLoop_ref,kN T _ (SF.passes _)]
 refine rp (ro (J.type.here (s:={ s with toks:=s.toks+1 }) (ro ((cG I.kIn n).here (s:={ s with toks:=s.toks+1 }) (ro (rp ?_))))))
 show wpAny _ _ (Builtin.ObjectAttr.storeInOwnDict (.ref x) (.ref C) (.str f s.toks) f u false) _ _ _
 have hx1:(s.heap.push { cls:=.type "dict",data:=.dict #[] }).get? x=some (xob C none t .none):=af _ ob
 have hxs:x≠s.heap.objs.size:=ay (ao ob)
 refine ro (rp (ro (ro (wpAny_loadPart ob (ro ((XR hC).here (s:={ s with toks:=s.toks+1 }) ?_))))))
 rw[if_neg (by simp)]
 show wpAny _ _ (if (!true || !typeHasDict (.ref C))=true then _ else _) _ _ _
 rw[if_neg (by simp [typeHasDict])]
 have hgd:((s.heap.push { cls:=.type "dict",data:=.dict #[] }).update x fun o=>{ cls:=o.cls,dict:=some s.heap.objs.size,data:=o.data,slots:=o.slots }).get? s.heap.objs.size=some { cls:=.type "dict",data:=.dict #[] } :=
  (aJ _ _ hxs).trans (Heap.get?_push_at rfl rfl)
 have hgx:((s.heap.push { cls:=.type "dict",data:=.dict #[] }).update x fun o=>{ cls:=o.cls,dict:=some s.heap.objs.size,data:=o.data,slots:=o.slots }).get? x=some (xob C (some s.heap.objs.size) t .none) :=
  cB _ hx1 rfl
 have hnd:((s.heap.push { cls:=.type "dict",data:=.dict #[] }).update x fun o=>{ cls:=o.cls,dict:=some s.heap.objs.size,data:=o.data,slots:=o.slots }).Ns s.heap.objs.size (fun _=>none) :=
  ⟨_,#[],_,hgd,rfl,fun e he=>absurd he (by simp),fun _=>rfl⟩
 refine ro (wpAny_alloc' (ro (wpAny_update' hx1 (rp ?_))))
 show wpAny _ _ (Builtin.ObjectAttr.storeInDict s.heap.objs.size (.str f s.toks) f u) _ _ _
 unfold Builtin.ObjectAttr.storeInDict Builtin.ObjectAttr.newKeyGuard
 refine ro (rp (ro (wpAny_nsSet1 (Heap.Ns1.of_empty hnd) fun h' hn' hs=>?_)))
 obtain⟨oD,esD,epD,hoD,hdD,hcD⟩:=hn'.count (Within.cons f u Within.nil)
 refine ro (wpAny_lookBehind hoD (by rw[hdD];exact pastItsLine_dict (bu hcD (by rw[aI,db,sizeLine_eq];lia))) ?_)
 refine rp ?_
 have hx2:h'.get? x=some (xob C (some s.heap.objs.size) t .none):=(hs.2 x hxs).trans hgx
 have hfr:H s.heap.objs.size=none:=I.hok.fresh (ar _)
 have hxe:x≠s.heap.objs.size:=hxs
 refine h _ s.heap.objs.size hfr ?_
 have k0:∀ b o,b≠x->s.heap.get? b=some o->h'.get? b=some o:=fun b o hb q =>
  (hs.2 b (ay (ao q))).trans ((aJ _ _ (Ne.symm hb)).trans (af _ q))
 have I1:Inv X pins σ (upd H x (XN x C (some s.heap.objs.size))) { s with heap:=h',toks:=s.toks+1+1 } :=
  I.write (x:=x) (e:=x) (by rw[e];exact True.intro) (.inl rfl) k0 ⟨_,hx2⟩ (Jl hx2)
 have hd2:ObjOk X.prog X.w (upd (upd H x (XN x C (some s.heap.objs.size))) s.heap.objs.size (.xd [(f,y)])) h' s.heap.objs.size (.xd [(f,y)]):=by
  refine⟨_,hn',fun g=>?_⟩
  show RelO (bn g [(f,y)]) (if g=f then some u else none)
  by_cases q:g=f
  ·subst q
   rw[if_pos rfl]
   simp [bn,RelO,ry]
  ·rw[if_neg q]
   have q':(g == f)=false:=by simpa using q
   simp [bn,q',RelO]
 have fd:wT X pins (upd H x (XN x C (some s.heap.objs.size))) s.heap.objs.size:=I.fpOk (ar _) (by rw[zh (Ne.symm hxe)];exact hfr)
 have I2:=Inv.track I1 fd hd2
 have eH:upd (upd H x (XN x C (some s.heap.objs.size))) s.heap.objs.size (.xd [(f,y)])=upd (upd H s.heap.objs.size (.xd [(f,y)])) x (XN x C (some s.heap.objs.size)):=by
  funext b
  unfold upd
  by_cases b1:b=s.heap.objs.size
  ·subst b1
   rw[if_pos rfl,if_neg (Ne.symm hxe),if_pos rfl]
  ·by_cases b2:b=x
   ·subst b2
    rw[if_neg b1,if_pos rfl,if_pos rfl]
   ·rw[if_neg b1,if_neg b2,if_neg b2,if_neg b1]
 rw[eH] at I2
 exact I2
end
end L3
namespace L3
def Qi(K:rC)(ta tv:TE)(f:Str):TS:=fun D σ H=>tv σ H fun y H1=>ta σ H1 fun o H2=>∃ x C,o=.ref x/\H2 x=some (XN x C none)/\XC K C/\NoAttr K C f/\∀ dx,H2 dx=none->D.nx σ (upd (upd H2 dx (.xd [(f,y)])) x (XN x C (some dx)))
section
variable{X:Cx}{o value:Expr}{f:Str}{pos pos':Pos}{ta tv:TE}
theorem WJ(ha:PE X o ta)(hv:PE X value tv)(hs:swapsWith value (some (.Attribute o f pos')) pos.line X.env=pure false):PS X (.Assign [.Attribute o f pos'] value pos) (Qi X.K ta tv f):=by
 intro pins s σ H D I h
 refine plainObj_wpAny_Assign_Attribute (thn (hv pins s σ H _ I h) fun u s1 ⟨y,H1,I1,ry,q⟩=>thn (ha pins s1 σ H1 _ I1 q) fun ov s2 ⟨x',H2,I2,rx,x,C,ex,e,xc,n,q2⟩=>?_) hs
 subst ex
 obtain rfl:ov=Value.ref x:=rx
 exact UN I2 e xc n ry fun s3 dx hdx I3=>⟨σ,_,I3,q2 dx hdx⟩
end
section
variable{M:Model}{A:Around}{E:Value->Shared->Prop}{s:Shared}{env:Env}
theorem WH{K:rC}{x:Sem Value}{Q:Flow->Shared->Prop}(hh:A.handled=none)
  (h:wpAny M A x (fun v s1=>∃ e C t dx,v=.ref e/\K.In s1.heap/\km K C=true/\s1.heap.get? e=some (xob C dx t .none)/\E (.ref e) s1) E s):wpAny M A (raiseStmt env (some x) none) Q E s:=by
 unfold raiseStmt
 refine ro (thn h fun v s1 h1=>?_)
 obtain⟨e,C,t,dx,rfl,X,hC,he,hE⟩:=h1
 obtain⟨bm,N,nm,qn,bs,sn,sub,ab,col,dd,k0,k1,k2,k3,k5,lk,tl⟩:=wZ hC
 have hCo:=X _ _ lk
 have T:=tl _ X
 have hcB:(Value.ref C::bm).contains (.type "BaseException")=true:=by rw[dh,T.hasType (show bmV.contains (.type "BaseException")=true by symm),eg]
 obtain⟨hp,g,d,tk,os⟩:=s1
 repeat (first | with_reducible refine wpAny_loadPart_at he ?_ | with_reducible refine wpAny_loadPart_at hCo ?_ | (with_reducible refine wpAny_isSubtype_exc hCo ?_;rw[hcB]) | wp_step)
 exact wpAny_raiseNew_none hh hE
theorem WL{K:rC}{e:Expr}{pos:Pos}{Q:Flow->Shared->Prop}(hh:A.handled=none)
  (h:wpAny M A (eval e env) (fun v s1=>∃ a C t dx,v=.ref a/\K.In s1.heap/\km K C=true/\s1.heap.get? a=some (xob C dx t .none)/\E (.ref a) s1) E s):wpAny M A (exec (.Raise (some e) none pos) env) Q E s:=by
 rw[arm_exec_Raise]
 first
  | exact ro (wpAny_standAt (WH hh (ro (thn h fun v s1 h1=>ro (wpAny_standAt (rp h1))))))
  | (simp only[evalOpt,Option.map];exact ro (wpAny_standAt (WH hh (ro (thn h fun v s1 h1=>ro (wpAny_standAt (rp h1)))))))
end
noncomputable def del(H:Hp)(x:Addr):Hp:=fun b=>if b=x then none else H b
theorem Xz{H:Hp}{x b:Addr}(h:b≠x):del H x b=H b:=if_neg h
theorem ZE{H:Hp}{x:Addr}:del H x x=none:=if_pos rfl
section
variable{X:Cx}{pins:List (Addr × Obj)}{σ:St}{H:Hp}{s:Shared}
theorem Inv.untrack{x:Addr}{φ:Heap->Prop}(I:Inv X pins σ H s)(e:H x=some (.ext φ))(hs:X.s₀.heap.objs.size<=x):Inv X pins σ (del H x) s:=by
 have nx:∀ b u,H b=some u->(∀ ψ,u≠.ext ψ)->b≠x:=fun b u q nu z=>by subst z;rw[e] at q;cases q;exact nu _ rfl
 have hn:∀ b,b≠x->del H x b=H b:=fun b hb=>Xz hb
 have es:s={ s with heap:=s.heap,gens:=s.gens,drawn:=s.drawn,toks:=s.toks }:=rfl
 rw[es]
 refine I.step (g':=s.gens) (d':=s.drawn) (ch:=[x]) (fun b hb=>?_) (fun b o _ _ _ q _=>q) (fun b o _ _ _ q _=>⟨o.slots,q⟩) (fun b o hc _ n=>?_)
  (fun b o _ q=>⟨o,q⟩) (fun b xs q=>?_) (fun b u xs q=>?_) (fun b ps q=>?_) (fun m hm=>hm) (fun b u q=>?_) I.bare
 ·have eb:b=x:=by simpa using hb
  subst eb
  refine⟨.inr hs,fun z=>?_,fun y c q z=>?_,fun p hp z=>?_⟩
  ·rw[z,I.free] at e;cases e
  ·have:=I.freeC y c q;rw[z,e] at this;cases this
  ·have:=(I.pin p hp).2.1;rw[z,e] at this;cases this
 ·rw[hn b (by simpa using hc)];exact n
 ·rw[hn b (nx b _ q fun _ z=>by cases z)];exact q
 ·rw[hn b (nx b _ q fun _ z=>by cases z)];exact q
 ·exact⟨#[],by rw[hn b (nx b _ q fun _ z=>by cases z),q];simp⟩
 ·by_cases hb:b=x
  ·subst hb
   rw[ZE] at q
   cases q
  ·rw[hn b hb] at q
   exact (I.hok b u q).stay (fun c v _ z=>z) (fun c z=>by rw[hn c (nx c _ z fun _ y=>by cases y)];exact z) fun c xs z=>by rw[hn c (nx c _ z fun _ y=>by cases y)];exact z
theorem Ym{C:Addr}{us:List Value}{E:Value->Shared->Prop}{Q:Value->Shared->Prop}(I:Inv X pins σ H s)(xc:km X.K C=true)(hi:ac X.K (.ref C) "__init__" = some (some (.builtin "ValueError.__init__")))(hl:us.length<=rB)
  (h:∀ s' x t,s.heap.objs.size<=x->Inv X pins σ H s'->s'.heap.get? x=some (xob C none t .none)->Q (.ref x) s'):wpAny (model X.prog X.w) X.A (call (.ref C) us) Q E s:=by
 have F:=d5
 obtain⟨bm,N,nm,qn,bs,sn,sub,ab,col,dd,k0,k1,k2,k3,k5,lk,tl⟩:=wZ xc
 have hC:=I.kIn _ _ lk
 have T:=tl _ I.kIn
 obtain⟨hp,g,d,t,os⟩:=s
 have k:∀ b o,hp.get? b=some o->((hp.push { cls:=.type "tuple",data:=.seq us.toArray }).push (xob C none hp.objs.size .none)).get? b=some o:=fun b o e=>af _ (af _ e)
 refine wpAny_call (ZR I.kIn xc hi (fun self=>PySem.W.Looks.of_pure (F.init.bind self)) hl ?_)
 have hget:((hp.push { cls:=.type "tuple",data:=.seq us.toArray }).push (xob C none hp.objs.size .none)).get? (hp.objs.size+1)=some (xob C none hp.objs.size .none):=by heap_get
 refine codeAny_call_builtin F.init.plain F.initEntry (wpAny_check_init_subT F (T.keeps k) (k _ _ hC) hget rfl ?_)
 wp_walk
 refine⟨rfl,h _ (hp.objs.size+1) ((hp.push { cls:=.type "tuple",data:=.seq us.toArray }).push (xob C none hp.objs.size .none)).objs.size (cN _) (I.kept (t':=t) fun b o e=>?_) ?_⟩
 ·exact (aJ _ _ (cJ (cQ (ao e)))).trans (af _ (k b o e))
 ·exact cB (Obj.mapFields fun x=>x.setIfInBounds 0 (Value.ref ((hp.push { cls:=.type "tuple",data:=.seq us.toArray }).push (xob C none hp.objs.size .none)).objs.size)) (af _ hget) rfl
def Wi(E:XK)(C:Addr)(t:TA):TS:=fun _ σ H=>t σ H fun vs H1=>vs.length<=rB/\E (.ref C) none H1
theorem z6{E:XK}{C:Addr}{cn:Str}{np cpos pos:Pos}{e:Expr}{es:List Expr}{t:TA}(hx:XE X E)(hc:X.calm=true)(xc:XC X.K C)(hi:ac X.K (.ref C) "__init__" = some (some (.builtin "ValueError.__init__")))(hg:Gl X cn)(hm:X.mg cn=some (.ref C))(ha:PA X (e::es) t)
  (hdb:(cn == ("__debug__" : Str))=false:=by decide) (he:rA (e::es) X.env=(false,eval e X.env)::rA es X.env:=by rfl) (hpl:(backTo cpos (rA es X.env)).any (·.1)=false:=by rfl) :
  PS X (.Raise (some (.Call (.Name cn np) (e::es) [] cpos)) none pos) (Wi E C t):=by
 intro pins s σ H D I h
 refine WL (K:=X.K) (I.ok.hd hc) (wpAny_Call_Name_kw (wK I hg hm ?_ hdb))
 refine bI (h₀:=X.base) I.ok.mod.kin xc.kp (thn (ha cpos pins s σ H _ I h) fun us s1 ⟨vs,H1,I1,r,z,q⟩=>⟨I1.kIn,?_⟩) he hpl
 refine Ym (us:=[] ++ us) I1 xc.ok hi (by show us.length<=rB;rw[<- r.length];exact z) fun s2 x t hz I2 ob=>⟨x,C,t,none,rfl,I2.kIn,xc.ok,ob,?_⟩
 exact hx _ _ ⟨pins,σ,H1,x,C,t,none,.none,rfl,I2,ob,.inl rfl,I1.fpOk hz (I1.hok.fresh hz),fun T z=>(by cases z),q⟩
theorem We{A:Around}{C:Addr}{us:List Value}{k:Nat}(r:Room (k+1) A):Room k (A.under (.builtin "type.__call__" ⟨.ref C::us,[]⟩)):=r.make C us []
def XO(E:XK)(C:Addr)(sp:Sp)(t:TA):TS:=fun _ σ H=>t σ H fun vs H1=>vs.length<=rB/\∀ x,H1 x=none->sp (.ref x::vs) (upd H1 x (XN x C none)) (fun v H2=>v=.non/\∃ dx,H2 x=some (XN x C dx)/\E (.ref C) dx (del H2 x)) E0
theorem jL{E:XK}{C f:Addr}{fd:FuncData}{k:Nat}{ps:List Str}{sp:Sp}{cn:Str}{np cpos pos:Pos}{e:Expr}{es:List Expr}{t:TA}(hx:XE X E)(hc:X.calm=true)(xc:XC X.K C)(hi:ac X.K (.ref C) "__init__" = some (some (.ref f)))(hfn:aQ X.K (.ref f)=true)
  (F:FnOk X.prog X.w X.K X.mg X.base CX0 k f fd ps sp) (hr:Room (k+1) X.A) (hb:Binds X.K fd ps []) (hg:Gl X cn) (hm:X.mg cn=some (.ref C)) (ha:PA X (e::es) t)
  (hdb:(cn == ("__debug__" : Str))=false:=by decide) (he:rA (e::es) X.env=(false,eval e X.env)::rA es X.env:=by rfl) (hpl:(backTo cpos (rA es X.env)).any (·.1)=false:=by rfl) :
  PS X (.Raise (some (.Call (.Name cn np) (e::es) [] cpos)) none pos) (XO E C sp t):=by
 intro pins s σ H D I h
 refine WL (K:=X.K) (I.ok.hd hc) (wpAny_Call_Name_kw (wK I hg hm ?_ hdb))
 refine bI (h₀:=X.base) I.ok.mod.kin xc.kp (thn (ha cpos pins s σ H _ I h) fun us s1 ⟨vs,H1,I1,r,z,q⟩=>⟨I1.kIn,?_⟩) he hpl
 have hl:us.length<=rB:=by rw[<- r.length];exact z
 have ob:((s1.heap.push { cls:=.type "tuple",data:=.seq us.toArray }).push (xob C none s1.heap.objs.size .none)).get? (s1.heap.objs.size+1)=some (xob C none s1.heap.objs.size .none):=by heap_get
 have hfr:H1 (s1.heap.objs.size+1)=none:=I1.hok.fresh (cN _)
 have I2:Inv X pins σ (upd H1 (s1.heap.objs.size+1) (XN (s1.heap.objs.size+1) C none)) { s1 with heap:=(s1.heap.push { cls:=.type "tuple",data:=.seq us.toArray }).push (xob C none s1.heap.objs.size .none) } :=
  I1.laid (t':=s1.toks) (fun b o e=>af _ (af _ e)) (cN _) (Jl ob)
 have q1:=q _ hfr
 have r2:Vals (V.ref (s1.heap.objs.size+1)::vs) (Value.ref (s1.heap.objs.size+1)::us):=.cons rfl r
 have hlen:(Value.ref (s1.heap.objs.size+1)::us ++ ([]:List Value)).length=ps.length:=by
  rw[aX,<- r2.length]
  exact F.len _ _ _ _ q1
 have hb2:=hb { s1 with heap:=(s1.heap.push { cls:=.type "tuple",data:=.seq us.toArray }).push (xob C none s1.heap.objs.size .none) } (Value.ref (s1.heap.objs.size+1)::us) I2.kIn hlen
 rw[aX] at hb2
 have run:=F.run _ X.stack _ _ ⟨Value.ref (s1.heap.objs.size+1)::us,[]⟩ (Value.ref (s1.heap.objs.size+1)::us) _ _ E0 (We (C:=C) (us:=us) hr) (I2.env0.make C us []) hb2 r2 q1
 have sz0:X.s₀.heap.objs.size<=s1.heap.objs.size+1:=bu I1.sz (cN _)
 show wpAny (model X.prog X.w) X.A (call (.ref C) us) _ X.xe s1
 refine wpAny_call ?_
 refine ZR (h:=s1.heap) (g:=s1.gens) (d:=s1.drawn) (t:=s1.toks) (os:=s1.os) (rest:=us) I1.kIn xc.ok hi (fun self=>fF I1.kIn self (beq_iff_eq.mp hfn)) hl (codeAny_mono run fun r s' hq=>?_)
 cases r with
 | error e=>exact False.elim hq
 | ok fl =>
  cases fl with
  | ret u =>
   obtain⟨v,H',I3,rv,ev,dx,hx3,q3⟩:=I2.after hq
   subst ev
   refine⟨rv,?_⟩
   obtain⟨t,ob3⟩:=Jd (I3.hok _ _ hx3)
   have I4:=Inv.untrack I3 hx3 sz0
   refine⟨_,C,t,dx,rfl,I3.kIn,xc.ok,ob3,hx _ _ ⟨pins,σ,_,_,C,t,dx,.none,rfl,I4,ob3,.inl rfl,?_,fun T z=>(by cases z),q3⟩⟩
   exact I1.fpOk (cN _) ZE
  | next=>exact False.elim hq
  | brk=>exact False.elim hq
  | cont=>exact False.elim hq
end
end L3
namespace L3
def Qk(X:Cx)(pins:List (Addr × Obj))(σ:St)(E:XK)(e:Value)(s:Shared):Prop:=∃(cx:Value) (kx:Bool) (H:Hp) (x C t:Addr) (dx:Option Addr) (tb:Value),e=.ref x/\Inv X pins σ H s /\
 s.heap.get? x=some (xog C dx t tb cx kx)/\QH s.heap x tb/\wT X pins H x/\(∀ T,tb=.ref T->wT X pins H T)/\E (.ref C) dx H
noncomputable abbrev TX:=St->Hp->VK->XK->Prop
def PEX(X:Cx)(e:Expr)(t:TX):Prop :=
 ∀(pins:List (Addr × Obj)) (s:Shared) (σ:St) (H:Hp) (Q:VK) (E:XK),Inv X pins σ H s->t σ H Q E->wpAny (model X.prog X.w) X.A (eval e X.env) (EP X pins σ Q) (Qk X pins σ E) s
section
variable{X:Cx}
variable{k:Nat}{f:Addr}{fd:FuncData}{ps:List Str}{sp:Sp}{dvs:List V}{ds:List Value}{x:Str}{p pos:Pos}{e:Expr}{es:List Expr}{t:TA}
theorem Vc(F:FnOk X.prog X.w X.K X.mg X.base (CXx X.prog X.w) k f fd ps sp)(hr:Room k X.A)(hg:Gl X x)(hm:X.mg x=some (.ref f))(hk:aG X.K (.ref f)=true)(hb:Binds X.K fd ps ds)(hd:Vals dvs ds)
  (ha:PA X.nox (e::es) t) (hdb:(x == ("__debug__" : Str))=false:=by decide) (he:rA (e::es) X.env=(false,eval e X.env)::rA es X.env:=by rfl) (hpl:(backTo pos (rA es X.env)).any (·.1)=false:=by rfl) :
  PEX X (.Call (.Name x p) (e::es) [] pos) (fun σ H Q E=>t σ H fun vs H1=>sp (vs ++ dvs) H1 Q E):=by
 intro pins s σ H Q E I h
 refine wpAny_Call_Name_kw (wK I hg hm ?_ hdb)
 refine bI (h₀:=X.base) I.ok.mod.kin hk (wpAny_noRaise (thn (ha pos pins s σ H _ (I.wish _) h) fun us s1 ⟨vs,H1,I1,r,q⟩=>⟨I1.kIn,?_⟩)) he hpl
 have I1':Inv X pins σ H1 s1:=I1.unwish
 have r2:Vals (vs ++ dvs) (us ++ ds):=r.append hd
 have hl:(us ++ ds).length=ps.length:=by rw[<- r2.length];exact F.len _ _ _ _ q
 refine wpAny_call (codeAny_mono (F.run X.A X.stack s1 H1 ⟨us,[]⟩ (us ++ ds) (vs ++ dvs) Q E hr I1'.env0 (hb s1 us I1'.kIn hl) r2 q) fun r s' hq=>?_)
 cases r with
 | error e =>
  obtain⟨x,C,t,dx,tb,H',rfl,os,bare,un,hok,ob,tr,hn,hsz,hT,q⟩:=hq
  exact⟨.none,false,H',x,C,t,dx,tb,rfl,I1'.call' os un hok bare (fun b z=>absurd z (by simp)),ob,tr,I1'.fpOk hsz hn,fun T e=>I1'.fpOk (hT T e).2 (hT T e).1,q⟩
 | ok fl =>
  cases fl with
  | ret u=>exact I1'.after hq
  | next=>exact False.elim hq
  | brk=>exact False.elim hq
  | cont=>exact False.elim hq
end
noncomputable abbrev Cx.suite(X:Cx)(e:Value):Cx:={ X with A:=X.A.mark (some e),calm:=false,xe:=fun _ _=>False }
theorem Inv.suite{X:Cx}{pins:List (Addr × Obj)}{σ:St}{H:Hp}{s:Shared}(I:Inv X pins σ H s)(e:Value):Inv (Cx.suite X e) pins σ H s :=
 ⟨⟨I.ok.mod,I.ok.kind,I.ok.glob,I.ok.blt,I.ok.above,I.ok.inj,I.ok.has,I.ok.cab,fun z=>absurd z (by simp [Cx.suite]),I.ok.frames,I.ok.stk,I.ok.exf,I.ok.bs,I.ok.bsz,I.ok.noex,I.ok.exfs,I.ok.funs,I.ok.frf⟩,
  I.os,I.bare,I.base,I.loc,I.cell,I.free,I.freeC,I.pin,I.hok,I.len⟩
theorem Inv.unsuite{X:Cx}{pins:List (Addr × Obj)}{σ σ':St}{H H':Hp}{s s':Shared}{e:Value}(J:Inv X pins σ' H' s')(I:Inv (Cx.suite X e) pins σ H s):Inv X pins σ H s :=
 ⟨J.ok,I.os,I.bare,I.base,I.loc,I.cell,I.free,I.freeC,I.pin,I.hok,I.len⟩
structure Hd where
 D:Addr
 i:Nat
 ts:TS
def tHs(K:rC)(C:Addr)(dx:Option Addr)(x:Addr)(Dd:xw)(σ:St)(H:Hp):List Hd->Prop
 | []=>False
 | h::r=>∃ b,dA K (.ref C) (.ref h.D)=some b/\if b=true then h.ts { Dd with nx:=fun σ' H'=>Dd.nx (σ'.set h.i none) H',bk:=fun σ' H'=>Dd.bk (σ'.set h.i none) H',ct:=fun σ' H'=>Dd.ct (σ'.set h.i none) H' } (σ.set h.i (some (.ref x))) H else tHs K C dx x Dd σ H r
section
variable{X:Cx}{pins:List (Addr × Obj)}{σ:St}{H:Hp}{s:Shared}
theorem vp{M:Model}{A:Around}{E:Value->Shared->Prop}{i:Nat}{n:Str}{pos:Pos}{Q:Unit->Shared->Prop}(I:Inv X pins σ H s)(hN:X.N.Nodup)(hi:X.N[i]? = some n)(hk:X.env.scope.names.lookup n=some .local)
  (h:∀ s',Inv X pins (σ.set i none) H s'->Q () s'):wpAny M A (do bindName X.env n .none;unbindBehindTheSuite X.env n pos) Q E s:=by
 obtain⟨m,hn,hl⟩:=id I.loc
 have hcls:(X.env.scope.kind == .class || (X.env.scope.kind == .module && X.env.locals != X.env.globals))=false:=by rw[I.ok.kind];rfl
 have hiσ:i<σ.length:=by rw[I.len];exact (rD.mp hi).1
 have cne:=I.cne
 refine wpAny_nameGoes_keeps hk hn hcls fun h' v hn' hs=>?_
 obtain⟨oL,_,_,hoL,_⟩:=id hn
 refine h _ ⟨I.ok,I.os,I.bare,⟨fun b o e n hb hx=>?_,fun b o e n hb hx=>?_,I.base.free,fun b o e hx=>?_,I.base.tups,I.base.frzs,I.base.tbls⟩,⟨_,hn',fun j y v' e1 e2 e3=>?_⟩,fun y c e=>?_,I.free,I.freeC,fun p hp=>?_,?_,by simpa using I.len⟩
 ·exact (hs.2 b (ay (aq (ao e) I.ok.above))).trans (I.base.keep b o e n hb hx)
 ·obtain⟨sl,e1⟩:=I.base.slot b o e n hb hx
  exact⟨sl,(hs.2 b (ay (aq (ao e) I.ok.above))).trans e1⟩
 ·obtain⟨o',e1⟩:=I.base.there b o e hx
  exact⟨o',(hs.2 b (ay (aq (ao e) I.ok.above))).trans e1⟩
 ·by_cases hj:j=i
  ·subst hj
   rw[dq hiσ] at e2
   cases e2
  ·rw[dE (Ne.symm hj)] at e2
   obtain⟨u',r',q⟩:=hl j y v' e1 e2 e3
   refine⟨u',r',?_⟩
   rcases q with ⟨k,e⟩ | ⟨k,c,e,z⟩
   ·refine .inl ⟨k,?_⟩
    have:y≠n:=fun e=>hj (jj hN e1 (e ▸ hi))
    simp [this,e]
   ·exact .inr ⟨k,c,e,z.sameBut hs (cne y c e)⟩
 ·obtain⟨w',z⟩:=I.cell y c e
  exact⟨w',z.sameBut hs (cne y c e)⟩
 ·obtain⟨e,n,ne,nf,d⟩:=I.pin p hp
  exact⟨(hs.2 p.1 ne).trans e,n,ne,nf,d⟩
 ·exact HOk.but I.hok hs I.free
end
theorem JH{M:Model}{A:Around}{E:Value->Shared->Prop}{K:rC}{s:Shared}{x C D t:Addr}{dx:Option Addr}{tb cx:Value}{kx:Bool}{b:Bool}{Q:Bool->Shared->Prop}(X:K.In s.heap)(hD:km K D=true)(he:s.heap.get? x=some (xog C dx t tb cx kx))
  (hs:dA K (.ref C) (.ref D)=some b) (h:Q b s):wpAny M A (excMatches (.ref x) (.ref D)) Q E s:=by
 obtain⟨bm,N,nm,qn,bs,sn,sub,ab,col,dd,k0,k1,k2,k3,k5,lk,tl⟩:=wZ hD
 have hDo:=X _ _ lk
 have T:=tl _ X
 have hcB:(Value.ref D::bm).contains (.type "BaseException")=true:=by rw[dh,T.hasType (show bmV.contains (.type "BaseException")=true by symm),eg]
 have L:=PySem.W.looks_subIn (M:=M) X hs
 have f:=tc_notTuple
 obtain⟨hp,g,d,tk,os⟩:=s
 unfold excMatches
 repeat (first | with_reducible refine wpAny_loadPart_at he ?_ | with_reducible refine wpAny_loadPart_at hDo ?_ | (with_reducible refine wpAny_isSubtype_exc hDo ?_;rw[hcB]) | (with_reducible refine PySem.W.Looks.at L ?_) | wp_step)
 cases b with
 | false=>exact rp (rp (rp h))
 | true=>exact rp (rp (rp h))
structure zbf(X:Cx)(h:ExceptHandler)(d:Hd):Prop where
 ex:∃(cn n:Str) (np pos:Pos) (b0:Stmt) (suite:List Stmt),h=.ExceptHandler (some (.Name cn np)) (some n) (b0::suite) pos/\Gl X cn/\X.mg cn=some (.ref d.D)/\X.N[d.i]? = some n/\X.env.scope.names.lookup n=some .local/\(cn == ("__debug__" : Str))=false /\
  (∀ e,PSs (Cx.suite X e) (b0::suite) d.ts)
 xc:km X.K d.D=true
inductive kR(X:Cx):List ExceptHandler->List Hd->Prop
 | nil {hs}:kR X hs []
 | cons {h d hs ds}:zbf X h d->kR X hs ds->kR X (h::hs) (d::ds)
section
variable{X:Cx}
theorem kj(hN:X.N.Nodup):∀{hs:List ExceptHandler} {ds:List Hd},kR X hs ds->∀{pins:List (Addr × Obj)} {s:Shared} {σ:St} {H:Hp} {Dd:xw} {x C T:Addr} {dx:Option Addr},Inv X pins σ H s->H x=some (XT x C dx) ->
  (∃ t cx kx,s.heap.get? x=some (xog C dx t (.ref T) cx kx))->(∃ oT ts,s.heap.get? T=some oT/\oT.data=.fields ts/\3<ts.size)->wT X pins H T->tHs X.K C dx x Dd σ H ds ->
  wpAny (model X.prog X.w) X.A (handleBy (.ref x) X.env hs) (SP X pins Dd) X.xe s
 | _,_,.nil,_,_,_,_,_,_,_,_,_,_,_,_,_,_,h=>h.elim
 | _,_,.cons h1 h2,pins,s,σ,H,Dd,x,C,T,dx,I,hx,⟨t,cx,kx,ob⟩,⟨oT,ts,eT,dT,zT⟩,fT,h=>by
  obtain⟨⟨cn,n,np,pos,b0,suite,rfl,hg,hm,hi,hk,hdb,hsu⟩,xc⟩:=h1
  obtain⟨b,hb,q⟩:=h
  have I':=Inv.suite I (.ref x)
  refine wpAny_handleBy_cons (codeAny_handlers_test (wK (X:=Cx.suite X (.ref x)) I' hg hm (JH I.kIn xc ob hb ?_) hdb)) (by intro q;cases q)
  cases b with
  | false =>
   rw[if_neg av] at q
   exact kj hN h2 I hx ⟨t,cx,kx,ob⟩ ⟨oT,ts,eT,dT,zT⟩ fT q
  | true =>
   rw[if_pos rfl] at q
   refine codeAny_handlers_suite_as ?_
   unfold setFlight
   refine ro (wpAny_field ob rfl (x:=.ref T) rfl ?_)
   rw[if_pos (show (Value.ref T != Value.none)=true from by simp)]
   refine wpAny_setField eT dT zT ?_
   obtain⟨f0,f1,f2,f3,f4,f5⟩:=fT
   have I2:Inv X pins σ H { s with heap:=s.heap.update T (Obj.mapFields (·.setIfInBounds 3 ((none:Option Addr).elim Value.none fun f=>rawInt f))) } :=
    I.turned (t':=s.toks) (fun b o hb e=>(aJ _ _ (Ne.symm hb)).trans e) f0 f1 f3 f4 f5
   refine um (X:=Cx.suite X (.ref x)) (v:=.ref x) (Inv.suite I2 (.ref x)) hN hi (.inl hk) rfl (fun s3 I3=>?_) (.inr hk)
   refine wpAny_noRaise (thn (hsu _ pins s3 _ H _ I3 q) fun fl s4 q4=>?_)
   cases fl with
   | next =>
    obtain⟨σ4,H4,I4,n4⟩:=q4
    exact vp (Inv.unsuite I I4) hN hi hk fun s5 I5=>⟨_,_,I5,n4⟩
   | brk =>
    obtain⟨σ4,H4,I4,n4⟩:=q4
    exact vp (Inv.unsuite I I4) hN hi hk fun s5 I5=>⟨_,_,I5,n4⟩
   | cont =>
    obtain⟨σ4,H4,I4,n4⟩:=q4
    exact vp (Inv.unsuite I I4) hN hi hk fun s5 I5=>⟨_,_,I5,n4⟩
   | ret v =>
    obtain⟨y,σ4,H4,I4,r4,n4⟩:=q4
    exact vp (Inv.unsuite I I4) hN hi hk fun s5 I5=>⟨y,_,_,I5,r4,n4⟩
noncomputable def tbL:Value->List Addr
 | .ref b=>[b]
 | _=>[]
def KW(K:rC)(i:Nat)(te:TX)(hds:List Hd):TS:=fun D σ H=>te σ H (fun v H1=>D.nx (σ.set i (some v)) H1) fun cls dx H1=>∃ C,cls=.ref C/\∀ x,H1 x=none->tHs K C dx x D σ (upd H1 x (XT x C dx)) hds
theorem QM{i:Nat}{y:Str}{yp apos pos:Pos}{e:Expr}{te:TX}{h:ExceptHandler}{hs:List ExceptHandler}{hds:List Hd}(hN:X.N.Nodup)(hy:X.N[i]? = some y)(hly:Loc X.env.scope y)(hf:X.fn y=true\/X.env.scope.names.lookup y=some .local)
  (hst:X.stack=X.env::X.outer/\X.env.frame=some X.env.locals) (he:PEX X e te) (hh:kR X (h::hs) hds) (hsw:swapsWith e (some (.Name y yp)) apos.line X.env=pure false:=by rfl) :
  PS X (.Try [.Assign [.Name y yp] e apos] (h::hs) [] [] pos) (KW X.K i te hds):=by
 intro pins s σ H D I hq
 refine wpAny_Try_except (wpAny_execs_cons (wpAny_Assign_Name (wpAny_mono (he pins s σ H _ _ I hq) (fun v s1 ⟨z,H1,I1,r1,q1⟩=>?_) fun e s1 fl=>?_) hsw))
 ·exact um I1 hN hy hly r1 (fun s2 I2=>wpAny_execs_nil (wpAny_execs_nil ⟨_,H1,I2,q1⟩)) hf
 ·obtain⟨cx,kx,H1,x,C,t,dx,tb,rfl,I1,ob,tr,fx,fT,C',ec,q1⟩:=fl
  cases ec
  have fr:X.A.frames=some (X.env::X.outer):=by rw[<- hst.1];exact I1.ok.frames
  have ff:s1.heap.FunFrames X.base (X.env::X.outer):=by rw[<- hst.1];exact I1.stack
  refine Zx fr ff hst.2 hst.2 ob tr fun h' T oT ts e1 nT oldT e2 d2 z2 k1 k2=>?_
  have fT':wT X pins H1 T:=by
   rcases oldT with z | z
   ·exact fT T z
   ·exact I1.fpOk z (I1.hok.fresh z)
  have tbs:∀ b,tb=.ref b->H1 b=none:=fun b hb=>(fT b hb).1
  have nch:∀ b o,s1.heap.get? b=some o->b ∉ (x::T::tbL tb)->b≠x/\tb≠.ref b:=fun b o _ hb=>by
   refine⟨fun z=>hb (by simp [z]),fun z=>hb ?_⟩
   rw[z]
   simp [tbL]
  have un:Un (frs X.stack) (x::T::tbL tb) H1 H1 s1.heap h':=by
   rw[hst.1]
   refine⟨fun b o e n hb hc=>?_,fun b o e n hb hc=>?_,fun b o e n _=>n,fun b o e hc=>?_,fun b xs e=>e,fun b o u e=>e,fun b ps e=>⟨#[],by rw[e];simp⟩⟩
   ·obtain⟨a1,a2⟩:=nch b o e hc
    exact k1 b o a1 a2 hb e
   ·obtain⟨a1,a2⟩:=nch b o e hc
    exact k2 b o a1 a2 e
   ·obtain⟨a1,a2⟩:=nch b o e hc
    obtain⟨sl,q⟩:=k2 b o a1 a2 e
    exact⟨_,q⟩
  have hok:HOk X.prog X.w H1 h':=fun b u e=>by
   refine (I1.hok b u e).stay (fun c v hc q=>k1 c v ?_ ?_ ?_ q) (fun _ q=>q) fun _ _ q=>q
   ·rintro rfl
    rcases hc with rfl | hc
    ·rw[fx.1] at e;cases e
    ·rw[fx.1] at hc;cases hc
   ·intro z
    have:=tbs c z
    rcases hc with rfl | hc
    ·rw[this] at e;cases e
    ·rw[this] at hc;cases hc
   ·intro z
    rw[<- hst.1] at z
    have:=I1.stkFree c z
    rcases hc with rfl | hc
    ·rw[this] at e;cases e
    ·rw[this] at hc;cases hc
  have I2:Inv X pins σ H1 { s1 with heap:=h' }:=I1.call' (s':={ s1 with heap:=h' }) rfl un hok I1.bare fun b hb=>by
   have fb:wT X pins H1 b:=by
    rcases rH.mp hb with z | z
    ·rw[z];exact fx
    ·rcases rH.mp z with z | z
     ·rw[z];exact fT'
     ·cases tb with
      | ref b' =>
       have:b=b':=by simpa [tbL] using z
       rw[this];exact fT b' rfl
      | _=>simp [tbL] at z
   obtain⟨_,a1,_,a3,a4,a5⟩:=fb
   exact⟨a3,a1,a4,a5⟩
  have I3:Inv X pins σ (upd H1 x (XT x C dx)) { s1 with heap:=h' }:=Inv.track I2 fx (zak e1)
  exact kj hN hh I3 zb ⟨t,_,_,e1⟩ ⟨oT,ts,e2,d2,z2⟩ ⟨by rw[zh nT];exact fT'.1,fT'.2⟩ (q1 x fx.1)
end
end L3
namespace L3
section
variable{prog:Program}{w:World}{A:Around}{E:Value->Shared->Prop}{s:Shared}{K:rC}{x C:Addr}{ox:Obj}{od:Option Obj}{name:Str}{tk:Tok}
theorem QK{fill expr:Bool}{Q:Value->Shared->Prop}(X:K.In s.heap)(xc:XC K C)(J:PySem.W.InstAt s.heap x ox C od)
  (h:wpAny (model prog w) A.in1 (Builtin.«object.__getattribute__» ⟨[.ref x,.str name tk],[]⟩) (fun fin s'=>match fin with | .done (.ret v)=>wpAny (model prog w) A (handedOut v) Q E s' | _=>False) (fun _ _=>False) s) :
  wpAny (model prog w) A (getAttrBy (.ref x) (.str name tk) fill expr) Q E s:=by
 obtain⟨bm,N,nm,qn,bs,sn,sub,ab,col,dd,k0,k1,k2,k3,k5,lk,tl⟩:=wZ xc.ok
 have hC:=X _ _ lk
 have T:=tl _ X
 have FB:=PySem.F.attrBase_ValueError
 have L0:=J.type (M:=model prog w)
 have L1:=cG (M:=model prog w) X xc.ga
 have L2:=cG (M:=model prog w) X xc.gt
 have hcB:(Value.ref C::bm).contains (.type "BaseException")=true:=by rw[dh,T.hasType (show bmV.contains (.type "BaseException")=true by symm),eg]
 have isB:PySem.W.Looks (model prog w) s.heap (isInstance (.ref x) (.type "BaseException")) true:=L0.andThen (by have:=kA (M:=model prog w) hC (.type "BaseException");rw[hcB] at this;exact this)
 have f3:=FB.ga.bind (.ref x)
 have hx0:(expr && onTheHeap (Value.builtin "BaseException.__getattribute__"))=false:=by cases expr <;> rfl
 have hx2:(Value.builtin "BaseException.__getattribute__" == Value.builtin "object.__getattribute__")=false:=by symm
 have hx1:(onTheHeap (Value.ref C) && Value.builtin "BaseException.__getattribute__" == Value.builtin "object.__getattribute__")=false:=by rw[hx2];rfl
 unfold getAttrBy
 refine wpAny_holding (ro (L0.here (ro (L1.here ?_))))
 show wpAny _ _ (if (onTheHeap (Value.ref C) && Value.builtin "BaseException.__getattribute__" == Value.builtin "object.__getattribute__")=true then _ else _) _ _ _
 rw[hx1,if_neg av]
 unfold getAttrByItsOwn hookBefore
 rw[if_pos (by rfl)]
 refine ro (L2.here (ro (wpAny_attempt (wpAny_holding ?_))))
 unfold callGetattribute
 rw[hx0,if_neg av]
 unfold boundAndCalled
 rw[f3]
 refine ro (rp ?_)
 show wpAny (model prog w) A (call (.builtin "BaseException.__getattribute__") [.ref x,.str name tk]) _ _ s
 refine wpAny_call (codeAny_call_builtin FB.ga.plain PySem.F.entry_bexc_ga (@PySem.W.check_slot (model prog w) _ _ s "BaseException.__getattribute__" "BaseException" "__getattribute__" (.ref x) [.str name tk] [] _ (by symm) (by symm) isB (PySem.F.args_bexc_ga _ _) ?_))
 refine wpAny_mono h (fun fin s' z=>?_) fun _ _ z=>z.elim
 rcases fin with (_ | _ | _ | v) | _ <;> first | exact z | exact z.elim
theorem V8{Q:Option Value->Shared->Prop}(X:K.In s.heap)(xc:XC K C)(J:PySem.W.InstAt s.heap x ox C od)(ha:ac K (.ref C) "__class__" = some (some (.builtin "object.__class__")))
  (hn:cr K (.builtin "object.__class__") "__get__" = some (some (.builtin "getset_descriptor.__get__"))) (htk:da K (.builtin "object.__class__")=some true) (hm:br K C (.type "object")=some true)
  (h:Q (some (.ref C)) { s with toks:=s.toks+1 }):wpAny (model prog w) A (getAttr? (.ref x) "__class__") Q E s:=by
 have hf:fG K C od "__class__" = some (.bind (.builtin "getset_descriptor.__get__") (.builtin "object.__class__")):=by
  obtain⟨bm,N,nm,qn,bs,sn,sub,ab,col,dd,k0,k1,k2,k3,k5,lk,tl⟩:=wZ xc.ok
  have hcl:(PySem.W.clsIn K C).isSome=true:=by unfold PySem.W.clsIn;rw[lk];rfl
  obtain⟨cd,hc⟩:=rR.mp hcl
  unfold fG
  rw[hc,fE,ha,fE]
  simp [hn,htk]
 unfold getAttr? getAttrBy?
 refine ro (wpAny_mkText (ro (wpAny_attempt (QK (s:={ s with toks:=s.toks+1 }) X xc J ?_))))
 have L0:=J.type (M:=model prog w)
 have L1:=PySem.W.looks_find (M:=model prog w) X J hf
 unfold Builtin.«object.__getattribute__»
 refine ro (rp (ro (rp (ro (L0.here (s:={ s with toks:=s.toks+1 }) (ro (L1.here (s:={ s with toks:=s.toks+1 }) ?_)))))))
 show wpAny _ _ (holding [.builtin "object.__class__"] (call (.builtin "getset_descriptor.__get__") [.builtin "object.__class__",.ref x,.ref C]) >>= ret) _ _ _
 refine ro (wpAny_holding (wpAny_call (PySem.W.class_get (s:={ s with toks:=s.toks+1 }) X J hm ?_)))
 refine rp ?_
 show wpAny _ _ (handedOut (.ref C)) _ _ _
 rw[PySem.W.handedOut_of rfl]
 exact rp (rp h)
end
structure XI(K:rC)(C:Addr):Prop extends XC K C where
 ca:ac K (.ref C) "__class__" = some (some (.builtin "object.__class__"))
 cg:cr K (.builtin "object.__class__") "__get__" = some (some (.builtin "getset_descriptor.__get__"))
 ct:da K (.builtin "object.__class__")=some true
 mo:br K C (.type "object")=some true
theorem JS{h:Heap}{x C t:Addr}{tb c:Value}{k:Bool}(ob:h.get? x=some (xog C none t tb c k)):PySem.W.InstAt h x (xog C none t tb c k) C none:=⟨ob,rfl,rfl,trivial⟩
theorem K9{K:rC}{x C:Addr}{dx:Option Addr}(xi:XI K C):PySem.W.KitX K (.ref x) (.ref C) (fun h=>(∃ t tb c k,h.get? x=some (xog C dx t tb c k))/\∀ d,dx=some d->∃ o,h.get? d=some o) where
 ty:=fun M h X ⟨⟨t,tb,c,k',ob⟩,_⟩=>(PySem.W.Looks.ld ob).andThen .now
 it:=fun M h X _=>by
  obtain⟨bm,N,nm,qn,bs,sn,sub,ab,col,dd,k0,k1,k2,k3,k5,lk,tl⟩:=wZ xi.ok
  intro A' Q' E' s' k q
  unfold isType loadHead
  exact ro (wpAny_loadPart (k _ _ (X _ _ lk)) (rp q))
 ne:=fun h tp dd its n sl X htp=>by
  obtain⟨bm,N,nm,qn,bs,sn,sub,ab,col,dd,k0,k1,k2,k3,k5,lk,tl⟩:=wZ xi.ok
  refine Bool.eq_false_iff.mpr fun q=>?_
  have e:C=tp:=Value.ref.inj (beq_iff_eq.mp q)
  subst e
  have z:=congrArg (fun o:Option Obj=>o.map fun o=>match o.data with | .cls _=>true | _=>false) ((X _ _ lk).symm.trans htp)
  exact absurd (show true=false from Option.some.inj z) (by decide)
 ca:=fun {prog w A E Q s} X ⟨⟨t,tb,c,k',ob⟩,hd⟩ k=>by
  cases dx with
  | none=>exact V8 X xi.toXC (JS ob) xi.ca xi.cg xi.ct xi.mo k
  | some d =>
   obtain⟨o,e⟩:=hd d rfl
   exact V8 (od:=some o) X xi.toXC ⟨ob,rfl,rfl,e⟩ xi.ca xi.cg xi.ct xi.mo k
section
variable{X:Cx}
def XAt(H:Hp)(x C:Addr)(dx:Option Addr)(fs:List (Str × V)):Prop:=H x=some (XT x C dx)/\((dx=none/\fs=[])\/∃ d,dx=some d/\H d=some (.xd fs))
theorem Xn:ui X (.builtin "isinstance") (fun xs H Q=>∃ x C dx fs c u b,xs=[.ref x,c]/\cV c=some u/\XAt H x C dx fs/\XI X.K C/\aR X.K (.ref C) u=some b/\Q (.bl b) H):=by
 intro pins s σ H xs us Q I r h
 obtain⟨x,C,dx,fs,c,u,b,rfl,hc,⟨hx,hd⟩,xi,e,q⟩:=h
 obtain⟨v,w',rfl,rx,rc⟩:=XA r
 cases rx
 have:w'=u:=by
  cases c with
  | ty n=>cases hc;exact rc
  | ref a=>cases hc;exact rc
  | _=>cases hc
 subst this
 refine bj (K9 (dx:=dx) xi) I.kIn ⟨Kd (I.hok _ _ hx),fun d z=>?_⟩ e (fun z=>nomatch z) fun tk=>⟨.bl b,H,I.tok tk,rfl,q⟩
 rcases hd with ⟨z',_⟩ | ⟨d',z',hd'⟩
 ·rw[z'] at z;cases z
 ·rw[z'] at z;cases z
  obtain⟨mA,⟨o,es,ep,ho,_⟩,_⟩:=I.hok _ _ hd'
  exact⟨o,ho⟩
def Kj(K:rC)(ta:TE)(f:Str):TE:=fun σ H Q=>ta σ H fun y H1=>∃ x C dx fs v,y=.ref x/\XAt H1 x C dx fs/\XC K C/\bD K C=true/\NoAttr K C f/\fs.lookup f=some v/\Q v H1
end
end L3
namespace L3
structure Df(P:Program)(w:World)(K:rC)(mg:Str->Option Value)(base:Heap)(CX:CXT)(k:Nat)(nm:Str)(ps:List Str)(ds:List Value)(sp:Sp):Prop where
 ex:∃ f fd,FnOk P w K mg base CX k f fd ps sp/\mg nm=some (.ref f)/\aG K (.ref f)=true/\Binds K fd ps ds
structure Bt(mg:Str->Option Value):Prop where
 len:mg "len" = none
 range:mg "range" = none
 isi:mg "isinstance" = none
 str:mg "str" = none
 int:mg "int" = none
 tuple:mg "tuple" = none
 list:mg "list" = none
 bool:mg "bool" = none
 enum:mg "enumerate" = none
 all:mg "all" = none
 verr:mg "ValueError" = none
 max:mg "max" = none
 rev:mg "reversed" = none
 zip:mg "zip" = none
 sum:mg "sum" = none
 sorted:mg "sorted" = none
section
variable{X:Cx}{CX:CXT}{k:Nat}{ps:List Str}{sp:Sp}{ds:List Value}{dvs:List V}{E:XK}{x:Str}{p pos:Pos}{e:Expr}{es:List Expr}{t:TA}
theorem cl0{j:Nat}(D:Df X.prog X.w X.K X.mg X.base CX0 k x ps ds sp)(hr:Room j X.A)(hd:Vals dvs ds)(hg:Gl X x)(ha:PA X (e::es) t)(hdb:(x == ("__debug__" : Str))=false:=by decide)(he:rA (e::es) X.env=(false,eval e X.env)::rA es X.env:=by rfl)
  (hpl:(backTo pos (rA es X.env)).any (·.1)=false:=by rfl) (hj:k<=j:=by decide):PE X (.Call (.Name x p) (e::es) [] pos) (je sp dvs E0 t):=by
 obtain⟨f,fd,F,hm,hk,hb⟩:=D.ex
 exact XG F (hr.mono hj) hg hm hk hb hd k7 ha hdb he hpl
theorem clX{j:Nat}(D:Df X.prog X.w X.K X.mg X.base (CXx X.prog X.w) k x ps ds sp)(hr:Room j X.A)(hd:Vals dvs ds)(hg:Gl X x)(ha:PA X.nox (e::es) t)(hdb:(x == ("__debug__" : Str))=false:=by decide)(he:rA (e::es) X.env=(false,eval e X.env)::rA es X.env:=by rfl)
  (hpl:(backTo pos (rA es X.env)).any (·.1)=false:=by rfl) (hj:k<=j:=by decide):PEX X (.Call (.Name x p) (e::es) [] pos) (fun σ H Q E=>t σ H fun vs H1=>sp (vs ++ dvs) H1 Q E):=by
 obtain⟨f,fd,F,hm,hk,hb⟩:=D.ex
 exact Vc F (hr.mono hj) hg hm hk hb hd ha hdb he hpl
theorem clP{j:Nat}(hx:XE X E)(D:Df X.prog X.w X.K X.mg X.base (CXx X.prog X.w) k x ps ds sp)(hr:Room j X.A)(hd:Vals dvs ds)(hg:Gl X x)(ha:PA X (e::es) t)(hdb:(x == ("__debug__" : Str))=false:=by decide)(he:rA (e::es) X.env=(false,eval e X.env)::rA es X.env:=by rfl)
  (hpl:(backTo pos (rA es X.env)).any (·.1)=false:=by rfl) (hj:k<=j:=by decide):PE X (.Call (.Name x p) (e::es) [] pos) (je sp dvs E t):=by
 obtain⟨f,fd,F,hm,hk,hb⟩:=D.ex
 exact XG F (hr.mono hj) hg hm hk hb hd (jt hx) ha hdb he hpl
end
theorem UR{X:Cx}{cn n:Str}{np pos:Pos}{b0:Stmt}{suite:List Stmt}{hs:List ExceptHandler}{ds:List Hd}{D:Addr}{ts:TS}(i:Nat)(hsu:∀ e,PSs (Cx.suite X e) (b0::suite) ts)(hg:Gl X cn)(hm:X.mg cn=some (.ref D))(hi:X.N[i]? = some n)(hk:X.env.scope.names.lookup n=some .local)(xc:km X.K D=true)(r:kR X hs ds)
  (hdb:(cn == ("__debug__" : Str))=false:=by decide):kR X (.ExceptHandler (some (.Name cn np)) (some n) (b0::suite) pos::hs) (⟨D,i,ts⟩::ds) :=
 .cons ⟨⟨cn,n,np,pos,b0,suite,rfl,hg,hm,hi,hk,hdb,hsu⟩,xc⟩ r
def TyX(K:rC)(H:Hp)(x:V)(t:Value):Prop:=Yi K H x t\/(∃ a C dx fs,x=.ref a/\t=.ref C/\XAt H a C dx fs/\XI K C)\/(∃ a xs,x=.ref a/\t=.type "list"/\SqL K H a xs)\/∃ a xs,x=.ref a/\t=.type "tuple"/\SqT K H a xs
def JP(K:rC):List V->Hp->VK->Prop:=fun xs H Q=>∃ x c u t b,xs=[x,c]/\cV c=some u/\TyX K H x t/\aR K t u=some b/\Q (.bl b) H
theorem Ja{X:Cx}:ui X (.builtin "isinstance") (JP X.K):=by
 intro pins s σ H xs us Q I r h
 obtain⟨x,c,u,t,b,rfl,hc,ty,e,q⟩:=h
 rcases ty with ty | ⟨a,C,dx,fs,rfl,rfl,ha,xi⟩ | ⟨a,ys,rfl,rfl,hq⟩ | ⟨a,ys,rfl,rfl,hq⟩
 ·exact WZ pins s σ H _ us Q I r ⟨x,c,u,t,b,rfl,hc,ty,e,q⟩
 ·exact Xn pins s σ H _ us Q I r ⟨a,C,dx,fs,c,u,b,rfl,hc,ha,xi,e,q⟩
 all_goals
  obtain⟨v,w',rfl,rx,rc⟩:=XA r
  have:w'=u:=by
   cases c with
   | ty n=>cases hc;exact rc
   | ref a=>cases hc;exact rc
   | _=>cases hc
  subst this
  cases rx
 ·obtain⟨its,_,p,_⟩:=I.list hq
  obtain⟨o,h1,h2,_⟩:=p.isList
  exact bj d7 I.kIn ⟨o,h1,h2⟩ e (fun z=>nomatch z) fun tk=>⟨.bl b,H,I.tok tk,rfl,q⟩
 ·obtain⟨its,_,p,_⟩:=I.tuple hq
  obtain⟨o,h1,h2,_⟩:=p
  exact bj fk I.kIn ⟨o,h1,h2⟩ e (fun z=>nomatch z) fun tk=>⟨.bl b,H,I.tok tk,rfl,q⟩
theorem VU{X:Cx}{e:Expr}{te:TE}{c:Str}{C:Addr}{p q pos:Pos}(h1:Gl X "isinstance")(h2:X.mg "isinstance" = none)(he:PE X e te)(hg:Gl X c)(hm:X.mg c=some (.ref C))(hd:(c == ("__debug__" : Str))=false:=by decide)
  (hs1:rA [e,.Name c q] X.env=(false,eval e X.env)::rA [.Name c q] X.env:=by rfl) (hs3:rA [.Name c q] X.env=(false,eval (.Name c q) X.env)::rA [] X.env:=by rfl) (hs2:(backTo pos (rA [.Name c q] X.env)).any (·.1)=false:=by rfl):PE X (.Call (.Name "isinstance" p) [e,.Name c q] [] pos) (tCB (JP X.K) (zN te (zN (tC (.ref C)) wQ))) :=
 zo Ja h1 h2 boot_isinstance (za he (za (vX hg hm rfl hd) zc hs3) hs1) (he:=hs1) (hpl:=hs2)
theorem vR{X:Cx}{e:Expr}{te:TE}{c:Str}{n:String}{p q pos:Pos}(h1:Gl X "isinstance")(h2:X.mg "isinstance" = none)(he:PE X e te)(hg:Gl X c)(hm:X.mg c=none)(hv:bootBuiltins c=some (.type n))(hn:c≠"__name__":=by decide)(hd:(c == ("__debug__" : Str))=false:=by decide)
  (hs1:rA [e,.Name c q] X.env=(false,eval e X.env)::rA [.Name c q] X.env:=by rfl) (hs3:rA [.Name c q] X.env=(false,eval (.Name c q) X.env)::rA [] X.env:=by rfl) (hs2:(backTo pos (rA [.Name c q] X.env)).any (·.1)=false:=by rfl):PE X (.Call (.Name "isinstance" p) [e,.Name c q] [] pos) (tCB (JP X.K) (zN te (zN (tC (.ty n)) wQ))) :=
 zo Ja h1 h2 boot_isinstance (za he (za (UQ hg hm hv rfl hn hd) zc hs3) hs1) (he:=hs1) (hpl:=hs2)
theorem JQ{a:Addr}:cV (.ref a)=some (.ref a):=rfl
theorem zaA{n:String}:cV (.ty n)=some (.type n):=rfl
theorem zbA{P w K mg base N q sc f cd A o s H}:(cxH P w K mg base N q sc f cd A o s H).K=K:=rfl
def WC:V->List V->Hp->VK->Prop:=fun x xs H Q=>∃ z y,x=.str z/\xs=[.str y]/\Q (.int (Txt.count z y)) H
theorem YY{X:Cx}:MtR X "str.count" WC:=Vu
def Xa:V->List V->Hp->VK->Prop:=fun x xs H Q=>∃ z y,x=.str z/\xs=[.str y]/\Q (.int (Txt.find z y)) H
theorem YS{X:Cx}:MtR X "str.find" Xa:=U5
theorem Wy(l:List Nat)(c:Nat):Txt.count (tx l) (tx [c])=(l.count c:Int):=by
 have h:∀ l:List Nat,cnt c l=(l.count c:Int):=fun l=>by
  induction l with
  | nil=>rfl
  | cons n r ih =>
   rw[cnt_cons,ih,List.count_cons]
   by_cases e:n=c
   ·subst e;simp;lia
   ·have:(n == c)=false:=by simpa using e
    simp [e,this]
 exact (PyProof.Rows.count_is (tx l) c).trans (h l)
theorem lt1{a b:Nat}:([a]:List Nat) < [b] ↔ a<b:=by rw[List.cons_lt_cons_iff];exact⟨fun h=>h.elim id fun⟨_,q⟩=>absurd q (List.not_lt_nil _),.inl⟩
theorem Wu{l:List Nat}{k v:Nat}(h:l[k]? = some v):(v::(l.take k ++ l.drop (k+1))).Perm l:=by
 obtain⟨hk,e⟩:=rD.mp h
 have e2:l.take k ++ (v::l.drop (k+1))=l:=by
  rw[<- e,<- aT hk,bW]
 exact (List.perm_middle.symm.trans (by rw[e2]))
def U4(K:rC):List V->Hp->VK->Prop:=fun xs H Q=>∃ x n,xs=[x]/\K2 K x H n/\Q (.int n) H
theorem zW{X:Cx}:ui X (.builtin "len") (U4 X.K):=Ve
def ForR(lo:Int)(n:Nat)(g:TG)(tb:TS)(D:xw)(σ:St)(H:Hp):Prop:=∃ W:Nat->Nat->St->Hp->Prop,(∃ m,W 0 m σ H)/\∀ i m σ H,W i m σ H ->
 ((Itr lo n).stop i H/\D.nx σ H)\/((Itr lo n).go i H/\∃ N:St->Hp->Prop,(∀ σ' H',N σ' H'->∃ m',m'<m/\W (i+1) m' σ' H')/\∀ x H',(Itr lo n).yld i H x H'->g x σ H' fun σ2 H2=>tb { D with nx:=N,ct:=N,bk:=D.nx } σ2 H2)
theorem KH{ta:TA}{g:TG}{tb:TS}{D:xw}{σ:St}{H:Hp}:Va (QA ta) g tb D σ H=ta σ H fun vs H1=>∃ j:Int,vs=[.int j]/\-(2 ^ 62)<=j/\j<2 ^ 62/\ForR 0 j.toNat g tb D σ H1:=rfl
theorem Kk{ta:TA}{g:TG}{tb:TS}{D:xw}{σ:St}{H:Hp}:Va (Kv ta) g tb D σ H=ta σ H fun vs H1=>∃ i j:Int,vs=[.int i,.int j]/\(-(2 ^ 62)<=i/\i<2 ^ 62/\-(2 ^ 62)<=j/\j<2 ^ 62)/\ForR i (j - i).toNat g tb D σ H1:=rfl
theorem ForR.by{lo:Int}{n:Nat}{g:TG}{tb:TS}{D:xw}{σ:St}{H:Hp}(Pv:Nat->St->Hp->Prop)(h0:Pv 0 σ H)
  (hs:∀ i σ H,i<n->Pv i σ H->g (.int (lo+i)) σ H fun σ2 H2=>tb { D with nx:=Pv (i+1),ct:=Pv (i+1),bk:=D.nx } σ2 H2) (hd:∀ σ H,Pv n σ H->D.nx σ H):ForR lo n g tb D σ H:=WQ Pv h0 hs hd
def ForL(K:rC)(a:Addr)(g:TG)(tb:TS)(D:xw)(σ:St)(H:Hp):Prop:=∃ W:Nat->Nat->St->Hp->Prop,(∃ m,W 0 m σ H)/\∀ i m σ H,W i m σ H ->
 ((Itl K a).stop i H/\D.nx σ H)\/((Itl K a).go i H/\∃ N:St->Hp->Prop,(∀ σ' H',N σ' H'->∃ m',m'<m/\W (i+1) m' σ' H')/\∀ x H',(Itl K a).yld i H x H'->g x σ H' fun σ2 H2=>tb { D with nx:=N,ct:=N,bk:=D.nx } σ2 H2)
theorem za8{K:rC}{tl:TE}{g:TG}{tb:TS}{D:xw}{σ:St}{H:Hp}:Va (Qa K tl) g tb D σ H=tl σ H fun x H1=>∃ a,x=.ref a/\(∃ xs,SqL K H1 a xs)/\ForL K a g tb D σ H1:=rfl
def ForS(x:Str)(g:TG)(tb:TS)(D:xw)(σ:St)(H:Hp):Prop:=∃ W:Nat->Nat->St->Hp->Prop,(∃ m,W 0 m σ H)/\∀ i m σ H,W i m σ H ->
 ((Its x).stop i H/\D.nx σ H)\/((Its x).go i H/\∃ N:St->Hp->Prop,(∀ σ' H',N σ' H'->∃ m',m'<m/\W (i+1) m' σ' H')/\∀ v H',(Its x).yld i H v H'->g v σ H' fun σ2 H2=>tb { D with nx:=N,ct:=N,bk:=D.nx } σ2 H2)
theorem zbH{tl:TE}{g:TG}{tb:TS}{D:xw}{σ:St}{H:Hp}:Va (J0 tl) g tb D σ H=tl σ H fun v H1=>∃ x,v=.str x/\ForS x g tb D σ H1:=rfl
theorem ForS.by{l:List Nat}{g:TG}{tb:TS}{D:xw}{σ:St}{H:Hp}(Pv:Nat->St->Hp->Prop)(h0:Pv 0 σ H)
  (hs:∀ i c σ H,l[i]? = some c->Pv i σ H->g (.str (tx [c])) σ H fun σ2 H2=>tb { D with nx:=Pv (i+1),ct:=Pv (i+1),bk:=D.nx } σ2 H2) (hd:∀ σ H,Pv l.length σ H->D.nx σ H):ForS (tx l) g tb D σ H:=UK Pv h0 hs hd
def za6(x:Str)(g:TG)(tb:TS)(D:xw)(σ:St)(H:Hp):Prop:=∃ W:Nat->Nat->St->Hp->Prop,(∃ m,W 0 m σ H)/\∀ i m σ H,W i m σ H ->
 ((Ite x).stop i H/\D.nx σ H)\/((Ite x).go i H/\∃ N:St->Hp->Prop,(∀ σ' H',N σ' H'->∃ m',m'<m/\W (i+1) m' σ' H')/\∀ v H',(Ite x).yld i H v H'->g v σ H' fun σ2 H2=>tb { D with nx:=N,ct:=N,bk:=D.nx } σ2 H2)
theorem zbu{ta:TA}{g:TG}{tb:TS}{D:xw}{σ:St}{H:Hp}:Va (zat ta) g tb D σ H=ta σ H fun vs H1=>∃ x,vs=[.str x]/\za6 x g tb D σ H1:=rfl
theorem Wo{α:Type}(l:List α){k:Int}(h:0<=k):cut l none (some k)=l.take k.toNat:=by
 obtain⟨n,rfl⟩:=bv h
 unfold cut
 rw[HT.sIx_none,HT.sIx_nat,List.drop_zero,Nat.sub_zero]
 by_cases q:n<=l.length
 ·rw[dc q];rfl
 ·rw[dB (by lia),be,bS (by simp;lia)]
theorem jg{α:Type}(l:List α){k:Int}(h:0<=k):cut l (some k) none=l.drop k.toNat:=by
 obtain⟨n,rfl⟩:=bv h
 unfold cut
 rw[HT.sIx_none,HT.sIx_nat]
 by_cases q:n<=l.length
 ·rw[dc q]
  rw[bS (by rw[bJ] <;> lia)]
  rfl
 ·rw[dB (by lia),List.drop_length,bB (by simp;lia)]
  simp
theorem vg{α:Type}{xs:List α}{i:Int}(h0:0<=i)(h1:i<xs.length):∃ v,atI xs i=some v/\xs[i.toNat]? = some v:=by
 obtain⟨n,rfl⟩:=bv h0
 have hn:n<xs.length:=by lia
 exact⟨xs[n],ji (ag hn),ag hn⟩
noncomputable def kX:List Nat:=[97,98,99,100,101,102,103,104,105,106,107,108,109,110,111,112,113,114,115,116,117,118,119,120,121,122]
theorem YM:(("abcdefghijklmnopqrstuvwxyz" : Str))=tx kX:=by symm
theorem ye:(rB:Nat)=16777216:=sizeLine_eq
theorem cxK{CX P w K mg base N q sc f cd A o s H E}:(uq CX P w K mg base N q sc f cd A o s H E).K=K:=rfl
theorem cxP{CX P w K mg base N q sc f cd A o s H E}:(uq CX P w K mg base N q sc f cd A o s H E).prog=P:=rfl
theorem cxW{CX P w K mg base N q sc f cd A o s H E}:(uq CX P w K mg base N q sc f cd A o s H E).w=w:=rfl
theorem Uy{a b:Int}:UY (.int a) (.int b)=true:=rfl
theorem UI{a b:Str}:UY (.str a) (.str b)=true:=rfl
theorem zao{a b:Bool}:UY (.bl a) (.bl b)=true:=rfl
theorem zaa{b:Str}:UY .non (.str b)=true:=rfl
theorem zas{b:Str}:UY (.str b) .non=true:=rfl
theorem zf{H:Hp}{p:Addr}{o:HO}(h:H p=none):Same H (upd H p o):=fun b u e=>by
 rw[zh (zr e h)]
 exact e
theorem yb{α:Type}{l:List α}{i:Nat}{c:α}(h:l[i]? = some c):l.take (i+1)=l.take i ++ [c]:=by
 rw[List.take_add_one,h];rfl
end L3
namespace L3
structure FunD(K:rC)(x qual:Str)(st:Stmt)(dV:Value)(f:Addr)(fd:FuncData):Prop where
 ex:∃(oc:Value) (od:Option Addr) (kV doc pm:Value) (an:Option Addr) (cdv ct:Value) (osl:Array (Option Value)),
  fd=aZ x qual (zR st) (zD st) (ze st) dV kV doc pm an cdv ct/\K.lookup f=some ⟨oc,od,.func fd,osl⟩/\bz K cdv qual=true
theorem FunD.okX{P:Program}{w:World}{K:rC}{mg:Str->Option Value}{base:Heap}{x qual:Str}{st:Stmt}{dV:Value}{f:Addr}{fd:FuncData}{N ps:List Str}{k:Nat}{sp:Sp}(F:FunD K x qual st dV f fd)(S:zm N ps (ze st))(len:∀ vs H Q E,sp vs H Q E->vs.length=ps.length)
  (hbody:∀(cdv:Value) (A:Around) (outer:List Env) (s:Shared) (H:Hp) (vs:List V) (Q:VK) (E:XK),Room k (A.deeper (envOfC qual (ze st) s.heap.objs.size f cdv))->XE (uq (CXx P w) P w K mg base N qual (ze st) f cdv A outer s H E) E->sp vs H Q E ->
   ∃ t,PSs (uq (CXx P w) P w K mg base N qual (ze st) f cdv A outer s H E) (zD st) t/\t { nx:=fun _ H'=>Q .non H',rt:=Q } (start N vs) H):FnOk P w K mg base (CXx P w) (k+1) f fd ps sp:=by
 obtain⟨oc,od,kV,doc,pm,an,cdv,ct,osl,rfl,lk,hcd⟩:=F.ex
 exact Vh lk hcd S len fun A outer s H vs Q E hr hsp=>hbody cdv A outer s H vs Q E hr JI hsp
def vt(C:Addr)(f:Str):Sp:=fun vs H Q _=>∃ x v,vs=[.ref x,v]/\H x=some (XN x C none)/\∀ dx,H dx=none->Q .non (upd (upd H dx (.xd [(f,v)])) x (XN x C (some dx)))
def KT(H:Hp)(d:Addr)(f:Str)(v:V)(H':Hp):Prop:=H d=none/\Same H H'/\H' d=some (.xd [(f,v)])
theorem Xt{E:XK}{C:Addr}{f:Str}{v:V}{H:Hp}(h:∀ d H',KT H d f v H'->E (.ref C) (some d) H'):∀ x,H x=none->vt C f [.ref x,v] (upd H x (XN x C none)) (fun u H2=>u=.non/\∃ dx,H2 x=some (XN x C dx)/\E (.ref C) dx (del H2 x)) E0:=by
 intro x hx
 refine⟨x,v,rfl,zb,fun dx hd=>⟨rfl,some dx,zb,h dx _ ⟨?_,?_,?_⟩⟩⟩
 ·by_cases e:dx=x
  ·rw[e];exact hx
  ·rw[zh e] at hd;exact hd
 ·have hne:dx≠x:=fun e=>by rw[e,zb] at hd;cases hd
  rw[zh hne] at hd
  intro b o q
  have b1:b≠x:=zr q hx
  have b2:b≠dx:=zr q hd
  rw[Xz b1,zh b1,zh b2,zh b1]
  exact q
 ·have hne:dx≠x:=fun e=>by rw[e,zb] at hd;cases hd
  rw[Xz hne,zh hne,zb]
section
variable{X:Cx}
def za3:R2:=fun x y H Q=>∃ c l,x=.str (tx [c])/\y=.str (tx l)/\Q (.bl (!decide (c ∈ l))) H
def zbe:R2:=fun x y H Q=>∃ c l,x=.str (tx [c])/\y=.str (tx l)/\Q (.bl (decide (c ∈ l))) H
def zaQ:R2:=fun x y H Q=>y=.non/\Q (.bl (decide (x=.non))) H
theorem op_isN':OpR X (compareOp .Is) zaQ:=Jf
def QJ:R2:=fun x y H Q=>y=.non/\Q (.bl (!decide (x=.non))) H
theorem op_notN':OpR X (compareOp .IsNot) QJ:=UL
def JR:List V->Hp->VK->Prop:=fun xs H Q=>∃ i j,xs=[.int i,.int j]/\Q (.int (if j > i then j else i)) H
theorem JE(hc:X.calm=true):ui X (.builtin "max") JR:=X1 hc
def rGe:R2:=fun x y H Q=>∃ i j,x=.int i/\y=.int j/\Q (.bl (decide (j<=i))) H
theorem op_ge':OpR X (compareOp .GtE) rGe:=Kg
def za9(K:rC)(ta:TE):TT:=fun σ H Q=>ta σ H fun x H'=>∃ k,QB K x H' k/\Q k H'
end
theorem Z8:bootBuiltins "max" = some (.builtin "max"):=by symm
def Qy(ls l:List Nat)(m:Int)(k:Nat):Prop:=∃ c,l[k]? = some c/\(m<=k\/c ∉ ls)
def FB(ls l:List Nat)(m:Int)(k:Nat):Prop:=Qy ls l m k/\∀ j<k,¬ Qy ls l m j
def NB(ls l:List Nat)(m:Int):Prop:=∀ j,¬ Qy ls l m j
theorem FB.nb{ls l:List Nat}{m:Int}{k:Nat}(h:FB ls l m k)(n:NB ls l m):False:=n k h.1
end L3
namespace L3
inductive D where
 | non | bl (b:Bool) | int (i:Int) | str (x:Str) | lst (l:List D) | tup (l:List D)
mutual
def Is(K:rC)(H:Hp):D->V->Prop
 | .non,v=>v=.non
 | .bl b,v=>v=.bl b
 | .int i,v=>v=.int i
 | .str x,v=>v=.str x
 | .lst l,v=>∃ a xs,v=.ref a/\SqL K H a xs/\Iss K H l xs
 | .tup l,v=>∃ a xs,v=.ref a/\SqT K H a xs/\Iss K H l xs
def Iss(K:rC)(H:Hp):List D->List V->Prop
 | [],vs=>vs=[]
 | d::l,vs=>∃ v r,vs=v::r/\Is K H d v/\Iss K H l r
end
mutual
noncomputable def eqD:D->D->Bool
 | .non,.non=>true
 | .bl a,.bl b=>a == b
 | .bl a,.int b=>(if a then 1 else 0) == b
 | .int a,.bl b=>a == (if b then 1 else 0)
 | .int a,.int b=>a == b
 | .str a,.str b=>a == b
 | .lst l,.lst m=>jG l m
 | .tup l,.tup m=>jG l m
 | _,_=>false
noncomputable def jG:List D->List D->Bool
 | [],[]=>true
 | d::l,e::m=>eqD d e && jG l m
 | _,_=>false
end
mutual
noncomputable def dpD:D->Nat
 | .lst l=>va l+1
 | .tup l=>va l+1
 | _=>0
noncomputable def va:List D->Nat
 | []=>0
 | d::l=>max (dpD d) (va l)
end
theorem Vz:∀{l:List D} {j:Nat} {d:D},l[j]? = some d->dpD d<=va l
 | d::l,0,_,h=>by
  cases h
  simp only[va]
  lia
 | d::l,j+1,e,h=>by
  have:=Vz (l:=l) (j:=j) (d:=e) h
  simp only[va]
  lia
mutual
theorem uu:∀ d:D,eqD d d=true
 | .non=>rfl
 | .bl b=>by simp [eqD]
 | .int i=>by simp [eqD]
 | .str x=>by simp [eqD]
 | .lst l=>by simp only[eqD];exact vw l
 | .tup l=>by simp only[eqD];exact vw l
theorem vw:∀ l:List D,jG l l=true
 | []=>rfl
 | d::l=>by simp only[jG,uu d,vw l,Bool.and_self]
end
theorem Iss.len{K:rC}{H:Hp}:∀{l:List D} {vs:List V},Iss K H l vs->vs.length=l.length
 | [],vs,h=>by simp only[Iss] at h;rw[h];rfl
 | d::l,vs,h=>by
  simp only[Iss] at h
  obtain⟨v,r,rfl,_,h2⟩:=h
  simp only[aI,Iss.len h2]
theorem Iss.at{K:rC}{H:Hp}:∀{l:List D} {vs:List V} {j:Nat} {d:D},Iss K H l vs->l[j]? = some d->∃ v,vs[j]? = some v/\Is K H d v
 | d::l,vs,0,_,h,q=>by
  cases q
  simp only[Iss] at h
  obtain⟨v,r,rfl,h1,_⟩:=h
  exact⟨v,rfl,h1⟩
 | d::l,vs,j+1,e,h,q=>by
  simp only[Iss] at h
  obtain⟨v,r,rfl,_,h2⟩:=h
  exact Iss.at (j:=j) h2 q
theorem Iss.append{K:rC}{H:Hp}:∀{l m:List D} {vs us:List V},Iss K H l vs->Iss K H m us->Iss K H (l ++ m) (vs ++ us)
 | [],m,vs,us,h,g=>by simp only[Iss] at h;rw[h];exact g
 | d::l,m,vs,us,h,g=>by
  simp only[Iss] at h
  obtain⟨v,r,rfl,h1,h2⟩:=h
  simp only[bp,Iss]
  exact⟨v,r ++ us,rfl,h1,Iss.append h2 g⟩
theorem Iss.ints{K:rC}{H:Hp}:∀(l:List Int),Iss K H (l.map D.int) (l.map V.int)
 | []=>by simp only[ba,Iss]
 | i::l=>by
  simp only[ax,Iss,Is]
  exact⟨_,_,rfl,rfl,Iss.ints l⟩
theorem xA{K:rC}{H H':Hp}{a:Addr}{xs:List V}(e:Same H H')(h:SqT K H a xs):SqT K H' a xs:=by
 rcases h with (h | ⟨o,h⟩) | h
 ·exact .inl (.inl (e _ _ h))
 ·exact .inl (.inr ⟨o,e _ _ h⟩)
 ·exact .inr h
mutual
theorem Is.same{K:rC}{H H':Hp}(e:Same H H'):∀(d:D) (v:V),Is K H d v->Is K H' d v
 | .non,v,h=>by simp only[Is] at h ⊢;exact h
 | .bl b,v,h=>by simp only[Is] at h ⊢;exact h
 | .int b,v,h=>by simp only[Is] at h ⊢;exact h
 | .str b,v,h=>by simp only[Is] at h ⊢;exact h
 | .lst l,v,h=>by
  simp only[Is] at h ⊢
  obtain⟨a,xs,e1,e2,e3⟩:=h
  exact⟨a,xs,e1,e.seq e2,Iss.same e l xs e3⟩
 | .tup l,v,h=>by
  simp only[Is] at h ⊢
  obtain⟨a,xs,e1,e2,e3⟩:=h
  exact⟨a,xs,e1,xA e e2,Iss.same e l xs e3⟩
theorem Iss.same{K:rC}{H H':Hp}(e:Same H H'):∀(l:List D) (vs:List V),Iss K H l vs->Iss K H' l vs
 | [],vs,h=>by simp only[Iss] at h ⊢;exact h
 | d::l,vs,h=>by
  simp only[Iss] at h ⊢
  obtain⟨v,r,e1,e2,e3⟩:=h
  exact⟨v,r,e1,Is.same e d v e2,Iss.same e l r e3⟩
end
theorem yV:∀(l m:List D),jG l m=((az (min l.length m.length)).all (fun j=>eqD (l.getD j .non) (m.getD j .non)) && l.length == m.length)
 | [],[]=>rfl
 | [],e::m=>by simp [jG]
 | d::l,[]=>by simp [jG]
 | d::l,e::m=>by
  simp only[jG,yV l m,aI]
  have h1:min (l.length+1) (m.length+1)=min l.length m.length+1:=by lia
  rw[h1,dt,List.all_cons,List.all_map]
  have h2:(l.length+1 == m.length+1)=(l.length == m.length):=by
   rw[cf,beq_iff_eq,beq_iff_eq];lia
  rw[h2]
  simp only[fg,Bool.and_assoc]
  rfl
section
variable{X:Cx}{pins:List (Addr × Obj)}{σ:St}{H:Hp}{s:Shared}
theorem kH{a:Addr}{xs ys:List V}(I:Inv X pins σ H s)(h:SqL X.K H a xs)(g:SqT X.K H a ys):False:=by
 obtain⟨its,r,⟨o,n,e,c,_,d⟩,_⟩:=I.list h
 obtain⟨its',r',⟨o',e',c',n',d'⟩,_⟩:=I.tuple g
 rw[e] at e'
 cases e'
 rw[c] at c'
 exact absurd (Value.type.inj c') (by decide)
mutual
theorem ZG(I:Inv X pins σ H s):∀(d e:D) (v:V),Is X.K H d v->Is X.K H e v->d=e
 | .lst l,.lst m,v,h,g=>by
  simp only[Is] at h g
  obtain⟨a,xs,rfl,h1,h2⟩:=h
  obtain⟨b,ys,e,g1,g2⟩:=g
  cases e
  have:=I.list_inj h1 g1
  subst this
  rw[kZ I l m xs h2 g2]
 | .tup l,.tup m,v,h,g=>by
  simp only[Is] at h g
  obtain⟨a,xs,rfl,h1,h2⟩:=h
  obtain⟨b,ys,e,g1,g2⟩:=g
  cases e
  have:=I.tuple_inj h1 g1
  subst this
  rw[kZ I l m xs h2 g2]
 | .lst l,.tup m,v,h,g=>by
  simp only[Is] at h g
  obtain⟨a,xs,rfl,h1,h2⟩:=h
  obtain⟨b,ys,e,g1,g2⟩:=g
  cases e
  exact (kH I h1 g1).elim
 | .tup l,.lst m,v,h,g=>by
  simp only[Is] at h g
  obtain⟨a,xs,rfl,h1,h2⟩:=h
  obtain⟨b,ys,e,g1,g2⟩:=g
  cases e
  exact (kH I g1 h1).elim
 | .lst l,.non,v,h,g=>by simp only[Is] at h g;obtain⟨a,xs,rfl,_⟩:=h;cases g
 | .lst l,.bl _,v,h,g=>by simp only[Is] at h g;obtain⟨a,xs,rfl,_⟩:=h;cases g
 | .lst l,.int _,v,h,g=>by simp only[Is] at h g;obtain⟨a,xs,rfl,_⟩:=h;cases g
 | .lst l,.str _,v,h,g=>by simp only[Is] at h g;obtain⟨a,xs,rfl,_⟩:=h;cases g
 | .tup l,.non,v,h,g=>by simp only[Is] at h g;obtain⟨a,xs,rfl,_⟩:=h;cases g
 | .tup l,.bl _,v,h,g=>by simp only[Is] at h g;obtain⟨a,xs,rfl,_⟩:=h;cases g
 | .tup l,.int _,v,h,g=>by simp only[Is] at h g;obtain⟨a,xs,rfl,_⟩:=h;cases g
 | .tup l,.str _,v,h,g=>by simp only[Is] at h g;obtain⟨a,xs,rfl,_⟩:=h;cases g
 | .non,e,v,h,g=>by
  simp only[Is] at h
  subst h
  cases e <;> simp only[Is] at g
  all_goals first | rfl | (obtain⟨a,xs,q,_⟩:=g;cases q) | cases g
 | .bl _,e,v,h,g=>by
  simp only[Is] at h
  subst h
  cases e <;> simp only[Is] at g
  all_goals first | (cases g;rfl) | (obtain⟨a,xs,q,_⟩:=g;cases q) | cases g
 | .int _,e,v,h,g=>by
  simp only[Is] at h
  subst h
  cases e <;> simp only[Is] at g
  all_goals first | (cases g;rfl) | (obtain⟨a,xs,q,_⟩:=g;cases q) | cases g
 | .str _,e,v,h,g=>by
  simp only[Is] at h
  subst h
  cases e <;> simp only[Is] at g
  all_goals first | (cases g;rfl) | (obtain⟨a,xs,q,_⟩:=g;cases q) | cases g
theorem kZ(I:Inv X pins σ H s):∀(l m:List D) (vs:List V),Iss X.K H l vs->Iss X.K H m vs->l=m
 | [],[],_,_,_=>rfl
 | [],e::m,vs,h,g=>by
  simp only[Iss] at h g
  subst h
  obtain⟨_,_,q,_⟩:=g
  cases q
 | d::l,[],vs,h,g=>by
  simp only[Iss] at h g
  subst g
  obtain⟨_,_,q,_⟩:=h
  cases q
 | d::l,e::m,vs,h,g=>by
  simp only[Iss] at h g
  obtain⟨v,r,rfl,h1,h2⟩:=h
  obtain⟨v',r',q,g1,g2⟩:=g
  cases q
  rw[ZG I d e v h1 g1,kZ I l m r h2 g2]
end
theorem yE:∀{xs:List V} {us:List Value} {j:Nat} {x:V},Vals xs us->xs[j]? = some x->∃ u,us[j]? = some u/\RelV x u
 | _,_,0,_,.cons r t,h=>by cases h;exact⟨_,rfl,r⟩
 | _,_,j+1,_,.cons r t,h=>yE (j:=j) t h
theorem yP{l m:List D}{xs ys:List V}{its its':List Value}{A:Around}{n:Nat}(hl:Iss X.K H l xs)(hm:Iss X.K H m ys)(r:Vals xs its)(r':Vals ys its')(hn:va l<n)
  (ih:∀(d e:D) (x y:V) (u v:Value),dpD d<n->Is X.K H d x->Is X.K H e y->RelV x u->RelV y v->SeqAt.EqAt A s u v (eqD d e)) :
  ∀ j (h1:j<its.toArray.size) (h2:j<its'.toArray.size),SeqAt.EqAt A s its.toArray[j] its'.toArray[j] (eqD (l.getD j .non) (m.getD j .non)):=by
 intro j h1 h2
 rw[ah] at h1 h2
 have e1:=hl.len
 have e2:=hm.len
 have e3:=r.length
 have e4:=r'.length
 have g1:l[j]? = some l[j]:=ag (by lia)
 have g2:m[j]? = some m[j]:=ag (by lia)
 generalize l[j]=d at g1
 generalize m[j]=e at g2
 obtain⟨x,hx,ix⟩:=hl.at g1
 obtain⟨y,hy,iy⟩:=hm.at g2
 obtain⟨u,hu,ru⟩:=yE r hx
 obtain⟨v,hv,rv⟩:=yE r' hy
 have q1:its.toArray[j]=u:=by
  have:=(rD.mp hu).2
  simpa using this
 have q2:its'.toArray[j]=v:=by
  have:=(rD.mp hv).2
  simpa using this
 rw[q1,q2,aj,aj,g1,g2]
 exact ih d e x y u v (bX (Vz g1) hn) ix iy ru rv
theorem vJ(I:Inv X pins σ H s):∀(n:Nat) (A:Around) (d e:D) (x y:V) (u v:Value),A.units+n<cLine->dpD d<n->Is X.K H d x->Is X.K H e y->RelV x u->RelV y v->SeqAt.EqAt A s u v (eqD d e):=by
 intro n
 induction n with
 | zero=>intro A d e x y u v _ h;exact absurd h (cC _)
 | succ n ih =>
  intro A d e x y u v hu hd hx hy rx ry
  have hu1:A.units<cLine:=by lia
  have huA:A.in1.units+n<cLine:=by show A.units+1+n<cLine;lia
  cases d with
  | lst l =>
   simp only[Is] at hx
   obtain⟨a,xs,rfl,h1,h2⟩:=hx
   cases rx
   obtain⟨its,r,p,_⟩:=I.list h1
   cases e with
   | non=>simp only[Is] at hy;subst hy;cases ry;exact SeqAt.EqAt.list_none p.isList hu1
   | bl b=>simp only[Is] at hy;subst hy;cases ry;exact SeqAt.EqAt.list_bool b p.isList hu1
   | int b=>simp only[Is] at hy;subst hy;obtain⟨t,rfl⟩:=ry;exact SeqAt.EqAt.list_int b t p.isList hu1
   | str b=>simp only[Is] at hy;subst hy;obtain⟨t,rfl⟩:=ry;exact SeqAt.EqAt.list_str b t p.isList hu1
   | tup m =>
    simp only[Is] at hy
    obtain⟨b,ys,rfl,g1,g2⟩:=hy
    cases ry
    obtain⟨its',r',p',_⟩:=I.tuple g1
    exact SeqAt.EqAt.list_tuple p.isList p' hu1
   | lst m =>
    have hy':=hy
    simp only[Is] at hy
    obtain⟨b,ys,rfl,g1,g2⟩:=hy
    cases ry
    obtain⟨its',r',p',_⟩:=I.list g1
    simp only[dpD] at hd
    by_cases hab:a=b
    ·subst hab
     have:=ZG I (.lst l) (.lst m) (.ref a) (by simp only[Is];exact⟨a,xs,rfl,h1,h2⟩) hy'
     rw[this,uu]
     exact SeqAt.EqAt.same _
    ·refine .of_refs hab ?_
     simp only[eqD]
     have L1:=h2.len
     have L2:=g2.len
     have L3:=r.length
     have L4:=r'.length
     by_cases hl:l.length=m.length
     ·have:=SeqAt.RcAt.lists (A:=A) p.isList p'.isList (by simp only[ah];lia) hu1 (yP h2 g2 r r' (n:=n) (by lia) fun d e x y u v q1 q2 q3 q4 q5=>ih A.in1 d e x y u v huA q1 q2 q3 q4 q5)
      rw[yV,hl,eh,beq_self_eq_true,eY]
      have e1:its.toArray.size=m.length:=by simp only[ah];lia
      rw[e1] at this
      exact this
     ·rw[yV,beq_eq_false_iff_ne.mpr hl,dW]
      exact SeqAt.RcAt.lists_lengths p.isList p'.isList (by rw[bne_iff_ne];simp only[ah];lia) hu1
  | tup l =>
   simp only[Is] at hx
   obtain⟨a,xs,rfl,h1,h2⟩:=hx
   cases rx
   obtain⟨its,r,p,_⟩:=I.tuple h1
   cases e with
   | non=>simp only[Is] at hy;subst hy;cases ry;exact SeqAt.EqAt.tuple_none p hu1
   | bl b=>simp only[Is] at hy;subst hy;cases ry;exact SeqAt.EqAt.tuple_bool b p hu1
   | int b=>simp only[Is] at hy;subst hy;obtain⟨t,rfl⟩:=ry;exact SeqAt.EqAt.tuple_int b t p hu1
   | str b=>simp only[Is] at hy;subst hy;obtain⟨t,rfl⟩:=ry;exact SeqAt.EqAt.tuple_str b t p hu1
   | lst m =>
    simp only[Is] at hy
    obtain⟨b,ys,rfl,g1,g2⟩:=hy
    cases ry
    obtain⟨its',r',p',_⟩:=I.list g1
    exact SeqAt.EqAt.tuple_list p p'.isList hu1
   | tup m =>
    have hy':=hy
    simp only[Is] at hy
    obtain⟨b,ys,rfl,g1,g2⟩:=hy
    cases ry
    obtain⟨its',r',p',_⟩:=I.tuple g1
    simp only[dpD] at hd
    by_cases hab:a=b
    ·subst hab
     have:=ZG I (.tup l) (.tup m) (.ref a) (by simp only[Is];exact⟨a,xs,rfl,h1,h2⟩) hy'
     rw[this,uu]
     exact SeqAt.EqAt.same _
    ·refine .of_refs hab ?_
     simp only[eqD]
     have L1:=h2.len
     have L2:=g2.len
     have L3:=r.length
     have L4:=r'.length
     have:=SeqAt.RcAt.tuples (A:=A) p p' hu1 (yP h2 g2 r r' (n:=n) (by lia) fun d e x y u v q1 q2 q3 q4 q5=>ih A.in1 d e x y u v huA q1 q2 q3 q4 q5)
     rw[yV]
     simp only[ah] at this
     rw[<- L1,<- L2,L3,L4]
     exact this
  | non =>
   simp only[Is] at hx
   subst hx
   cases e with
   | lst m =>
    simp only[Is] at hy
    obtain⟨b,ys,rfl,g1,g2⟩:=hy
    cases rx;cases ry
    obtain⟨its',r',p',_⟩:=I.list g1
    exact SeqAt.EqAt.none_list p'.isList hu1
   | tup m =>
    simp only[Is] at hy
    obtain⟨b,ys,rfl,g1,g2⟩:=hy
    cases rx;cases ry
    obtain⟨its',r',p',_⟩:=I.tuple g1
    exact SeqAt.EqAt.none_tuple p' hu1
   | _=>simp only[Is] at hy;subst hy;exact Z4 rx ry rfl rfl
  | bl c =>
   simp only[Is] at hx
   subst hx
   cases e with
   | lst m =>
    simp only[Is] at hy
    obtain⟨b,ys,rfl,g1,g2⟩:=hy
    cases rx;cases ry
    obtain⟨its',r',p',_⟩:=I.list g1
    exact SeqAt.EqAt.bool_list _ p'.isList hu1
   | tup m =>
    simp only[Is] at hy
    obtain⟨b,ys,rfl,g1,g2⟩:=hy
    cases rx;cases ry
    obtain⟨its',r',p',_⟩:=I.tuple g1
    exact SeqAt.EqAt.bool_tuple _ p' hu1
   | _=>simp only[Is] at hy;subst hy;exact Z4 rx ry rfl rfl
  | int c =>
   simp only[Is] at hx
   subst hx
   cases e with
   | lst m =>
    simp only[Is] at hy
    obtain⟨b,ys,rfl,g1,g2⟩:=hy
    obtain⟨t,rfl⟩:=rx;cases ry
    obtain⟨its',r',p',_⟩:=I.list g1
    exact SeqAt.EqAt.int_list _ _ p'.isList hu1
   | tup m =>
    simp only[Is] at hy
    obtain⟨b,ys,rfl,g1,g2⟩:=hy
    obtain⟨t,rfl⟩:=rx;cases ry
    obtain⟨its',r',p',_⟩:=I.tuple g1
    exact SeqAt.EqAt.int_tuple _ _ p' hu1
   | _=>simp only[Is] at hy;subst hy;exact Z4 rx ry rfl rfl
  | str c =>
   simp only[Is] at hx
   subst hx
   cases e with
   | lst m =>
    simp only[Is] at hy
    obtain⟨b,ys,rfl,g1,g2⟩:=hy
    obtain⟨t,rfl⟩:=rx;cases ry
    obtain⟨its',r',p',_⟩:=I.list g1
    exact SeqAt.EqAt.str_list _ _ p'.isList hu1
   | tup m =>
    simp only[Is] at hy
    obtain⟨b,ys,rfl,g1,g2⟩:=hy
    obtain⟨t,rfl⟩:=rx;cases ry
    obtain⟨its',r',p',_⟩:=I.tuple g1
    exact SeqAt.EqAt.str_tuple _ _ p' hu1
   | _=>simp only[Is] at hy;subst hy;exact Z4 rx ry rfl rfl
def zaN(K:rC):R2:=fun x y H Q=>∃ l m,((Is K H (.lst l) x/\Is K H (.lst m) y)\/(Is K H (.tup l) x/\Is K H (.tup m) y))/\va l<50/\Q (.bl (jG l m)) H
def zaO(K:rC):R2:=fun x y H Q=>∃ l m,((Is K H (.lst l) x/\Is K H (.lst m) y)\/(Is K H (.tup l) x/\Is K H (.tup m) y))/\va l<50/\Q (.bl (!jG l m)) H
theorem Ju(hu:X.A.units+100<cLine):OpR X (compareOp .Eq) (zaN X.K):=by
 intro pins s σ H x y v u Q I rx ry h
 obtain⟨l,m,hh,hd,q⟩:=h
 have hu1:X.A.units<cLine:=by lia
 have huA:X.A.in1.units+50<cLine:=by show X.A.units+1+50<cLine;lia
 rcases hh with ⟨hx,hy⟩ | ⟨hx,hy⟩
 ·simp only[Is] at hx hy
  obtain⟨a,xs,rfl,h1,h2⟩:=hx
  obtain⟨b,ys,rfl,g1,g2⟩:=hy
  cases rx;cases ry
  obtain⟨its,r,p,_⟩:=I.list h1
  obtain⟨its',r',p',_⟩:=I.list g1
  have L1:=h2.len
  have L2:=g2.len
  have L3:=r.length
  have L4:=r'.length
  by_cases hl:l.length=m.length
  ·have:=SeqAt.RcAt.lists (A:=X.A) p.isList p'.isList (by simp only[ah];lia) hu1 (yP h2 g2 r r' (n:=50) hd fun d e x y u v q1 q2 q3 q4 q5=>vJ I 50 X.A.in1 d e x y u v huA q1 q2 q3 q4 q5)
   have e1:its.toArray.size=m.length:=by simp only[ah];lia
   rw[e1] at this
   rw[yV,hl,eh,beq_self_eq_true,eY] at q
   exact this X.prog X.w X.xe _ ⟨.bl _,H,I,rfl,q⟩
  ·rw[yV,beq_eq_false_iff_ne.mpr hl,dW] at q
   exact SeqAt.RcAt.lists_lengths p.isList p'.isList (by rw[bne_iff_ne];simp only[ah];lia) hu1 X.prog X.w X.xe _ ⟨.bl _,H,I,rfl,q⟩
 ·simp only[Is] at hx hy
  obtain⟨a,xs,rfl,h1,h2⟩:=hx
  obtain⟨b,ys,rfl,g1,g2⟩:=hy
  cases rx;cases ry
  obtain⟨its,r,p,_⟩:=I.tuple h1
  obtain⟨its',r',p',_⟩:=I.tuple g1
  have L1:=h2.len
  have L2:=g2.len
  have L3:=r.length
  have L4:=r'.length
  have:=SeqAt.RcAt.tuples (A:=X.A) p p' hu1 (yP h2 g2 r r' (n:=50) hd fun d e x y u v q1 q2 q3 q4 q5=>vJ I 50 X.A.in1 d e x y u v huA q1 q2 q3 q4 q5)
  simp only[ah] at this
  rw[yV,<- L1,<- L2,L3,L4] at q
  exact this X.prog X.w X.xe _ ⟨.bl _,H,I,rfl,q⟩
theorem Jb(hu:X.A.units+100<cLine):OpR X (compareOp .NotEq) (zaO X.K):=by
 intro pins s σ H x y v u Q I rx ry h
 obtain⟨l,m,hh,hd,q⟩:=h
 have hu1:X.A.units<cLine:=by lia
 have huA:X.A.in1.units+50<cLine:=by show X.A.units+1+50<cLine;lia
 rcases hh with ⟨hx,hy⟩ | ⟨hx,hy⟩
 ·simp only[Is] at hx hy
  obtain⟨a,xs,rfl,h1,h2⟩:=hx
  obtain⟨b,ys,rfl,g1,g2⟩:=hy
  cases rx;cases ry
  obtain⟨its,r,p,_⟩:=I.list h1
  obtain⟨its',r',p',_⟩:=I.list g1
  have L1:=h2.len
  have L2:=g2.len
  have L3:=r.length
  have L4:=r'.length
  by_cases hl:l.length=m.length
  ·have:=SeqAt.RcNeAt.lists (A:=X.A) p.isList p'.isList (by simp only[ah];lia) hu1 (yP h2 g2 r r' (n:=50) hd fun d e x y u v q1 q2 q3 q4 q5=>vJ I 50 X.A.in1 d e x y u v huA q1 q2 q3 q4 q5)
   have e1:its.toArray.size=m.length:=by simp only[ah];lia
   rw[e1] at this
   rw[yV,hl,eh,beq_self_eq_true,eY] at q
   exact this X.prog X.w X.xe _ ⟨.bl _,H,I,rfl,q⟩
  ·rw[yV,beq_eq_false_iff_ne.mpr hl,dW] at q
   exact SeqAt.RcNeAt.lists_lengths p.isList p'.isList (by rw[bne_iff_ne];simp only[ah];lia) hu1 X.prog X.w X.xe _ ⟨.bl _,H,I,rfl,q⟩
 ·simp only[Is] at hx hy
  obtain⟨a,xs,rfl,h1,h2⟩:=hx
  obtain⟨b,ys,rfl,g1,g2⟩:=hy
  cases rx;cases ry
  obtain⟨its,r,p,_⟩:=I.tuple h1
  obtain⟨its',r',p',_⟩:=I.tuple g1
  have L1:=h2.len
  have L2:=g2.len
  have L3:=r.length
  have L4:=r'.length
  have:=SeqAt.RcNeAt.tuples (A:=X.A) p p' hu1 (yP h2 g2 r r' (n:=50) hd fun d e x y u v q1 q2 q3 q4 q5=>vJ I 50 X.A.in1 d e x y u v huA q1 q2 q3 q4 q5)
  simp only[ah] at this
  rw[yV,<- L1,<- L2,L3,L4] at q
  exact this X.prog X.w X.xe _ ⟨.bl _,H,I,rfl,q⟩
end
theorem uM(l m:List Int):jG (l.map D.int) (m.map D.int)=decide (l=m):=by
 induction l generalizing m with
 | nil=>cases m <;> simp [jG]
 | cons a l ih =>
  cases m with
  | nil=>simp [jG]
  | cons b m =>
   simp only[ax,jG,eqD,ih m]
   by_cases h1:a=b
   ·subst h1
    by_cases h2:l=m
    ·simp [h2]
    ·simp [h2]
   ·simp [h1]
theorem jD(l:List Int):va (l.map D.int)=0:=by
 induction l with
 | nil=>rfl
 | cons a l ih=>simp only[ax,va,dpD,ih];rfl
abbrev CNx(n i:Nat)(Pv:Nat->List V->Hp->Prop)(acc:List V)(H:Hp):Prop:=∃ m',m'<n - i/\(m'=n - (i+1)/\i+1<=n/\Pv (i+1) acc H)
theorem CNx.mk{n i:Nat}{Pv:Nat->List V->Hp->Prop}{acc:List V}{H:Hp}(hi:i<n)(h:Pv (i+1) acc H):CNx n i Pv acc H:=⟨n - (i+1),by lia,rfl,hi,h⟩
def YZ(J:It)(g:TG)(tt:TT)(te:TE)(own:Nat)(ix:List Nat)(σ:St)(H1:Hp)(Q:VK)(D:Addr):Prop:=∃ W:Nat->Nat->List V->Hp->Prop,(∃ m,W 0 m [] (upd H1 D (.lst []))) /\
 ∀ i m acc H',W i m acc H'->(J.stop i H'/\Q (.ref D) H')\/(J.go i H'/\∀ x H2,J.yld i H' x H2->g x (uI σ own ix) H2 fun σ3 H3=>xR (uI σ own ix) σ3/\tt σ3 H3 fun b H4=>if b=true then
  te σ3 H4 fun v H5=>H5 D=some (.lst acc)/\acc.length<rB/\∃ m',m'<m/\W (i+1) m' (acc ++ [v]) (upd H5 D (.lst (acc ++ [v])))
  else ∃ m',m'<m/\W (i+1) m' acc H4)
def K3(lo:Int)(n:Nat)(g:TG)(tt:TT)(te:TE)(own:Nat)(ix:List Nat)(σ:St)(H1:Hp)(Q:VK)(D:Addr):Prop:=YZ (Itr lo n) g tt te own ix σ H1 Q D
def CompL(K:rC)(a:Addr)(g:TG)(tt:TT)(te:TE)(own:Nat)(ix:List Nat)(σ:St)(H1:Hp)(Q:VK)(D:Addr):Prop:=YZ (Itl K a) g tt te own ix σ H1 Q D
def CompS(x:Str)(g:TG)(tt:TT)(te:TE)(own:Nat)(ix:List Nat)(σ:St)(H1:Hp)(Q:VK)(D:Addr):Prop:=YZ (Its x) g tt te own ix σ H1 Q D
theorem JN{ta:TA}{g:TG}{tt:TT}{te:TE}{own:Nat}{ix:List Nat}{σ:St}{H:Hp}{Q:VK}:kJ (QA ta) g tt te own ix σ H Q=ta σ H fun vs H1=>∃ j:Int,vs=[.int j]/\-(2 ^ 62)<=j/\j<2 ^ 62/\∀ D,H1 D=none->K3 0 j.toNat g tt te own ix σ H1 Q D:=rfl
theorem Ke{K:rC}{tl:TE}{g:TG}{tt:TT}{te:TE}{own:Nat}{ix:List Nat}{σ:St}{H:Hp}{Q:VK}:kJ (Qa K tl) g tt te own ix σ H Q=tl σ H fun x H1=>∃ a,x=.ref a/\(∃ xs,SqL K H1 a xs)/\∀ D,H1 D=none->CompL K a g tt te own ix σ H1 Q D:=rfl
theorem Kw{tl:TE}{g:TG}{tt:TT}{te:TE}{own:Nat}{ix:List Nat}{σ:St}{H:Hp}{Q:VK}:kJ (J0 tl) g tt te own ix σ H Q=tl σ H fun v H1=>∃ x,v=.str x/\∀ D,H1 D=none->CompS x g tt te own ix σ H1 Q D:=rfl
section
variable{g:TG}{tt:TT}{te:TE}{own:Nat}{ix:List Nat}{σ:St}{H1:Hp}{Q:VK}{D:Addr}
theorem CompL.by{K:rC}{a:Addr}{xs:List V}(Pv:Nat->List V->Hp->Prop)(h0:Pv 0 [] (upd H1 D (.lst [])))(hl:∀ i acc H',i<=xs.length->Pv i acc H'->SqL K H' a xs)
  (hs:∀ i x acc H',xs[i]? = some x->Pv i acc H'->g x (uI σ own ix) H' fun σ3 H3=>xR (uI σ own ix) σ3/\tt σ3 H3 fun b H4=>if b=true then
   te σ3 H4 fun v H5=>H5 D=some (.lst acc)/\acc.length<rB/\CNx xs.length i Pv (acc ++ [v]) (upd H5 D (.lst (acc ++ [v]))) else CNx xs.length i Pv acc H4)
  (hd:∀ acc H',Pv xs.length acc H'->Q (.ref D) H'):CompL K a g tt te own ix σ H1 Q D:=by
 refine⟨fun i m acc H=>m=xs.length - i/\i<=xs.length/\Pv i acc H,⟨xs.length,by simp,aP _,h0⟩,?_⟩
 rintro i m acc H' ⟨rfl,hi,p⟩
 have q:=hl i acc H' hi p
 by_cases hlt:i<xs.length
 ·refine .inr ⟨⟨xs,xs[i],q,by simp [hlt]⟩,fun x H2 y=>?_⟩
  obtain⟨e,y⟩:=y
  subst e
  exact hs i x acc _ (y xs q) p
 ·have e:i=xs.length:=by lia
  subst e
  exact .inl ⟨⟨xs,q,ar _⟩,hd acc H' p⟩
theorem CompS.by{l:List Nat}(Pv:Nat->List V->Hp->Prop)(h0:Pv 0 [] (upd H1 D (.lst [])))
  (hs:∀ i c acc H',l[i]? = some c->Pv i acc H'->g (.str (tx [c])) (uI σ own ix) H' fun σ3 H3=>xR (uI σ own ix) σ3/\tt σ3 H3 fun b H4=>if b=true then
   te σ3 H4 fun v H5=>H5 D=some (.lst acc)/\acc.length<rB/\CNx l.length i Pv (acc ++ [v]) (upd H5 D (.lst (acc ++ [v]))) else CNx l.length i Pv acc H4)
  (hd:∀ acc H',Pv l.length acc H'->Q (.ref D) H'):CompS (tx l) g tt te own ix σ H1 Q D:=by
 refine⟨fun i m acc H=>m=l.length - i/\i<=l.length/\Pv i acc H,⟨l.length,by simp,aP _,h0⟩,?_⟩
 rintro i m acc H' ⟨rfl,hi,p⟩
 by_cases hlt:i<l.length
 ·refine .inr ⟨hlt,fun v H2 y=>?_⟩
  obtain⟨e,c,hc,ev⟩:=y
  subst e ev
  exact hs i c acc _ hc p
 ·have e:i=l.length:=by lia
  subst e
  exact .inl ⟨rfl,hd acc H' p⟩
end
theorem qk{x:V}{r:St}:xR (none::r) (some x::r):=⟨rfl,fun i v h=>by
 cases i with
 | zero=>cases h
 | succ i=>exact h⟩
theorem yJ{X:Cx}{scope sc:Scope}{own caps:List Str}{ix:List Nat}(h1:scope.kind=.function)(h2:scope.names.all (fun y=>y.2 != .cell)=true)(h3:scope.names.all (fun y=>y.2 != .local || scope.names.lookup y.1 == some .local)=true)
  (h4:scope.names.all (fun y=>y.2 != .free || sc.names.lookup y.1 == some .cell)=true) (hsc:X.env.scope=sc) (h5:own.all (fun y=>scope.names.lookup y == some .local)=true) (h6:caps.all (fun y=>scope.names.lookup y == some .free)=true) (h7:ix.map (fun i=>X.N[i]?)=caps.map some):qD X scope own caps ix:=by
 refine⟨h1,fun y hy=>?_,fun y hy e=>?_,fun y hy=>?_,fun y hy=>?_,fun y hy=>?_,h7⟩
 ·have:=rL.mp h2 y hy
  simpa using this
 ·have:=rL.mp h3 y hy
  rw[e] at this
  simpa using this
 ·have:=rL.mp h4 _ hy
  have:=by simpa using this
  refine .inl ?_
  show X.env.scope.names.lookup y=some .cell
  rw[hsc]
  exact this
 ·have:=rL.mp h5 y hy
  simpa using this
 ·have:=rL.mp h6 y hy
  simpa using this
theorem jO{X:Cx}{scope sc:Scope}{own caps:List Str}{ix:List Nat}(h1:scope.kind=.function)(h2:scope.names.all (fun y=>y.2 != .cell)=true)(h3:scope.names.all (fun y=>y.2 != .local || scope.names.lookup y.1 == some .local)=true)
  (h4:scope.names.all (fun y=>y.2 != .free || sc.names.lookup y.1 == some .free)=true) (hsc:X.env.scope=sc) (h5:own.all (fun y=>scope.names.lookup y == some .local)=true) (h6:caps.all (fun y=>scope.names.lookup y == some .free)=true) (h7:ix.map (fun i=>X.N[i]?)=caps.map some):qD X scope own caps ix:=by
 refine⟨h1,fun y hy=>?_,fun y hy e=>?_,fun y hy=>?_,fun y hy=>?_,fun y hy=>?_,h7⟩
 ·have:=rL.mp h2 y hy
  simpa using this
 ·have:=rL.mp h3 y hy
  rw[e] at this
  simpa using this
 ·have:=rL.mp h4 _ hy
  have:=by simpa using this
  refine .inr ?_
  show X.env.scope.names.lookup y=some .free
  rw[hsc]
  exact this
 ·have:=rL.mp h5 y hy
  simpa using this
 ·have:=rL.mp h6 y hy
  simpa using this
theorem WT{α:Type}(l:List α){a b:Int}(h0:0<=a)(h1:a<=b)(h2:b<=l.length):cut l (some a) (some b)=(l.drop a.toNat).take (b - a).toNat:=by
 obtain⟨m,rfl⟩:=bv h0
 obtain⟨n,rfl⟩:=bv (by lia:0<=b)
 unfold cut
 rw[HT.sIx_nat,HT.sIx_nat,dc (by lia),dc (by lia)]
 have:((n:Int) - (m:Int)).toNat=n - m:=by lia
 rw[this]
 rfl
theorem xS{k:Nat}{A:Around}(r:Room k A):A.units+100<cLine:=by have:=r.un;lia
end L3
namespace L3
theorem Qq{K:rC}{x y:V}{H:Hp}{Q:VK}{l m:List D}(h:(Is K H (.lst l) x/\Is K H (.lst m) y)\/(Is K H (.tup l) x/\Is K H (.tup m) y))(hd:va l<50)(q:Q (.bl (jG l m)) H):zaN K x y H Q:=⟨l,m,h,hd,q⟩
theorem Qe{K:rC}{x y:V}{H:Hp}{Q:VK}{l m:List D}(h:(Is K H (.lst l) x/\Is K H (.lst m) y)\/(Is K H (.tup l) x/\Is K H (.tup m) y))(hd:va l<50)(q:Q (.bl (!jG l m)) H):zaO K x y H Q:=⟨l,m,h,hd,q⟩
def zaT(t u:TS):TS:=fun D σ H=>∃ R:St->Hp->Prop,t { D with nx:=R } σ H/\∀ σ' H',R σ' H'->u D σ' H'
theorem zg{X:Cx}{st:Stmt}{rest:List Stmt}{t u:TS}(h1:PS X st t)(h2:PSs X rest u):PSs X (st::rest) (zaT t u):=by
 intro pins s σ H D I h
 obtain⟨R,h,hr⟩:=h
 refine wpAny_execs_cons (thn (h1 pins s σ H { D with nx:=R } I h) fun f s1 q=>?_)
 cases f with
 | next =>
  obtain⟨σ',H',I',q⟩:=q
  exact h2 pins s1 σ' H' D I' (hr _ _ q)
 | ret v=>exact q
 | brk=>exact q
 | cont=>exact q
theorem zj{t u:TS}{D:xw}{σ:St}{H:Hp}(R:St->Hp->Prop)(h:t { D with nx:=R } σ H)(hr:∀ σ' H',R σ' H'->u D σ' H'):zaT t u D σ H:=⟨R,h,hr⟩
theorem zF{H H':Hp}{a:Addr}{o:HO}(h:Same H H')(e:H a=none):Same H (upd H' a o):=fun b u q=>by
 rw[zh (zr q e)]
 exact h b u q
theorem ForL.by{K:rC}{a:Addr}{xs:List V}{g:TG}{tb:TS}{D:xw}{σ:St}{H:Hp}(Pv:Nat->St->Hp->Prop)(h0:Pv 0 σ H)(hl:∀ i σ H,i<=xs.length->Pv i σ H->SqL K H a xs)
  (hs:∀ i x σ H,xs[i]? = some x->Pv i σ H->g x σ H fun σ2 H2=>tb { D with nx:=Pv (i+1),ct:=Pv (i+1),bk:=D.nx } σ2 H2) (hd:∀ σ H,Pv xs.length σ H->D.nx σ H):ForL K a g tb D σ H:=VJ Pv h0 hl hs hd
theorem za4{A B:Prop}(h:A):if false=false then A else B:=by rw[if_pos rfl];exact h
theorem V1{A B:Prop}(h:B):if true=false then A else B:=by rw[if_neg (by decide)];exact h
def Ko(K:rC)(a:Addr)(n:Nat)(g:TG)(tt:TT)(te:TE)(own:Nat)(ix:List Nat)(σ:L2.St)(H1:Hp)(Q:VK)(D:Addr):Prop:=YZ (Irv K a n) g tt te own ix σ H1 Q D
theorem Ku{K:rC}{ta:TA}{g:TG}{tt:TT}{te:TE}{own:Nat}{ix:List Nat}{σ:L2.St}{H:Hp}{Q:VK}:kJ (zaZ K ta) g tt te own ix σ H Q=ta σ H fun vs H1=>∃ a xs,vs=[.ref a]/\SqL K H1 a xs/\∀ D,H1 D=none->Ko K a xs.length g tt te own ix σ H1 Q D:=rfl
theorem za7{v:V}{σ:L2.St}{H:Hp}{Q:VK}:ya 0 (some v::σ) H Q=Q v H:=propext ⟨fun⟨_,h,q⟩=>by cases h;exact q,fun q=>⟨_,rfl,q⟩⟩
theorem zbE{a0:Option V}{v:V}{σ:L2.St}{H:Hp}{Q:VK}:ya 1 (a0::some v::σ) H Q=Q v H:=propext ⟨fun⟨_,h,q⟩=>by cases h;exact q,fun q=>⟨_,rfl,q⟩⟩
theorem zbD{a0 a1:Option V}{v:V}{σ:L2.St}{H:Hp}{Q:VK}:ya 2 (a0::a1::some v::σ) H Q=Q v H:=propext ⟨fun⟨_,h,q⟩=>by cases h;exact q,fun q=>⟨_,rfl,q⟩⟩
theorem za1{a0 a1 a2:Option V}{v:V}{σ:L2.St}{H:Hp}{Q:VK}:ya 3 (a0::a1::a2::some v::σ) H Q=Q v H:=propext ⟨fun⟨_,h,q⟩=>by cases h;exact q,fun q=>⟨_,rfl,q⟩⟩
theorem zbs{a0 a1 a2 a3:Option V}{v:V}{σ:L2.St}{H:Hp}{Q:VK}:ya 4 (a0::a1::a2::a3::some v::σ) H Q=Q v H:=propext ⟨fun⟨_,h,q⟩=>by cases h;exact q,fun q=>⟨_,rfl,q⟩⟩
theorem zby{a0 a1 a2 a3 a4:Option V}{v:V}{σ:L2.St}{H:Hp}{Q:VK}:ya 5 (a0::a1::a2::a3::a4::some v::σ) H Q=Q v H:=propext ⟨fun⟨_,h,q⟩=>by cases h;exact q,fun q=>⟨_,rfl,q⟩⟩
theorem zbl{a0 a1 a2 a3 a4 a5:Option V}{v:V}{σ:L2.St}{H:Hp}{Q:VK}:ya 6 (a0::a1::a2::a3::a4::a5::some v::σ) H Q=Q v H:=propext ⟨fun⟨_,h,q⟩=>by cases h;exact q,fun q=>⟨_,rfl,q⟩⟩
theorem zbc{a0 a1 a2 a3 a4 a5 a6:Option V}{v:V}{σ:L2.St}{H:Hp}{Q:VK}:ya 7 (a0::a1::a2::a3::a4::a5::a6::some v::σ) H Q=Q v H:=propext ⟨fun⟨_,h,q⟩=>by cases h;exact q,fun q=>⟨_,rfl,q⟩⟩
theorem zbq{a0 a1 a2 a3 a4 a5 a6 a7:Option V}{v:V}{σ:L2.St}{H:Hp}{Q:VK}:ya 8 (a0::a1::a2::a3::a4::a5::a6::a7::some v::σ) H Q=Q v H:=propext ⟨fun⟨_,h,q⟩=>by cases h;exact q,fun q=>⟨_,rfl,q⟩⟩
theorem zbd{a0 a1 a2 a3 a4 a5 a6 a7 a8:Option V}{v:V}{σ:L2.St}{H:Hp}{Q:VK}:ya 9 (a0::a1::a2::a3::a4::a5::a6::a7::a8::some v::σ) H Q=Q v H:=propext ⟨fun⟨_,h,q⟩=>by cases h;exact q,fun q=>⟨_,rfl,q⟩⟩
theorem Kr{a0 a1 a2 a3 a4 a5 a6 a7 a8 a9:Option V}{v:V}{σ:L2.St}{H:Hp}{Q:VK}:ya 10 (a0::a1::a2::a3::a4::a5::a6::a7::a8::a9::some v::σ) H Q=Q v H:=propext ⟨fun⟨_,h,q⟩=>by cases h;exact q,fun q=>⟨_,rfl,q⟩⟩
theorem Kh{a0 a1 a2 a3 a4 a5 a6 a7 a8 a9 a10:Option V}{v:V}{σ:L2.St}{H:Hp}{Q:VK}:ya 11 (a0::a1::a2::a3::a4::a5::a6::a7::a8::a9::a10::some v::σ) H Q=Q v H:=propext ⟨fun⟨_,h,q⟩=>by cases h;exact q,fun q=>⟨_,rfl,q⟩⟩
theorem KO{a0 a1 a2 a3 a4 a5 a6 a7 a8 a9 a10 a11:Option V}{v:V}{σ:L2.St}{H:Hp}{Q:VK}:ya 12 (a0::a1::a2::a3::a4::a5::a6::a7::a8::a9::a10::a11::some v::σ) H Q=Q v H:=propext ⟨fun⟨_,h,q⟩=>by cases h;exact q,fun q=>⟨_,rfl,q⟩⟩
theorem KP{a0 a1 a2 a3 a4 a5 a6 a7 a8 a9 a10 a11 a12:Option V}{v:V}{σ:L2.St}{H:Hp}{Q:VK}:ya 13 (a0::a1::a2::a3::a4::a5::a6::a7::a8::a9::a10::a11::a12::some v::σ) H Q=Q v H:=propext ⟨fun⟨_,h,q⟩=>by cases h;exact q,fun q=>⟨_,rfl,q⟩⟩
theorem Kz{a0 a1 a2 a3 a4 a5 a6 a7 a8 a9 a10 a11 a12 a13:Option V}{v:V}{σ:L2.St}{H:Hp}{Q:VK}:ya 14 (a0::a1::a2::a3::a4::a5::a6::a7::a8::a9::a10::a11::a12::a13::some v::σ) H Q=Q v H:=propext ⟨fun⟨_,h,q⟩=>by cases h;exact q,fun q=>⟨_,rfl,q⟩⟩
theorem Kn{a0 a1 a2 a3 a4 a5 a6 a7 a8 a9 a10 a11 a12 a13 a14:Option V}{v:V}{σ:L2.St}{H:Hp}{Q:VK}:ya 15 (a0::a1::a2::a3::a4::a5::a6::a7::a8::a9::a10::a11::a12::a13::a14::some v::σ) H Q=Q v H:=propext ⟨fun⟨_,h,q⟩=>by cases h;exact q,fun q=>⟨_,rfl,q⟩⟩
theorem zaC{b:Bool}{p:Bool->Prop}:(∃ k,V.bl b=V.bl k/\p k)=p b:=propext ⟨fun⟨_,h,q⟩=>by cases h;exact q,fun q=>⟨_,rfl,q⟩⟩
theorem JM{b:Int}{p:Int->Prop}:(∃ k,V.int b=V.int k/\p k)=p b:=propext ⟨fun⟨_,h,q⟩=>by cases h;exact q,fun q=>⟨_,rfl,q⟩⟩
theorem Jg{b:Str}{p:Str->Prop}:(∃ k,V.str b=V.str k/\p k)=p b:=propext ⟨fun⟨_,h,q⟩=>by cases h;exact q,fun q=>⟨_,rfl,q⟩⟩
theorem JL{b:Addr}{p:Addr->Prop}:(∃ k,V.ref b=V.ref k/\p k)=p b:=propext ⟨fun⟨_,h,q⟩=>by cases h;exact q,fun q=>⟨_,rfl,q⟩⟩
theorem zap{C:Int->Int->Prop}{g:Int->Int->V}{a b:Int}{H:Hp}{Q:VK}:rI C g (.int a) (.int b) H Q=(C a b/\Q (g a b) H):=propext ⟨fun⟨_,_,h,h',q⟩=>by cases h;cases h';exact q,fun q=>⟨_,_,rfl,rfl,q⟩⟩
theorem JJ{g:Int->Int->V}{a b:Int}{H:Hp}{Q:VK}:rI0 g (.int a) (.int b) H Q=Q (g a b) H:=propext ⟨fun⟨_,_,h,h',q⟩=>by cases h;cases h';exact q,fun q=>⟨_,_,rfl,rfl,q⟩⟩
theorem zbF{g:Int->V}{a:Int}{H:Hp}{Q:VK}:rU g (.int a) H Q=Q (g a) H:=propext ⟨fun⟨_,h,q⟩=>by cases h;exact q,fun q=>⟨_,rfl,q⟩⟩
theorem K8{a b:Int}{H:Hp}{Q:VK}:rGe (.int a) (.int b) H Q=Q (.bl (decide (b<=a))) H:=propext ⟨fun⟨_,_,h,h',q⟩=>by cases h;cases h';exact q,fun q=>⟨_,_,rfl,rfl,q⟩⟩
theorem Q1{a b:Int}{H:Hp}{Q:VK}:YA (.int a) (.int b) H Q=Q (.int (a+b)) H:=propext ⟨fun h=>(by rcases h with ⟨_,_,h,h',q⟩ | ⟨_,_,h,_⟩ | ⟨_,_,_,_,h,_⟩ <;> first | (cases h;cases h';exact q) | cases h),fun q=>.inl ⟨_,_,rfl,rfl,q⟩⟩
theorem QV{a b:Str}{H:Hp}{Q:VK}:YA (.str a) (.str b) H Q=(a.length+b.length<=rB/\Q (.str (a ++ b)) H):=propext ⟨fun h=>(by rcases h with ⟨_,_,h,_⟩ | ⟨_,_,h,h',q⟩ | ⟨_,_,_,_,h,_⟩ <;> first | (cases h;cases h';exact q) | cases h),fun q=>.inr (.inl ⟨_,_,rfl,rfl,q⟩)⟩
theorem JF{a b:Addr}{H:Hp}{Q:VK}:YA (.ref a) (.ref b) H Q=(∃ xs,H a=some (.lst xs)/\∃ zs,H b=some (.lst zs)/\xs.length+zs.length<=rB/\∀ p,H p=none->Q (.ref p) (upd H p (.lst (xs ++ zs)))):=propext ⟨fun h=>(by rcases h with ⟨_,_,h,_⟩ | ⟨_,_,h,_⟩ | ⟨_,_,xs,zs,h,h',q1,q2,q⟩ <;> first | (cases h;cases h';exact⟨xs,q1,zs,q2,q⟩) | cases h),fun⟨xs,q1,zs,q2,q⟩=>.inr (.inr ⟨_,_,_,_,rfl,rfl,q1,q2,q⟩)⟩
theorem QN{a b:Int}{H:Hp}{Q:VK}:Vr (.int a) (.int b) H Q=(CMul a b/\Q (.int (a * b)) H):=propext ⟨fun h=>(by rcases h with ⟨_,_,h,h',q⟩ | ⟨_,_,h,_⟩ <;> first | (cases h;cases h';exact q) | cases h),fun q=>.inl ⟨_,_,rfl,rfl,q⟩⟩
theorem K0{a b:Int}{H:Hp}{Q:VK}:JZ (.int a) (.int b) H Q=Q (.bl (decide (a<b))) H:=propext ⟨fun h=>(by rcases h with ⟨_,_,h,h',q⟩ | ⟨_,_,h,_⟩ <;> first | (cases h;cases h';exact q) | cases h),fun q=>.inl ⟨_,_,rfl,rfl,q⟩⟩
theorem KK{a b:Str}{H:Hp}{Q:VK}:JZ (.str a) (.str b) H Q=Q (.bl (decide (cs a<cs b))) H:=propext ⟨fun h=>(by rcases h with ⟨_,_,h,_⟩ | ⟨_,_,h,h',q⟩ <;> first | (cases h;cases h';exact q) | cases h),fun q=>.inr ⟨_,_,rfl,rfl,q⟩⟩
theorem Kf{a b:Int}{H:Hp}{Q:VK}:J8 (.int a) (.int b) H Q=Q (.bl (decide (a<=b))) H:=propext ⟨fun h=>(by rcases h with ⟨_,_,h,h',q⟩ | ⟨_,_,h,_⟩ <;> first | (cases h;cases h';exact q) | cases h),fun q=>.inl ⟨_,_,rfl,rfl,q⟩⟩
theorem KJ{a b:Str}{H:Hp}{Q:VK}:J8 (.str a) (.str b) H Q=Q (.bl (!(decide (cs b<cs a)))) H:=propext ⟨fun h=>(by rcases h with ⟨_,_,h,_⟩ | ⟨_,_,h,h',q⟩ <;> first | (cases h;cases h';exact q) | cases h),fun q=>.inr ⟨_,_,rfl,rfl,q⟩⟩
theorem K4{a b:Int}{H:Hp}{Q:VK}:J6 (.int a) (.int b) H Q=Q (.bl (decide (b<a))) H:=propext ⟨fun h=>(by rcases h with ⟨_,_,h,h',q⟩ | ⟨_,_,h,_⟩ <;> first | (cases h;cases h';exact q) | cases h),fun q=>.inl ⟨_,_,rfl,rfl,q⟩⟩
theorem Kx{a b:Str}{H:Hp}{Q:VK}:J6 (.str a) (.str b) H Q=Q (.bl (decide (cs b<cs a))) H:=propext ⟨fun h=>(by rcases h with ⟨_,_,h,_⟩ | ⟨_,_,h,h',q⟩ <;> first | (cases h;cases h';exact q) | cases h),fun q=>.inr ⟨_,_,rfl,rfl,q⟩⟩
theorem Kl{a b:Int}{H:Hp}{Q:VK}:rEq (.int a) (.int b) H Q=Q (.bl (decide (a=b))) H:=by simp only[rEq,Uy,true_and,V.int.injEq]
theorem KN{a b:List Nat}{H:Hp}{Q:VK}:rEq (.str (tx a)) (.str (tx b)) H Q=Q (.bl (decide (a=b))) H:=by simp only[rEq,UI,true_and,V.str.injEq,UU]
theorem KA{a b:Int}{H:Hp}{Q:VK}:rNe (.int a) (.int b) H Q=Q (.bl (!decide (a=b))) H:=by simp only[rNe,Uy,true_and,V.int.injEq]
theorem zaf{a b:List Nat}{H:Hp}{Q:VK}:rNe (.str (tx a)) (.str (tx b)) H Q=Q (.bl (!decide (a=b))) H:=by simp only[rNe,UI,true_and,V.str.injEq,UU]
theorem Uj{K:rC}{a:Addr}{i:Int}{H:Hp}{Q:VK}:J4 K (.ref a) (.int i) H Q=(∃ xs,SqL K H a xs/\∃ v,atI xs i=some v/\Q v H):=propext ⟨fun⟨_,xs,_,v,h,h',q1,q2,q⟩=>by cases h;cases h';exact⟨xs,q1,v,q2,q⟩,fun⟨xs,q1,v,q2,q⟩=>⟨_,xs,_,v,rfl,rfl,q1,q2,q⟩⟩
theorem V5{K:rC}{a:Addr}{i:Int}{H:Hp}{Q:VK}:QD K (.ref a) (.int i) H Q=(∃ xs,SqT K H a xs/\∃ v,atI xs i=some v/\Q v H):=propext ⟨fun⟨_,xs,_,v,h,h',q1,q2,q⟩=>by cases h;cases h';exact⟨xs,q1,v,q2,q⟩,fun⟨xs,q1,v,q2,q⟩=>⟨_,xs,_,v,rfl,rfl,q1,q2,q⟩⟩
theorem Ul{z:Str}{i:Int}{H:Hp}{Q:VK}:J9 (.str z) (.int i) H Q=(z.length<=rB/\∃ c,atI z.cps.toList i=some c/\Q (.str ⟨#[c]⟩) H):=propext ⟨fun⟨_,_,c,h,h',q1,q2,q⟩=>by cases h;cases h';exact⟨q1,c,q2,q⟩,fun⟨q1,c,q2,q⟩=>⟨_,_,c,rfl,rfl,q1,q2,q⟩⟩
theorem KL{K:rC}{a:Addr}{i:Int}{H:Hp}{Q:VK}:rIx K (.ref a) (.int i) H Q=((∃ xs,SqL K H a xs/\∃ v,atI xs i=some v/\Q v H)\/∃ xs,SqT K H a xs/\∃ v,atI xs i=some v/\Q v H):=by
 unfold rIx
 rw[Uj,V5]
 exact propext ⟨fun h=>h.elim .inl fun h=>h.elim .inr fun⟨_,_,_,h,_⟩=>(nomatch h),fun h=>h.elim .inl fun h=>.inr (.inl h)⟩
theorem KI{K:rC}{z:Str}{i:Int}{H:Hp}{Q:VK}:rIx K (.str z) (.int i) H Q=(z.length<=rB/\∃ c,atI z.cps.toList i=some c/\Q (.str ⟨#[c]⟩) H):=by
 unfold rIx
 rw[Ul]
 exact propext ⟨fun h=>h.elim (fun⟨_,_,_,_,h,_⟩=>nomatch h) fun h=>h.elim (fun⟨_,_,_,_,h,_⟩=>nomatch h) id,fun h=>.inr (.inr h)⟩
theorem zaB{K:rC}{z:Str}{lo hi:Option Int}{H:Hp}{Q:VK}:J7 K (.str z) lo hi H Q=(z.length<=rB/\Q (.str (tx (cut (cs z) lo hi))) H):=propext ⟨fun h=>h.elim (fun⟨_,_,h,_⟩=>nomatch h) fun⟨_,h,q⟩=>by cases h;exact q,fun q=>.inr ⟨_,rfl,q⟩⟩
theorem KS{K:rC}{a:Addr}{lo hi:Option Int}{H:Hp}{Q:VK}:J7 K (.ref a) lo hi H Q=(∃ xs,SqL K H a xs/\∀ p,H p=none->Q (.ref p) (upd H p (.lst (YB xs lo hi)))):=propext ⟨fun h=>h.elim (fun⟨_,xs,h,q⟩=>by cases h;exact⟨xs,q⟩) fun⟨_,h,_⟩=>(nomatch h),fun⟨xs,q⟩=>.inl ⟨_,xs,rfl,q⟩⟩
theorem KU{K:rC}{z:Str}{H:Hp}{Q:VK}:U4 K [.str z] H Q=(z.length<=rB/\Q (.int z.length) H):=propext ⟨fun⟨_,_,h,q1,q⟩=>by cases h;obtain⟨q1,rfl⟩:=q1;exact⟨q1,q⟩,fun⟨q1,q⟩=>⟨_,_,rfl,⟨q1,rfl⟩,q⟩⟩
theorem zab{K:rC}{a:Addr}{H:Hp}{Q:VK}:U4 K [.ref a] H Q=(∃ n:Nat,((∃ xs,SqL K H a xs/\n=xs.length)\/∃ xs,SqT K H a xs/\n=xs.length)/\Q (.int n) H):=propext ⟨fun⟨_,n,h,q1,q⟩=>by cases h;exact⟨n,q1,q⟩,fun⟨n,q1,q⟩=>⟨_,n,rfl,q1,q⟩⟩
theorem KQ{K:rC}{b:Bool}{H:Hp}{p:Bool->Prop}:(∃ k,QB K (.bl b) H k/\p k)=p b:=propext ⟨fun⟨_,h,q⟩=>by cases h;exact q,fun q=>⟨_,rfl,q⟩⟩
theorem zbr{K:rC}{z:Str}{H:Hp}{p:Prop}:(tyV K "str" (.str z) H/\p)=p:=propext ⟨fun h=>h.2,fun h=>⟨rfl,h⟩⟩
theorem zam{a:Addr}{y:V}{H:Hp}{Q:VK}:Zo (.ref a) [y] H Q=(∃ xs,H a=some (.lst xs)/\xs.length<rB/\Q .non (upd H a (.lst (xs ++ [y])))):=propext ⟨fun⟨_,xs,_,h,h',q⟩=>by cases h;cases h';exact⟨xs,q⟩,fun⟨xs,q⟩=>⟨_,xs,_,rfl,rfl,q⟩⟩
end L3
namespace L3
section
variable{X:Cx}
end
end L3
namespace L3
section
variable{M:Model}{A:Around}{E:Value->Shared->Prop}{s:Shared}{base:Heap}{env env0:Env}{outer:List Env}{L x t C:Addr}{dx:Option Addr}
end
section
variable{X:Cx}{pins:List (Addr × Obj)}{σ:St}{H1:Hp}{s1:Shared}
theorem Inv.noted{h':Heap}{x T:Addr}{tb:Value}(I1:Inv X pins σ H1 s1)(hst:X.stack=X.env::X.outer)(fx:wT X pins H1 x)(fT:∀ T,tb=.ref T->wT X pins H1 T)(fT':wT X pins H1 T)
  (k1:∀ b o,b≠x->tb≠.ref b->b ∉ frs (X.env::X.outer)->s1.heap.get? b=some o->h'.get? b=some o) (k2:∀ b o,b≠x->tb≠.ref b->s1.heap.get? b=some o->∃ sl,h'.get? b=some { o with slots:=sl }):Inv X pins σ H1 { s1 with heap:=h' }:=by
 have tbs:∀ b,tb=.ref b->H1 b=none:=fun b hb=>(fT b hb).1
 have nch:∀ b o,s1.heap.get? b=some o->b ∉ (x::T::tbL tb)->b≠x/\tb≠.ref b:=fun b o _ hb=>by
  refine⟨fun z=>hb (by simp [z]),fun z=>hb ?_⟩
  rw[z]
  simp [tbL]
 have un:Un (frs X.stack) (x::T::tbL tb) H1 H1 s1.heap h':=by
  rw[hst]
  refine⟨fun b o e n hb hc=>?_,fun b o e n hb hc=>?_,fun b o e n _=>n,fun b o e hc=>?_,fun b xs e=>e,fun b o u e=>e,fun b ps e=>⟨#[],by rw[e];simp⟩⟩
  ·obtain⟨a1,a2⟩:=nch b o e hc
   exact k1 b o a1 a2 hb e
  ·obtain⟨a1,a2⟩:=nch b o e hc
   exact k2 b o a1 a2 e
  ·obtain⟨a1,a2⟩:=nch b o e hc
   obtain⟨sl,q⟩:=k2 b o a1 a2 e
   exact⟨_,q⟩
 have hok:HOk X.prog X.w H1 h':=fun b u e=>by
  refine (I1.hok b u e).stay (fun c v hc q=>k1 c v ?_ ?_ ?_ q) (fun _ q=>q) fun _ _ q=>q
  ·rintro rfl
   rcases hc with rfl | hc
   ·rw[fx.1] at e;cases e
   ·rw[fx.1] at hc;cases hc
  ·intro z
   have:=tbs c z
   rcases hc with rfl | hc
   ·rw[this] at e;cases e
   ·rw[this] at hc;cases hc
  ·intro z
   rw[<- hst] at z
   have:=I1.stkFree c z
   rcases hc with rfl | hc
   ·rw[this] at e;cases e
   ·rw[this] at hc;cases hc
 exact I1.call' (s':={ s1 with heap:=h' }) rfl un hok I1.bare fun b hb=>by
  have fb:wT X pins H1 b:=by
   rcases rH.mp hb with z | z
   ·rw[z];exact fx
   ·rcases rH.mp z with z | z
    ·rw[z];exact fT'
    ·cases tb with
     | ref b' =>
      have:b=b':=by simpa [tbL] using z
      rw[this];exact fT b' rfl
     | _=>simp [tbL] at z
  obtain⟨_,a1,_,a3,a4,a5⟩:=fb
  exact⟨a3,a1,a4,a5⟩
end
section
variable{X:Cx}{scope:Scope}{own caps:List Str}{ix:List Nat}{cl:List (Str × Addr)}
end
section
variable{X:Cx}{scope:Scope}{own caps:List Str}{ix:List Nat}{elt tg iter:Expr}{ifs:List Expr}{pos:Pos}{wi:TI}{g:TG}{tt:TT}{te:TE}
end
end L3
namespace L3
open PySem.AutoSeq1 (wpAny_loadPart')
open MeetsSeq MeetsSeq2 MeetsSeq3 SeqRoads2 SeqAt
def LtAt(A:Around)(s:Shared)(y x:Value)(b:Bool):Prop :=
 ∀(prog:Program) (w:World) (E:Value->Shared->Prop) (Q:Value->Shared->Prop),Q (.bool b) s->wpAny (model prog w) A (richCompare .Lt y x) Q E s
def Yn(e t r:Nat->Bool)(m n:Nat):Prop:=∀ i,i<=m->i<=n->r i=if i<m/\i<n then (if e i=true then r (i+1) else t i) else decide (m<n)
theorem Xb(l b:Addr)(items items2:Array Value)(n n2:Nat)(dd dd2:Option Addr)(sl sl2:Array (Option Value))(e t r:Nat->Bool)(hr:Yn e t r items.size items2.size)(k:Nat) :
  ∀ i:Nat,i<=items.size->i<=items2.size->items.size - i=k->Meets (Builtin.«list.__eq__.loop» ⟨[.ref l,.ref b,rawInt i,rawInt 0],[]⟩)
   (fun A R s=>s.heap.get? l=some { cls:=.type "list",dict:=dd,data:=.seq items n,slots:=sl }/\s.heap.get? b=some { cls:=.type "list",dict:=dd2,data:=.seq items2 n2,slots:=sl2 } /\
    (∀ j (h1:j<items.size) (h2:j<items2.size),EqAt A.in1 s items[j] items2[j] (e j))/\(∀ j (h1:j<items.size) (h2:j<items2.size),e j=false->LtAt A.in1 s items[j] items2[j] (t j)) /\
    R (.ok (.ret (.bool (r i)))) s):=by
 induction k with
 | zero =>
  intro i b1 b2 hk prog w A R s h
  obtain⟨hp,g,d,tk,os⟩:=s;obtain⟨hl,hb,he,ht,h⟩:=h
  have hri:=hr i b1 b2
  rw[if_neg (by lia)] at hri
  rw[hri] at h
  wp_walk using wpAny_loadPart' hl,wpAny_loadPart' hb
  have hi1:items[((i:Nat):Int).toNat]? = none:=by simp;lia
  rw[hi1]
  wp_walk using wpAny_loadPart' hl,wpAny_loadPart' hb
  exact h
 | succ k ih =>
  intro i b1 b2 hk prog w A R s h
  obtain⟨hp,g,d,tk,os⟩:=s;obtain⟨hl,hb,he,ht,h⟩:=h
  have hlt:i<items.size:=by lia
  have hi1:items[((i:Nat):Int).toNat]? = some items[i]:=by simp [hlt]
  have hc:((i:Int)+1)=((i+1:Nat):Int):=by push_cast;rfl
  have hri:=hr i b1 b2
  by_cases hlt2:i<items2.size
  ·rw[if_pos ⟨hlt,hlt2⟩] at hri
   rw[hri] at h
   have hi2:items2[((i:Nat):Int).toNat]? = some items2[i]:=by simp [hlt2]
   wp_walk using wpAny_loadPart' hl,wpAny_loadPart' hb
   rw[hi1,hi2]
   refine ro (he i hlt hlt2 prog w _ _ ?_)
   cases hb':e i with
   | true =>
    rw[hb',if_pos rfl] at h
    wp_walk
    rw[hc]
    exact⟨plainId_quiet plain_eq_loop _,codeAny_builtin entry_eq_loop (by
     rw[Around.under_plainId plain_eq_loop _]
     exact ih (i+1) (by lia) (by lia) (by lia) prog w A R _ ⟨hl,hb,he,ht,h⟩)⟩
   | false =>
    rw[hb',if_neg av] at h
    wp_walk using wpAny_loadPart' hl,wpAny_loadPart' hb
    rw[hi1,hi2]
    refine ro (ht i hlt hlt2 hb' prog w _ _ ?_)
    wp_walk
    exact h
  ·rw[if_neg (by lia)] at hri
   rw[hri] at h
   have hi2:items2[((i:Nat):Int).toNat]? = none:=by simp;lia
   wp_walk using wpAny_loadPart' hl,wpAny_loadPart' hb
   rw[hi1,hi2]
   wp_walk using wpAny_loadPart' hl,wpAny_loadPart' hb
   exact h
theorem Xh(l b:Addr)(items items2:Array Value)(n n2:Nat)(dd dd2:Option Addr)(sl sl2:Array (Option Value))(e t r:Nat->Bool)(hr:Yn e t r items.size items2.size) :
  Meets (Builtin.«list.__lt__» ⟨[.ref l,.ref b],[]⟩)
   (fun A R s=>s.heap.get? l=some { cls:=.type "list",dict:=dd,data:=.seq items n,slots:=sl }/\s.heap.get? b=some { cls:=.type "list",dict:=dd2,data:=.seq items2 n2,slots:=sl2 } /\
    (∀ j (h1:j<items.size) (h2:j<items2.size),EqAt A.in1 s items[j] items2[j] (e j))/\(∀ j (h1:j<items.size) (h2:j<items2.size),e j=false->LtAt A.in1 s items[j] items2[j] (t j)) /\
    R (.ok (.ret (.bool (r 0)))) s):=by
 intro prog w A R s h
 obtain⟨hp,g,d,tk,os⟩:=s;obtain⟨hl,hb,he,ht,h⟩:=h
 have f3:=AutoSeq1.sub_list_list
 wp_walk using wpAny_loadPart' hl,wpAny_loadPart' hb
 exact⟨plainId_quiet plain_eq_loop _,codeAny_builtin entry_eq_loop (by
  rw[Around.under_plainId plain_eq_loop _]
  exact Xb l b items items2 n n2 dd dd2 sl sl2 e t r hr _ 0 (aP _) (aP _) rfl prog w A R _ ⟨hl,hb,he,ht,h⟩)⟩
theorem YJ(l b:Addr)(items items2:Array Value)(n n2:Nat)(dd dd2:Option Addr)(sl sl2:Array (Option Value))(e t r:Nat->Bool)(hr:Yn e t r items.size items2.size) :
  Meets (Builtin.«tuple.__lt__» ⟨[.ref l,.ref b],[]⟩)
   (fun A R s=>s.heap.get? l=some { cls:=.type "tuple",dict:=dd,data:=.seq items n,slots:=sl }/\s.heap.get? b=some { cls:=.type "tuple",dict:=dd2,data:=.seq items2 n2,slots:=sl2 } /\
    (∀ j (h1:j<items.size) (h2:j<items2.size),EqAt A.in1 s items[j] items2[j] (e j))/\(∀ j (h1:j<items.size) (h2:j<items2.size),e j=false->LtAt A.in1 s items[j] items2[j] (t j)) /\
    R (.ok (.ret (.bool (r 0)))) s) :=
 .of_wp fun prog w A R s h=>by
  obtain⟨hp,g,d,tk,os⟩:=s;obtain⟨hl,hb,he,ht,h⟩:=h
  have f2:=AutoSeq1.sub_tuple_tuple
  have hZ:(items.toList.zip items2.toList).length=min items.size items2.size:=by simp
  wp_walk using wpAny_loadPart' hl,wpAny_loadPart' hb,wpAny_forIn_list _ (fun rest b s'=>b.1=none/\s'=⟨hp,g,d,tk,os⟩/\∃ i,i<=min items.size items2.size/\rest=(items.toList.zip items2.toList).drop i /\
   R (.ok (.ret (.bool (r i)))) ⟨hp,g,d,tk,os⟩) _
  case turn =>
   rintro⟨y,x⟩ rest b s' ⟨hb',rfl,i,hi,hz,hR⟩
   have hlt:i<(items.toList.zip items2.toList).length:=by
    rcases fq i (items.toList.zip items2.toList).length with h' | h'
    ·exact h'
    ·rw[bB h'] at hz;cases hz
   have hm:i<min items.size items2.size:=hZ ▸ hlt
   have h1:i<items.size:=aq hm (Nat.min_le_left _ _)
   have h2:i<items2.size:=aq hm (Nat.min_le_right _ _)
   rw[aT hlt] at hz
   injection hz with hyx hrest
   have hy:y=items[i]:=by have:=congrArg Prod.fst hyx;simpa using this
   have hx:x=items2[i]:=by have:=congrArg Prod.snd hyx;simpa using this
   subst hy hx
   have hri:=hr i (by lia) (by lia)
   rw[if_pos ⟨h1,h2⟩] at hri
   rw[hri] at hR
   refine ro (he i h1 h2 prog w _ _ ?_)
   cases hy:e i with
   | true =>
    rw[hy,if_pos rfl] at hR
    wp_walk
    exact⟨rfl,rfl,i+1,by lia,hrest,hR⟩
   | false =>
    rw[hy,if_neg av] at hR
    simp only[Bool.not_false,if_true]
    refine ro (wpAny_rule ?_)
    refine ro (ht i h1 h2 hy prog w _ _ ?_)
    wp_walk
    exact⟨_,rfl,hR⟩
  case fin =>
   rintro⟨b1,b2⟩ s' ⟨hb',rfl,i,hi,hz,hR⟩
   simp only at hb'
   subst hb'
   have hge:min items.size items2.size<=i:=by
    rcases fq i (items.toList.zip items2.toList).length with h' | h'
    ·rw[aT h'] at hz;cases hz
    ·exact hZ ▸ h'
   have hri:=hr i (by lia) (by lia)
   rw[if_neg (by lia)] at hri
   rw[hri] at hR
   wp_walk
   exact⟨_,rfl,hR⟩
  case h =>
   exact⟨rfl,rfl,0,aP _,rfl,h⟩
theorem LtAt.lists{A:Around}{s:Shared}{l b:Addr}{items items2:Array Value}{e t r:Nat->Bool}(hl:s.heap.IsList l items)(hb:s.heap.IsList b items2)(hr:Yn e t r items.size items2.size)(hu:A.units<cLine)
  (he:∀ j (h1:j<items.size) (h2:j<items2.size),EqAt A.in1 s items[j] items2[j] (e j)) (ht:∀ j (h1:j<items.size) (h2:j<items2.size),e j=false->LtAt A.in1 s items[j] items2[j] (t j)):LtAt A s (.ref l) (.ref b) (r 0):=fun prog w E Q h=>by
 obtain⟨⟨cls,dd,data,sl⟩,ho,hc,n,hd⟩:=id hl
 obtain⟨⟨cls2,dd2,data2,sl2⟩,ho2,hc2,n2,hd2⟩:=id hb
 simp only at hc hd hc2 hd2
 subst hc hd hc2 hd2
 exact richCompare_meets_room (op:=.Lt) ⟨_,ho,rfl⟩ ⟨_,ho2,rfl⟩ F.slot_list_lt F.entry_list_lt (F.args_list_lt_2 _ _) (Xh l b items items2 n n2 dd dd2 sl sl2 e t r hr)
  ⟨ho,ho2,he,ht,show Value.bool (r 0)≠Value.notImplemented/\Q (.bool (r 0)) s from ⟨(fun x=>nomatch x),h⟩⟩ hu
theorem LtAt.tuples{A:Around}{s:Shared}{l b:Addr}{items items2:Array Value}{e t r:Nat->Bool}(hl:s.heap.IsTuple l items)(hb:s.heap.IsTuple b items2)(hr:Yn e t r items.size items2.size)(hu:A.units<cLine)
  (he:∀ j (h1:j<items.size) (h2:j<items2.size),EqAt A.in1 s items[j] items2[j] (e j)) (ht:∀ j (h1:j<items.size) (h2:j<items2.size),e j=false->LtAt A.in1 s items[j] items2[j] (t j)):LtAt A s (.ref l) (.ref b) (r 0):=fun prog w E Q h=>by
 obtain⟨⟨cls,dd,data,sl⟩,ho,hc,n,hd⟩:=id hl
 obtain⟨⟨cls2,dd2,data2,sl2⟩,ho2,hc2,n2,hd2⟩:=id hb
 simp only at hc hd hc2 hd2
 subst hc hd hc2 hd2
 exact richCompare_meets_room (op:=.Lt) ⟨_,ho,rfl⟩ ⟨_,ho2,rfl⟩ F.slot_tuple_lt F.entry_tuple_lt (F.args_tuple_lt_2 _ _) (YJ l b items items2 n n2 dd dd2 sl sl2 e t r hr)
  ⟨ho,ho2,he,ht,show Value.bool (r 0)≠Value.notImplemented/\Q (.bool (r 0)) s from ⟨(fun x=>nomatch x),h⟩⟩ hu
end L3
namespace L3
mutual
def okD:D->D->Prop
 | .int _,.int _=>True
 | .lst l,.lst m=>ko l m
 | .tup l,.tup m=>ko l m
 | _,_=>False
def ko:List D->List D->Prop
 | d::l,e::m=>okD d e/\ko l m
 | _,_=>True
end
mutual
noncomputable def ltD:D->D->Bool
 | .int a,.int b=>decide (a<b)
 | .lst l,.lst m=>qj l m
 | .tup l,.tup m=>qj l m
 | _,_=>false
noncomputable def qj:List D->List D->Bool
 | d::l,e::m=>if eqD d e=true then qj l m else ltD d e
 | [],_::_=>true
 | _,[]=>false
end
theorem Xm(l m:List D):Yn (fun j=>eqD (l.getD j .non) (m.getD j .non)) (fun j=>ltD (l.getD j .non) (m.getD j .non)) (fun i=>qj (l.drop i) (m.drop i)) l.length m.length:=by
 intro i b1 b2
 simp only
 by_cases h:i<l.length/\i<m.length
 ·rw[if_pos h,aT h.1,aT h.2,qj]
  rw[aj,aj,ag h.1,ag h.2]
  rfl
 ·rw[if_neg h]
  by_cases h1:i<l.length
  ·have h2:¬ i<m.length:=fun z=>h ⟨h1,z⟩
   rw[aT h1,bB (cX h2),qj]
   ·simp;lia
   all_goals simp
  ·rw[bB (cX h1)]
   by_cases h2:i<m.length
   ·rw[aT h2,qj]
    simp;lia
   ·rw[bB (cX h2),qj]
    ·simp;lia
    all_goals simp
theorem JT:∀{l m:List D} {j:Nat} {d e:D},ko l m->l[j]? = some d->m[j]? = some e->okD d e
 | d::l,e::m,0,_,_,h,q1,q2=>by
  cases q1;cases q2
  simp only[ko] at h
  exact h.1
 | d::l,e::m,j+1,_,_,h,q1,q2=>by
  simp only[ko] at h
  exact JT (j:=j) h.2 q1 q2
section
variable{X:Cx}{pins:List (Addr × Obj)}{σ:St}{H:Hp}{s:Shared}
theorem ZY{l m:List D}{xs ys:List V}{its its':List Value}{A:Around}{n:Nat}(hl:Iss X.K H l xs)(hm:Iss X.K H m ys)(r:Vals xs its)(r':Vals ys its')(hn:va l<n)(ok:ko l m)
  (ih:∀(d e:D) (x y:V) (u v:Value),dpD d<n->okD d e->Is X.K H d x->Is X.K H e y->RelV x u->RelV y v->LtAt A s u v (ltD d e)) :
  ∀ j (h1:j<its.toArray.size) (h2:j<its'.toArray.size),LtAt A s its.toArray[j] its'.toArray[j] (ltD (l.getD j .non) (m.getD j .non)):=by
 intro j h1 h2
 rw[ah] at h1 h2
 have e1:=hl.len
 have e2:=hm.len
 have e3:=r.length
 have e4:=r'.length
 have g1:l[j]? = some l[j]:=ag (by lia)
 have g2:m[j]? = some m[j]:=ag (by lia)
 generalize l[j]=d at g1
 generalize m[j]=e at g2
 obtain⟨x,hx,ix⟩:=hl.at g1
 obtain⟨y,hy,iy⟩:=hm.at g2
 obtain⟨u,hu,ru⟩:=yE r hx
 obtain⟨v,hv,rv⟩:=yE r' hy
 have q1:its.toArray[j]=u:=by
  have:=(rD.mp hu).2
  simpa using this
 have q2:its'.toArray[j]=v:=by
  have:=(rD.mp hv).2
  simpa using this
 rw[q1,q2,aj,aj,g1,g2]
 exact ih d e x y u v (bX (Vz g1) hn) (JT ok g1 g2) ix iy ru rv
theorem Ud(I:Inv X pins σ H s):∀(n:Nat) (A:Around) (d e:D) (x y:V) (u v:Value),A.units+n<cLine->dpD d<n->okD d e->Is X.K H d x->Is X.K H e y->RelV x u->RelV y v->LtAt A s u v (ltD d e):=by
 intro n
 induction n with
 | zero=>intro A d e x y u v _ h;exact absurd h (cC _)
 | succ n ih =>
  intro A d e x y u v hu hd ok hx hy rx ry
  have hu1:A.units<cLine:=by lia
  have huA:A.in1.units+n<cLine:=by show A.units+1+n<cLine;lia
  cases d with
  | int a =>
   cases e with
   | int b =>
    simp only[Is] at hx hy
    subst hx hy
    obtain⟨t,rfl⟩:=rx
    obtain⟨t',rfl⟩:=ry
    exact fun prog w E Q h=>lt_int h
   | _=>simp only[okD] at ok
  | lst l =>
   cases e with
   | lst m =>
    simp only[Is] at hx hy
    obtain⟨a,xs,rfl,h1,h2⟩:=hx
    obtain⟨b,ys,rfl,g1,g2⟩:=hy
    cases rx;cases ry
    obtain⟨its,r,p,_⟩:=I.list h1
    obtain⟨its',r',p',_⟩:=I.list g1
    simp only[dpD] at hd
    simp only[okD] at ok
    have L1:=h2.len
    have L2:=g2.len
    have L3:=r.length
    have L4:=r'.length
    have st:=Xm l m
    rw[show l.length=its.toArray.size by simp only[ah];lia,show m.length=its'.toArray.size by simp only[ah];lia] at st
    exact LtAt.lists (A:=A) p.isList p'.isList st hu1 (yP h2 g2 r r' (n:=n) (by lia) fun d e x y u v q1 q2 q3 q4 q5=>vJ I n A.in1 d e x y u v huA q1 q2 q3 q4 q5)
     (fun j h1 h2 _=>ZY (n:=n) (A:=A.in1) ‹_› g2 r r' (by lia) ok (fun d e x y u v q1 q2 q3 q4 q5 q6=>ih A.in1 d e x y u v huA q1 q2 q3 q4 q5 q6) j h1 h2)
   | _=>simp only[okD] at ok
  | tup l =>
   cases e with
   | tup m =>
    simp only[Is] at hx hy
    obtain⟨a,xs,rfl,h1,h2⟩:=hx
    obtain⟨b,ys,rfl,g1,g2⟩:=hy
    cases rx;cases ry
    obtain⟨its,r,p,_⟩:=I.tuple h1
    obtain⟨its',r',p',_⟩:=I.tuple g1
    simp only[dpD] at hd
    simp only[okD] at ok
    have L1:=h2.len
    have L2:=g2.len
    have L3:=r.length
    have L4:=r'.length
    have st:=Xm l m
    rw[show l.length=its.toArray.size by simp only[ah];lia,show m.length=its'.toArray.size by simp only[ah];lia] at st
    exact LtAt.tuples (A:=A) p p' st hu1 (yP h2 g2 r r' (n:=n) (by lia) fun d e x y u v q1 q2 q3 q4 q5=>vJ I n A.in1 d e x y u v huA q1 q2 q3 q4 q5)
     (fun j h1 h2 _=>ZY (n:=n) (A:=A.in1) ‹_› g2 r r' (by lia) ok (fun d e x y u v q1 q2 q3 q4 q5 q6=>ih A.in1 d e x y u v huA q1 q2 q3 q4 q5 q6) j h1 h2)
   | _=>simp only[okD] at ok
  | non=>cases e <;> simp only[okD] at ok
  | bl _=>cases e <;> simp only[okD] at ok
  | str _=>cases e <;> simp only[okD] at ok
def zaF(K:rC):R2:=fun x y H Q=>∃ d e,Is K H d x/\Is K H e y/\dpD d<50/\okD d e/\Q (.bl (ltD d e)) H
theorem JO(hu:X.A.units+100<cLine):OpR X (compareOp .Lt) (zaF X.K):=by
 intro pins s σ H x y v u Q I rx ry h
 obtain⟨d,e,hx,hy,hd,ok,q⟩:=h
 exact Ud I 50 X.A d e x y v u (by lia) hd ok hx hy rx ry X.prog X.w X.xe _ ⟨.bl _,H,I,rfl,q⟩
end
theorem Qx{K:rC}{x y:V}{H:Hp}{Q:VK}{d e:D}(h1:Is K H d x)(h2:Is K H e y)(h3:dpD d<50)(h4:okD d e)(q:Q (.bl (ltD d e)) H):zaF K x y H Q:=⟨d,e,h1,h2,h3,h4,q⟩
noncomputable def ltI:List Int->List Int->Bool
 | a::l,b::m=>if a=b then ltI l m else decide (a<b)
 | [],_::_=>true
 | _,[]=>false
theorem uU:∀(l m:List Int),ko (l.map D.int) (m.map D.int)
 | [],_=>by simp only[ba,ko]
 | _::_,[]=>by simp only[ba,ax,ko]
 | a::l,b::m=>by simp only[ax,ko,okD,true_and];exact uU l m
theorem ka:∀(l m:List Int),qj (l.map D.int) (m.map D.int)=ltI l m
 | [],[]=>by simp only[ba,qj,ltI]
 | [],_::_=>by simp only[ba,ax,qj,ltI]
 | _::_,[]=>by simp only[ba,ax,qj,ltI]
 | a::l,b::m=>by
  simp only[ax,qj,ltI,eqD,ltD,ka l m,beq_iff_eq]
end L3
namespace L3
mutual
def uj:D->Prop
 | .lst _=>False
 | .tup l=>yd l
 | _=>True
def yd:List D->Prop
 | []=>True
 | d::l=>uj d/\yd l
end
theorem Vy{K:rC}{H:Hp}{a p:Addr}{xs ys zs:List V}(hp:H p=some (.lst ys))(h:SqT K H a xs):SqT K (upd H p (.lst zs)) a xs:=by
 rcases h with (h | ⟨o,h⟩) | h
 ·refine .inl (.inl ?_)
  rw[zh (fun e=>by rw[e,hp] at h;cases h)]
  exact h
 ·refine .inl (.inr ⟨o,?_⟩)
  rw[zh (fun e=>by rw[e,hp] at h;cases h)]
  exact h
 ·exact .inr h
mutual
theorem Is.updL{K:rC}{H:Hp}{p:Addr}{ys zs:List V}(hp:H p=some (.lst ys)):∀(d:D) (v:V),uj d->Is K H d v->Is K (upd H p (.lst zs)) d v
 | .non,v,_,h=>by simp only[Is] at h ⊢;exact h
 | .bl b,v,_,h=>by simp only[Is] at h ⊢;exact h
 | .int b,v,_,h=>by simp only[Is] at h ⊢;exact h
 | .str b,v,_,h=>by simp only[Is] at h ⊢;exact h
 | .lst l,v,f,h=>by simp only[uj] at f
 | .tup l,v,f,h=>by
  simp only[Is] at h ⊢
  simp only[uj] at f
  obtain⟨a,xs,e1,e2,e3⟩:=h
  exact⟨a,xs,e1,Vy hp e2,Iss.updL hp l xs f e3⟩
theorem Iss.updL{K:rC}{H:Hp}{p:Addr}{ys zs:List V}(hp:H p=some (.lst ys)):∀(l:List D) (vs:List V),yd l->Iss K H l vs->Iss K (upd H p (.lst zs)) l vs
 | [],vs,_,h=>by simp only[Iss] at h ⊢;exact h
 | d::l,vs,f,h=>by
  simp only[Iss] at h ⊢
  simp only[yd] at f
  obtain⟨v,r,e1,e2,e3⟩:=h
  exact⟨v,r,e1,Is.updL hp d v f.1 e2,Iss.updL hp l r f.2 e3⟩
end
theorem ke:∀{l:List D},(∀ d ∈ l,uj d)->yd l
 | [],_=>by simp only[yd]
 | d::l,h=>by simp only[yd];exact⟨h d (by simp),ke fun e he=>h e (by simp [he])⟩
theorem X8{n:Nat}:∀{l:List D},(∀ d ∈ l,dpD d<=n)->va l<=n
 | [],_=>by simp only[va];lia
 | d::l,h=>by
  have h1:=h d (by simp)
  have h2:=X8 (n:=n) (l:=l) fun e he=>h e (by simp [he])
  simp only[va]
  lia
def LsA(K:rC)(H:Hp)(a:Addr)(ds:List D):Prop:=∃ xs,H a=some (.lst xs)/\Iss K H ds xs
theorem LsA.same{K:rC}{H H':Hp}{a:Addr}{ds:List D}(h:LsA K H a ds)(e:Same H H'):LsA K H' a ds:=let ⟨xs,h1,h2⟩:=h; ⟨xs,e _ _ h1,Iss.same e _ _ h2⟩
theorem LsA.is{K:rC}{H:Hp}{a:Addr}{ds:List D}(h:LsA K H a ds):Is K H (.lst ds) (.ref a):=by
 obtain⟨xs,h1,h2⟩:=h
 simp only[Is]
 exact⟨a,xs,rfl,SqL.of h1,h2⟩
theorem LsA.nil{K:rC}{H:Hp}{a:Addr}:LsA K (upd H a (.lst [])) a []:=⟨[],zb,by simp only[Iss]⟩
theorem LsA.snoc{K:rC}{H:Hp}{a:Addr}{ds:List D}{d:D}{xs:List V}{v:V}(h1:H a=some (.lst xs))(h2:Iss K H ds xs)(f:yd ds)(fd:uj d)(hv:Is K H d v):LsA K (upd H a (.lst (xs ++ [v]))) a (ds ++ [d]) :=
 ⟨_,zb,Iss.append (Iss.updL h1 _ _ f h2) (by simp only[Iss];exact⟨v,[],rfl,Is.updL h1 _ _ fd hv,rfl⟩)⟩
theorem Is.tup{K:rC}{H:Hp}{p:Addr}{vs:List V}{ds:List D}(hp:H p=none)(h:Iss K H ds vs):Is K (upd H p (.tup vs)) (.tup ds) (.ref p):=by
 simp only[Is]
 exact⟨p,vs,rfl,SqT.of zb,Iss.same (zf hp) _ _ h⟩
noncomputable abbrev dS(l:List Nat):D:=.str (tx l)
noncomputable abbrev zB:=List Nat × List Nat
noncomputable def dR(r:zB):D:=.tup [dS r.1,dS r.2]
theorem K1{K:rC}{H:Hp}{r:zB}{v:V}(h:Is K H (dR r) v):∃ p,v=.ref p/\SqT K H p [.str (tx r.1),.str (tx r.2)]:=by
 simp only[dR,Is,Iss] at h
 obtain⟨a,xs,e,hs,v1,r1,rfl,rfl,v2,r2,rfl,rfl,rfl⟩:=h
 exact⟨a,e,hs⟩
noncomputable abbrev N3:=Nat × Nat × Nat
noncomputable def d3(t:N3):D:=.tup [.int (t.1:Nat),.int (t.2.1:Nat),.int (t.2.2:Nat)]
theorem Iss.get{K:rC}{H:Hp}{l:List D}{vs:List V}{j:Nat}{v:V}(h:Iss K H l vs)(q:vs[j]? = some v):∃ d,l[j]? = some d/\Is K H d v:=by
 have hj:=(rD.mp q).1
 have hl:=h.len
 have g1:l[j]? = some l[j]:=ag (by lia)
 obtain⟨x,hx,ix⟩:=h.at g1
 rw[q] at hx
 cases hx
 exact⟨_,g1,ix⟩
theorem Iss.getR{K:rC}{H:Hp}{rs:List zB}{vs:List V}{j:Nat}{v:V}(h:Iss K H (rs.map dR) vs)(q:vs[j]? = some v):∃ r p,rs[j]? = some r/\v=.ref p/\SqT K H p [.str (tx r.1),.str (tx r.2)]:=by
 obtain⟨d,e,i⟩:=h.get q
 rw[au] at e
 obtain⟨r,hr,rfl⟩:=rK.mp e
 obtain⟨p,e1,e2⟩:=K1 i
 exact⟨r,p,hr,e1,e2⟩
theorem Js{α:Type}(l:List α){a b:Int}(h0:0<=a)(h1:a<=b):cut l (some a) (some b)=(l.drop a.toNat).take (b - a).toNat:=by
 by_cases h2:b<=l.length
 ·exact WT l h0 h1 h2
 ·obtain⟨m,rfl⟩:=bv h0
  obtain⟨n,rfl⟩:=bv (by lia:0<=b)
  unfold cut
  rw[HT.sIx_nat,HT.sIx_nat,dB (by lia:l.length<=n)]
  have e:(((n:Nat):Int) - ((m:Nat):Int)).toNat=n - m:=by lia
  have e2:((m:Nat):Int).toNat=m:=rfl
  rw[e,e2,bS (l:=l.drop m) (by rw[bJ];lia)]
  by_cases hm:m<=l.length
  ·rw[dc hm,bS (by rw[bJ];lia)]
  ·rw[dB (by lia),bB (ar _),bB (by lia),List.take_nil]
theorem LsA.updO{K:rC}{H:Hp}{a p:Addr}{ds:List D}{ys zs:List V}(h:LsA K H a ds)(f:yd ds)(hp:H p=some (.lst ys))(hne:a≠p):LsA K (upd H p (.lst zs)) a ds:=by
 obtain⟨xs,h1,h2⟩:=h
 refine⟨xs,?_,Iss.updL hp _ _ f h2⟩
 rw[zh hne]
 exact h1
theorem XZ(ns:List Int){a b:Int}(h0:0<=a)(h1:a<=b):YB (ns.map V.int) (some a) (some b)=((ns.drop a.toNat).take (b - a).toNat).map V.int:=by
 have e:YB (ns.map V.int) (some a) (some b)=cut (ns.map V.int) (some a) (some b):=rfl
 rw[e,Js _ h0 h1,eZ,e6]
end L3
namespace L3
open Classical in
noncomputable def eqAtV (K:rC) (H:Hp) (d:D) (u:Value):Bool:=decide (∃ x e,zaG u=some x/\Is K H e x/\eqD e d=true)
section
variable{X:Cx}{pins:List (Addr × Obj)}{σ:L2.St}{H:Hp}{s:Shared}
open Classical in
theorem ut(I:Inv X pins σ H s){d e:D}{x:V}{u:Value}(r:RelV x u)(h:Is X.K H e x):eqAtV X.K H d u=eqD e d:=by
 unfold eqAtV
 cases hb:eqD e d with
 | true=>exact decide_eq_true ⟨x,e,r.abs,h,hb⟩
 | false =>
  refine decide_eq_false ?_
  rintro⟨y,e',hy,hi,hq⟩
  rw[r.abs] at hy
  cases hy
  rw[ZG I e' e x hi h,hb] at hq
  cases hq
theorem j8(I:Inv X pins σ H s){d:D}:∀{l:List D} {xs:List V} {us:List Value},Iss X.K H l xs->Vals xs us->us.any (eqAtV X.K H d)=l.any fun e=>eqD e d
 | [],xs,us,h,r=>by
  simp only[Iss] at h
  subst h
  cases r
  rfl
 | e::l,xs,us,h,r=>by
  simp only[Iss] at h
  obtain⟨v,vs,rfl,h1,h2⟩:=h
  cases r with
  | cons r1 r2=>rw[List.any_cons,List.any_cons,ut I r1 h1,j8 I h2 r2]
theorem qR:∀{xs:List V} {us:List Value} {l:List D} {u:Value},Vals xs us->Iss X.K H l xs->u ∈ us->∃ x e,RelV x u/\Is X.K H e x/\e ∈ l
 | _,_,_,_,.nil,_,h=>nomatch h
 | _,_,[],u,.cons r t,hi,h=>by
  simp only[Iss] at hi
  cases hi
 | _,_,e::l,u,.cons r t,hi,h=>by
  simp only[Iss] at hi
  obtain⟨v,vs,q,h1,h2⟩:=hi
  cases q
  rcases rH.mp h with rfl | h
  ·exact⟨_,e,r,h1,aD ..⟩
  ·obtain⟨x,e',a,b,c⟩:=qR t h2 h
   exact⟨x,e',a,b,aw _ c⟩
theorem V4{l:List D}{e:D}(h:e ∈ l):dpD e<=va l:=by
 obtain⟨j,hj⟩:=List.getElem?_of_mem h
 exact Vz hj
def zbk(K:rC)(neg:Bool):R2:=fun x y H Q=>∃ p l d,y=.ref p/\Is K H (.lst l) y/\Is K H d x/\va l<50/\Q (.bl (if neg then !(l.any fun e=>eqD e d) else l.any fun e=>eqD e d)) H
theorem QR(hu:X.A.units+100<cLine):OpR X (compareOp .In) (zbk X.K false):=by
 intro pins s σ H x y v u Q I rx ry h
 obtain⟨p,l,d,rfl,hl,hd,hp,q⟩:=h
 cases ry
 simp only[Is] at hl
 obtain⟨_,xs,e,hq,hi⟩:=hl
 cases e
 obtain⟨its,r,pl,hz⟩:=I.list hq
 have huA:X.A.in1.units+50<cLine:=by show X.A.units+1+50<cLine;lia
 refine SeqAt.in_listAt (eqAtV X.K H d) pl.isList (fun w hw=>?_) ⟨.bl _,H,I,rfl,?_⟩
 ·obtain⟨z,e,rz,iz,me⟩:=qR r hi (by simpa using hw)
  rw[ut I rz iz]
  exact vJ I 50 X.A.in1 e d z x w v huA (bX (V4 me) hp) iz hd rz rx
 ·rw[show its.toArray.any (eqAtV X.K H d)=its.any (eqAtV X.K H d) by simp,j8 I hi r]
  exact q
end
end L3
namespace L3
structure DM(P:Program)(w:World)(K:rC)(mg:Str->Option Value)(base:Heap)(CX:CXT)(k:Nat)(C:Addr)(m:Str)(ps:List Str)(sp:Sp):Prop where
 ex:∃ f fd,QI K C m f/\FnOk P w K mg base CX k f fd ps sp/\Binds K fd ps []
structure DMk(P:Program)(w:World)(K:rC)(mg:Str->Option Value)(base:Heap)(CX:CXT)(k:Nat)(C:Addr)(ps:List Str)(sp:Sp):Prop where
 ex:∃ f fd,Mk K C f/\FnOk P w K mg base CX k f fd ps sp/\Binds K fd ps []
section
variable{X:Cx}{k j:Nat}{C:Addr}{m:Str}{ps:List Str}{sp:Sp}{o e:Expr}{es:List Expr}{ta:TE}{t:TA}{apos pos p:Pos}{x:Str}{E:XK}
theorem me0(D:DM X.prog X.w X.K X.mg X.base CX0 k C m ps sp)(c:Cls X.K C)(hr:Room j X.A)(he:PE X o ta){pl:Sem Bool}(ht:eval (.Call (.Attribute o m apos) [] [] pos) X.env=(do
      let ov <- eval o X.env
      standAt apos.atName
      let (f,first) <- holding [ov] (getMethod ov m pl)
      callWith pos f first (backTo pos (rA [] X.env)) (backToKw pos (keywordEach [] X.env))):=by rfl) (hj:k<=j:=by decide):PE X (.Call (.Attribute o m apos) [] [] pos) (qx C m sp [] E0 ta wQ):=by
  obtain⟨f,fd,hm,F,hb⟩:=D.ex
  exact Vv he c hm F (hr.mono hj) hb .nil k7 ht
theorem me1(D:DM X.prog X.w X.K X.mg X.base CX0 k C m ps sp)(c:Cls X.K C)(hr:Room j X.A)(he:PE X o ta)(ha:PA X (e::es) t){pl:Sem Bool}
    (hst:rA (e::es) X.env=(false,eval e X.env)::rA es X.env:=by rfl) (hpl:(backTo pos (rA es X.env)).any (·.1)=false:=by rfl)
    (ht:eval (.Call (.Attribute o m apos) (e::es) [] pos) X.env=(do
      let ov <- eval o X.env
      standAt apos.atName
      let (f,first) <- holding [ov] (getMethod ov m pl)
      callWith pos f first (backTo pos (rA (e::es) X.env)) (backToKw pos (keywordEach [] X.env))):=by rfl) (hj:k<=j:=by decide):PE X (.Call (.Attribute o m apos) (e::es) [] pos) (qx C m sp [] E0 ta t):=by
  obtain⟨f,fd,hm,F,hb⟩:=D.ex
  exact YX he c hm F (hr.mono hj) hb .nil k7 ha hst hpl ht
theorem zaV(hx:XE X E)(D:DM X.prog X.w X.K X.mg X.base (CXx X.prog X.w) k C m ps sp)(c:Cls X.K C)(hr:Room j X.A)(he:PE X o ta)(ha:PA X (e::es) t){pl:Sem Bool}
    (hst:rA (e::es) X.env=(false,eval e X.env)::rA es X.env:=by rfl) (hpl:(backTo pos (rA es X.env)).any (·.1)=false:=by rfl)
    (ht:eval (.Call (.Attribute o m apos) (e::es) [] pos) X.env=(do
      let ov <- eval o X.env
      standAt apos.atName
      let (f,first) <- holding [ov] (getMethod ov m pl)
      callWith pos f first (backTo pos (rA (e::es) X.env)) (backToKw pos (keywordEach [] X.env))):=by rfl) (hj:k<=j:=by decide):PE X (.Call (.Attribute o m apos) (e::es) [] pos) (qx C m sp [] E ta t):=by
  obtain⟨f,fd,hm,F,hb⟩:=D.ex
  exact YX he c hm F (hr.mono hj) hb .nil (jt hx) ha hst hpl ht
theorem mkC(D:DMk X.prog X.w X.K X.mg X.base CX0 k C ps sp)(hr:Room j X.A)(hg:Gl X x)(hm:X.mg x=some (.ref C))(ha:PA X (e::es) t)(hdb:(x == ("__debug__" : Str))=false:=by decide)(he:rA (e::es) X.env=(false,eval e X.env)::rA es X.env:=by rfl)
  (hpl:(backTo pos (rA es X.env)).any (·.1)=false:=by rfl) (hj:k+1<=j:=by decide):PE X (.Call (.Name x p) (e::es) [] pos) (VQ C sp [] E0 t):=by
 obtain⟨f,fd,M,F,hb⟩:=D.ex
 exact Y7 M F (hr.mono hj) hg hm hb .nil k7 ha hdb he hpl
end
end L3
namespace L3
section
variable{X:Cx}
end
section
variable{X:Cx}{k j:Nat}{C:Addr}{m:Str}{ps:List Str}{sp:Sp}{o e:Expr}{es:List Expr}{ta:TE}{t:TA}{apos pos p:Pos}
end
end L3
namespace L3
def zI(Fam:Addr->Prop)(m:Str)(sp:Addr->Sp)(dvs:List V)(E:XK)(ta:TE)(t:TA):TE:=fun σ H Q=>ta σ H fun x H1=>∃ C a dx fs,Fam C/\x=.ref a/\H1 a=some (.ins C dx fs)/\fs.lookup m=none /\
 t σ H1 fun vs H2=>sp C (x::(vs ++ dvs)) H2 Q E
structure DMF(P:Program)(w:World)(K:rC)(mg:Str->Option Value)(base:Heap)(CX:CXT)(k:Nat)(Fam:Addr->Prop)(m:Str)(ps:List Str)(sp:Addr->Sp):Prop where
 ex:∀ C,Fam C->Cls K C/\DM P w K mg base CX k C m ps (sp C)
section
variable{X:Cx}{k j:Nat}{Fam:Addr->Prop}{m:Str}{ps:List Str}{sp:Addr->Sp}{o e:Expr}{es:List Expr}{ta:TE}{t:TA}{apos pos p:Pos}{x:Str}{E:XK}
theorem zbJ(D:DMF X.prog X.w X.K X.mg X.base CX0 k Fam m ps sp)(hr:Room j X.A)(he:PE X o ta){pl:Sem Bool}(ht:eval (.Call (.Attribute o m apos) [] [] pos) X.env=(do
      let ov <- eval o X.env
      standAt apos.atName
      let (f,first) <- holding [ov] (getMethod ov m pl)
      callWith pos f first (backTo pos (rA [] X.env)) (backToKw pos (keywordEach [] X.env))):=by rfl) (hj:k<=j:=by decide):PE X (.Call (.Attribute o m apos) [] [] pos) (zI Fam m sp [] E0 ta wQ):=by
  intro pins s σ H Q I h
  refine bU (pl:=pl) (thn (he pins s σ H _ I h) fun u s1 ⟨x,H1,I1,rx,C,a,dx,fs,fam,ex,ea,l,q⟩=>?_) ht
  subst ex
  obtain rfl:u=Value.ref a:=rx
  obtain⟨c,⟨f,fd,hm,F,hb⟩⟩:=D.ex C fam
  refine y0 I1 ea c hm l ?_
  exact e9 (first:=[.ref a]) I1.kIn hm.kp (qM (us:=[.ref a]) (vs:=[.ref a]) F (hr.mono hj) hb .nil k7 I1 (.cons rfl .nil) q)
theorem zah(D:DMF X.prog X.w X.K X.mg X.base CX0 k Fam m ps sp)(hr:Room j X.A)(he:PE X o ta)(ha:PA X (e::es) t){pl:Sem Bool}
    (hst:rA (e::es) X.env=(false,eval e X.env)::rA es X.env:=by rfl) (hpl:(backTo pos (rA es X.env)).any (·.1)=false:=by rfl)
    (ht:eval (.Call (.Attribute o m apos) (e::es) [] pos) X.env=(do
      let ov <- eval o X.env
      standAt apos.atName
      let (f,first) <- holding [ov] (getMethod ov m pl)
      callWith pos f first (backTo pos (rA (e::es) X.env)) (backToKw pos (keywordEach [] X.env))):=by rfl) (hj:k<=j:=by decide):PE X (.Call (.Attribute o m apos) (e::es) [] pos) (zI Fam m sp [] E0 ta t):=by
  intro pins s σ H Q I h
  refine bU (pl:=pl) (thn (he pins s σ H _ I h) fun u s1 ⟨x,H1,I1,rx,C,a,dx,fs,fam,ex,ea,l,q⟩=>?_) ht
  subst ex
  obtain rfl:u=Value.ref a:=rx
  obtain⟨c,⟨f,fd,hm,F,hb⟩⟩:=D.ex C fam
  refine y0 I1 ea c hm l ?_
  refine bI (first:=[.ref a]) (h₀:=X.base) I.ok.mod.kin hm.kp (thn (ha pos pins s1 σ H1 _ I1 q) fun us s2 ⟨vs,H2,I2,r,q2⟩=>⟨I2.kIn,?_⟩) hst hpl
  exact qM (us:=.ref a::us) (vs:=.ref a::vs) F (hr.mono hj) hb .nil k7 I2 (.cons rfl r) q2
end
section
variable{X:Cx}
theorem Z5:∀{ns:List Int} {its:List Value},Vals (ns.map V.int) its->IntsAre its ns
 | [],_,.nil=>.nil
 | n::ns,_,.cons r t=>by
  obtain⟨tk,rfl⟩:=r
  exact .cons n tk (Z5 t)
def vI(K:rC):List V->Hp->VK->Prop:=fun xs H Q=>∃(p:Addr) (ns:List Int),xs=[.ref p]/\SqL K H p (ns.map V.int)/\Q (.int ns.sum) H
theorem KC(hc:X.calm=true):ui X (.builtin "sum") (vI X.K):=by
 intro pins s σ H xs us Q I r h
 obtain⟨p,ns,rfl,hS,q⟩:=h
 obtain⟨u,rfl,ru⟩:=wM r
 cases ru
 obtain⟨its,rv,pl,hz⟩:=I.list hS
 have hh:X.A.handled=none:=I.ok.hd hc
 have ia:=Z5 rv
 obtain⟨ps,e⟩:=ia.allInts.items
 have en:ps.toList.map (·.1)=ns:=by
  rw[<- nums_intItems,<- e]
  exact ia.numsOf
 refine sum_intListG hh (by rw[<- e];exact pl.isList) fun h' tk t' hk=>?_
 rw[preSum_eq,bS (by simp),en]
 exact⟨.int ns.sum,H,I.kept hk,⟨_,rfl⟩,q⟩
end
end L3
namespace L3
theorem Yl(l:List Nat):((Builtin.Str.strSliceIndices none none (-1) (tx l).length).filterMap ((tx l).cps[·]?))=l.reverse:=by
 rw[yu,picked_rev]
 have e:(tx l).cps=l.toArray:=rfl
 rw[e]
 apply List.ext_getElem?
 intro i
 have h:((az l.length).map fun k=>l.length - 1 - k).filterMap (l.toArray[·]?)=(az l.length).map fun k=>l.getD (l.length - 1 - k) 0:=by
  rw[filterMap_get,dH]
  ·refine bR fun k _=>?_
   show l.toArray.getD (l.length - 1 - k) 0=_
   simp [eW,List.getD]
   split <;> simp_all
  ·intro i hi
   obtain⟨k,hk,rfl⟩:=rG.mp hi
   have:=rJ.mp hk
   show _<l.toArray.size
   rw[ah]
   lia
 rw[h]
 by_cases hi:i<l.length
 ·rw[List.getElem?_reverse hi,au,cL hi]
  show some (l.getD (l.length - 1 - i) 0)=_
  rw[aj,ag (by lia)]
  rfl
 ·rw[cD (by simp;lia),cD (by simp;lia)]
def vB(te ts:TE):TE:=fun σ H Q=>te σ H fun x H1=>ts σ H1 fun y H2=>y=.int (-1)/\∃ l:List Nat,x=.str (tx l)/\l.length<=rB/\Q (.str (tx l.reverse)) H2
section
variable{X:Cx}{e st:Expr}{te ts:TE}{pos p2:Pos}
theorem Qg(he:PE X e te)(hs:PE X st ts):PE X (.Subscript e (.Slice none none (some st) p2) pos) (vB te ts):=by
 intro pins s σ H Q I h
 refine Subscript_ (thn (he pins s σ H _ I h) fun v s1 ⟨x,H1,I1,r1,q1⟩=>?_)
 refine wpAny_Slice ?_
 rw[evalPart_none]
 refine rp (rp ?_)
 rw[evalPart_some]
 refine thn (hs pins s1 σ H1 _ I1 q1) fun u s2 ⟨y,H2,I2,r2,ey,l,ex,hl,q2⟩=>?_
 subst ey ex
 obtain⟨t,rfl⟩:=r1
 obtain⟨tk,rfl⟩:=r2
 have I4:Inv X pins σ H2 { s2 with heap:=s2.heap.push { cls:=.type "slice",data:=.fields #[.none,.none,.int (-1) tk] } }:=I2.kept (t':=s2.toks) fun b ob q=>af _ q
 show wpAny (model X.prog X.w) X.A (subscriptTail e (.Slice none none (some st) p2) (.str (tx l) t) (.ref s2.heap.objs.size)) (EP X pins σ Q) X.xe { s2 with heap:=s2.heap.push { cls:=.type "slice",data:=.fields #[.none,.none,.int (-1) tk] } }
 refine tail_any (ops:=[.ref s2.heap.objs.size,.str (tx l) t]) (typeIs_str _ (tx l) t) slot_str_getitem.lookup ?_ (by with_unfolding_all rfl)
 refine wpAny_getItem_str_slice (l:=none) (u:=none) (st:=some (-1,tk)) (Heap.IsSliceOf.new ..) rfl ?_
 unfold sliceMade slicePicked
 have hc':¬ (((some ((-1:Int),tk)).map (·.1)).getD 1 == 1 && (Builtin.Str.strSliceIndices ((none:Option (Int × Tok)).map (·.1)) ((none:Option (Int × Tok)).map (·.1)) (((some ((-1:Int),tk)).map (·.1)).getD 1) (tx l).length).length == (tx l).length)=true:=by
  have:(((some ((-1:Int),tk)).map (·.1)).getD 1 == 1)=false:=rfl
  rw[this]
  simp
 rw[if_neg hc']
 have e:Str.mk ((Builtin.Str.strSliceIndices none none (-1) (tx l).length).filterMap ((tx l).cps[·]?)).toArray=tx l.reverse:=by
  rw[Yl]
 show (Str.mk ((Builtin.Str.strSliceIndices none none (-1) (tx l).length).filterMap ((tx l).cps[·]?)).toArray).length<=rB/\_
 rw[e]
 refine⟨by rw[yu,fh];exact hl,?_⟩
 exact⟨.str (tx l.reverse),H2,I4.tok _,⟨_,by
  show Value.str (Str.mk ((Builtin.Str.strSliceIndices none none (-1) (tx l).length).filterMap ((tx l).cps[·]?)).toArray) _=_
  rw[e]⟩,q2⟩
end
end L3
namespace L3
structure zbv(K:rC)(C:Addr)(m:Str)(f:Addr):Prop where
 sg:cr K (.ref C) "__getattribute__" = some (some (.builtin "type.__getattribute__"))
 rd:fH K C (.type "type")=true
 fc:fJ K (.ref C) (.type "type") m=some (.val (.ref f))
 kp:aG K (.ref f)=true
structure DC(P:Program)(w:World)(K:rC)(mg:Str->Option Value)(base:Heap)(CX:CXT)(k:Nat)(C:Addr)(m:Str)(ps:List Str)(sp:Sp):Prop where
 ex:∃ f fd,zbv K C m f/\FnOk P w K mg base CX k f fd ps sp/\Binds K fd ps []
section
variable{X:Cx}{k j:Nat}{C:Addr}{m x:Str}{ps:List Str}{sp:Sp}{e:Expr}{es:List Expr}{t:TA}{apos pos p:Pos}
theorem UB(D:DC X.prog X.w X.K X.mg X.base CX0 k C m ps sp)(hr:Room j X.A)(hg:Gl X x)(hm:X.mg x=some (.ref C))(ha:PA X (e::es) t){pl:Sem Bool}(hdb:(x == ("__debug__" : Str))=false:=by decide)
    (hst:rA (e::es) X.env=(false,eval e X.env)::rA es X.env:=by rfl) (hpl:(backTo pos (rA es X.env)).any (·.1)=false:=by rfl)
    (ht:eval (.Call (.Attribute (.Name x p) m apos) (e::es) [] pos) X.env=(do
      let ov <- eval (.Name x p) X.env
      standAt apos.atName
      let (f,first) <- holding [ov] (getMethod ov m pl)
      callWith pos f first (backTo pos (rA (e::es) X.env)) (backToKw pos (keywordEach [] X.env))):=by rfl) (hj:k<=j:=by decide):PE X (.Call (.Attribute (.Name x p) m apos) (e::es) [] pos) (je sp [] E0 t):=by
  obtain⟨f,fd,cm,F,hb⟩:=D.ex
  have hn:PE X (.Name x p) (tC (.ref C)):=vX hg hm rfl hdb
  intro pins s σ H Q I h
  refine bU (pl:=pl) (thn (hn pins s σ H (fun y H1=>y=.ref C/\H1=H) I ⟨rfl,rfl⟩) fun u s1 ⟨y,H1,I1,ry,ey,eH⟩=>?_) ht
  subst ey eH
  obtain rfl:u=Value.ref C:=ry
  refine PySem.W.method_cls I1.kIn cm.sg (PySem.W.cls_value I1.kIn cm.rd cm.fc rfl ?_)
  refine bI (first:=[]) (h₀:=X.base) I.ok.mod.kin cm.kp (thn (ha pos pins _ σ H1 _ (I1.tok _) h) fun us s2 ⟨vs,H2,I2,r,q2⟩=>⟨I2.kIn,?_⟩) hst hpl
  exact qM (us:=us) (vs:=vs) F (hr.mono hj) hb .nil k7 I2 r q2
def zH:V->List V->Hp->VK->Prop:=fun x xs H Q=>∃(z y:Str) (i:Nat),x=.str z/\xs=[.str y]/\PySem.Txt.find z y=(i:Int)/\Q (.int (i:Nat)) H
theorem Xu:MtR X "str.index" zH:=by
 intro pins s σ H x xs v us Q I rx rv h
 obtain⟨z,y,i,rfl,rfl,hf,q⟩:=h
 obtain⟨t,rfl⟩:=rx
 obtain⟨u,rfl,t',rfl⟩:=wM rv
 unfold PySem.Txt.find at hf
 cases ho:Builtin.Str.occurrences z y 0 z.length 1 with
 | nil=>rw[ho] at hf;dsimp only at hf;lia
 | cons a r =>
  rw[ho] at hf
  have:a=i:=by dsimp only at hf;lia
  subst this
  exact PySem.SC.index ho ⟨.int _,H,I.tok _,⟨_,rfl⟩,q⟩
end
end L3
namespace L3
section
variable{prog:Program}{w:World}{A:Around}{E:Value->Shared->Prop}{s:Shared}
theorem xW{h h':Heap}{a:Addr}{ty:String}{x:Str}{t:Tok}{i:Nat}(y:h.IsStrIter a ty x t i)(e:∀ o,h.get? a=some o->h'.get? a=some o):h'.IsStrIter a ty x t i:=let ⟨o,ho,r⟩:=y; ⟨o,e o ho,r⟩
theorem vH{h h':Heap}{a t:Addr}{i:Nat}(y:h.IsTupleIter a t i)(e:∀ o,h.get? a=some o->h'.get? a=some o):h'.IsTupleIter a t i:=let ⟨o,ho,r⟩:=y; ⟨o,e o ho,r⟩
theorem V6{h h':Heap}{a:Addr}{xs:Array Value}(y:h.IsTuple a xs)(e:∀ o,h.get? a=some o->h'.get? a=some o):h'.IsTuple a xs:=let ⟨o,ho,r⟩:=y; ⟨o,e o ho,r⟩
theorem sit(x:Str):strIterType x="str_ascii_iterator"\/strIterType x="str_iterator":=by
 unfold strIterType
 split
 ·exact .inl rfl
 ·exact .inr rfl
theorem uG{it:Addr}{x:Str}{t:Tok}{i c:Nat}{Q:Value->Shared->Prop}(hit:s.heap.IsStrIter it (strIterType x) x t i)(hx:x.cps[i]? = some c)
  (hQ:∀ h',h'.IsStrIter it (strIterType x) x t (i+1)->Heap.SameBut it s.heap h'->Q (.str ⟨#[c]⟩ s.toks) { s with heap:=h',toks:=s.toks+1 }) :
  wpAny (model prog w) A (Builtin.SmallTypes.nextOf (.ref it)) Q E s:=by
 rcases sit x with e | e
 ·rw[e] at hit hQ
  exact wpAny_nextOf_ascii_item hit hx hQ
 ·rw[e] at hit hQ
  exact wpAny_nextOf_wide_item hit hx hQ
theorem qw{it:Addr}{x:Str}{t:Tok}{i:Nat}{Q:Value->Shared->Prop}(hh:A.handled=none)(hit:s.heap.IsStrIter it (strIterType x) x t i)(hx:x.cps[i]? = none)
  (hE:∀ h' e,Heap.ExtBut it s.heap h'->(∃ o,h'.get? e=some o/\o.cls=.type "StopIteration")->E (.ref e) { s with heap:=h' }) :
  wpAny (model prog w) A (Builtin.SmallTypes.nextOf (.ref it)) Q E s:=by
 rcases sit x with e | e
 ·rw[e] at hit
  exact wpAny_nextOf_ascii_end hh hit hx hE
 ·rw[e] at hit
  exact wpAny_nextOf_wide_end hh hit hx hE
theorem uB{it t:Addr}{i:Nat}{items:Array Value}{x:Value}{Q:Value->Shared->Prop}(hit:s.heap.IsTupleIter it t i)(ht:s.heap.IsTuple t items)(hx:items[i]? = some x)
  (hQ:∀ h',h'.IsTupleIter it t (i+1)->Heap.SameBut it s.heap h'->Q x { s with heap:=h' }) :
  wpAny (model prog w) A (Builtin.SmallTypes.nextOf (.ref it)) Q E s:=by
 obtain⟨o,ho,hc,hd⟩:=id hit
 obtain⟨ol,hol,_,nl,hdl⟩:=ht
 unfold Builtin.SmallTypes.nextOf
 refine ro (wpAny_callSpecial?_slot (name:=bA "__next__") hit.typeIs F.slot_tuple_iterator_next
  (wpAny_call_entry F.slot_tuple_iterator_next hit.typeIs F.entry_tuple_iterator_next ?_ (F.args_tuple_iterator_next_1 _)))
 show wpAny _ _ (field (.ref it) 0 >>= _) _ _ s
 refine ro (wpAny_field ho hd (x:=.ref t) rfl ?_)
 show wpAny _ _ (if (Value.ref t == Value.none)=true then _ else _) _ _ s
 rw[if_neg (show ¬ ((Value.ref t == Value.none)=true) from av)]
 show wpAny _ _ (field (.ref it) 1 >>= _) _ _ s
 refine ro (wpAny_field ho hd (x:=.int i 0) rfl ?_)
 show wpAny _ _ (seqItems? (.ref t) >>= _) _ _ s
 refine ro (wpAny_seqItems hol hdl ?_)
 simp only[aL,hx]
 refine ro (wpAny_setField ho hd (by simp) (rp ⟨x,rfl,rp (hQ _ ?_ (Heap.SameBut.update ..))⟩))
 exact⟨_,cB _ ho (Obj.isFreed_of_fields (Obj.data_mapFields hd _)),(Obj.cls_mapFields ..).trans hc,by
  rw[Obj.data_mapFields hd];simp [rawInt]⟩
structure Jh(z TI TO i1 i2 l2:Addr):Prop extends V2 z TI TO i1 i2 where
 l2z:l2≠z
 l2TO:l2≠TO
 l2i1:l2≠i1
 l2i2:l2≠i2
theorem Vq{z TI TO i1 i2 l2:Addr}{k c:Nat}{X:Str}{tx:Tok}{ys:Array Value}{y a b:Value}{Q:Value->Shared->Prop}(D:Jh z TI TO i1 i2 l2)
  (hz:IsZip s.heap z TI TO .none) (hTI:IsPair s.heap TI (.ref i1) (.ref i2)) (hTO:IsPair s.heap TO a b)
  (h1:s.heap.IsStrIter i1 (strIterType X) X tx k) (h2:s.heap.IsTupleIter i2 l2 k) (hl2:s.heap.IsTuple l2 ys) (hx:X.cps[k]? = some c) (hy:ys[k]? = some y)
  (hQ:∀ h' t',IsZip h' z TI TO (rawInt s.heap.objs.size)->IsPair h' TO (.str ⟨#[c]⟩ t') y->h'.IsStrIter i1 (strIterType X) X tx (k+1)->h'.IsTupleIter i2 l2 (k+1)->IsPair h' s.heap.objs.size (.str ⟨#[c]⟩ t') y->h'.objs.size=s.heap.objs.size+1 ->
   (∀ c o,c≠z->c≠TO->c≠i1->c≠i2->s.heap.get? c=some o->h'.get? c=some o)->Q (.ref s.heap.objs.size) { s with heap:=h',toks:=s.toks+1 }) :
  wpAny (model prog w) A (Builtin.«zip.__next__» ⟨[.ref z],[]⟩) (fun fin s'=>∃ v,fin=.done (.ret v)/\Q v s') E s:=by
 show wpAny _ _ (field (.ref z) 2 >>= _) _ _ _
 refine ro (wpAny_field hz rfl (x:=.bool false) rfl ?_)
 show wpAny _ _ (field (.ref z) 3 >>= _) _ _ _
 refine ro (wpAny_field hz rfl (x:=.ref TI) rfl ?_)
 refine ro (wpAny_seqItems hTI rfl ?_)
 show wpAny _ _ (Builtin.SmallTypes.ownedTupleIsFree (.ref z) >>= _) _ _ _
 refine ro ?_
 unfold Builtin.SmallTypes.ownedTupleIsFree
 refine ro (wpAny_field hz rfl (x:=.none) rfl (rp ?_))
 simp only[if_true]
 refine ro (wpAny_rule ?_)
 refine ro (wpAny_field hz rfl (x:=.ref TO) rfl ?_)
 refine ro (wpAny_setField_rec hz (by simp) fun h₁ hz₁ hs₁=>?_)
 replace hz₁:IsZip h₁ z TI TO .ellipsis:=hz₁
 refine ro ?_
 simp only[List.zipIdx_cons,List.zipIdx_nil,dF,List.forIn_nil]
 refine ro (ro (wpAny_onRaise ?_))
 show wpAny _ _ (Builtin.SmallTypes.nextOf (.ref i1) >>= _) _ _ _
 refine ro (uG (s:={ s with heap:=h₁ }) (xW h1 fun o e=>hs₁.extBut _ _ D.i1z e) hx fun h₂ h1₂ hs₂=>rp ?_)
 have hTO₂:IsPair h₂ TO a b:=hs₂.extBut _ _ D.TOi1 (hs₁.extBut _ _ D.TOz hTO)
 refine ro (wpAny_seqItems hTO₂ rfl ?_)
 refine ro (wpAny_updateSeq_pair hTO₂ fun h₃ hTO₃ hs₃=>?_)
 replace hTO₃:IsPair h₃ TO (.str ⟨#[c]⟩ s.toks) b:=hTO₃
 refine ro (wpAny_letGo (rp ?_))
 refine ro (ro (wpAny_onRaise ?_))
 show wpAny _ _ (Builtin.SmallTypes.nextOf (.ref i2) >>= _) _ _ _
 have up3:∀ d o,d≠z->d≠i1->d≠TO->s.heap.get? d=some o->h₃.get? d=some o:=fun d o d1 d2 d3 e=>hs₃.extBut _ _ d3 (hs₂.extBut _ _ d2 (hs₁.extBut _ _ d1 e))
 refine ro (uB (vH h2 fun o e=>up3 _ o D.i2z D.i12.symm D.TOi2.symm e) (V6 hl2 fun o e=>up3 _ o D.l2z D.l2i1 D.l2TO e) hy fun h₄ h2₄ hs₄=>rp ?_)
 have hTO₄:IsPair h₄ TO (.str ⟨#[c]⟩ s.toks) b:=hs₄.extBut _ _ D.TOi2 hTO₃
 refine ro (wpAny_seqItems hTO₄ rfl ?_)
 refine ro (wpAny_updateSeq_pair hTO₄ fun h₅ hTO₅ hs₅=>?_)
 replace hTO₅:IsPair h₅ TO (.str ⟨#[c]⟩ s.toks) y:=hTO₅
 refine ro (wpAny_letGo (rp (rp ?_)))
 refine ro (wpAny_seqItems hTO₅ rfl ?_)
 refine ro (wpAny_newTuple ?_)
 have hsz:h₅.objs.size=s.heap.objs.size:=by rw[hs₅.1,hs₄.1,hs₃.1,hs₂.1,hs₁.1]
 have hz₅:IsZip h₅ z TI TO .ellipsis:=hs₅.extBut _ _ D.TOz.symm (hs₄.extBut _ _ D.i2z.symm (hs₃.extBut _ _ D.TOz.symm (hs₂.extBut _ _ D.i1z.symm hz₁)))
 have hk₅:∀ c o,c≠z->c≠TO->c≠i1->c≠i2->s.heap.get? c=some o->h₅.get? c=some o:=fun c o c1 c2 c3 c4 e =>
  hs₅.extBut _ _ c2 (hs₄.extBut _ _ c4 (up3 _ _ c1 c3 c2 e))
 have h1₅:h₅.IsStrIter i1 (strIterType X) X tx (k+1):=xW h1₂ fun o e=>hs₅.extBut _ _ D.TOi1.symm (hs₄.extBut _ _ D.i12 (hs₃.extBut _ _ D.TOi1.symm e))
 have h2₅:h₅.IsTupleIter i2 l2 (k+1):=vH h2₄ fun o e=>hs₅.extBut _ _ D.TOi2.symm e
 have hzlt:z<h₅.objs.size:=ao hz₅
 show wpAny _ _ (Builtin.SmallTypes.ownedTupleHandOut (.ref z) (.ref h₅.objs.size) >>= _) _ _ _
 refine ro ?_
 unfold Builtin.SmallTypes.ownedTupleHandOut
 have hz₆:IsZip (h₅.push { cls:=.type "tuple",data:=.seq #[.str ⟨#[c]⟩ s.toks,y] }) z TI TO .ellipsis:=af _ hz₅
 refine ro (wpAny_setField_rec hz₆ (by simp) fun h₇ hz₇ hs₇=>?_)
 replace hz₇:IsZip h₇ z TI TO (rawInt h₅.objs.size):=hz₇
 refine wpAny_setField_rec hz₇ (by simp) fun h₈ hz₈ hs₈=>?_
 replace hz₈:IsZip h₈ z TI TO (rawInt h₅.objs.size):=hz₈
 have up:∀ c o,c≠z->h₅.get? c=some o->h₈.get? c=some o:=fun c o c1 e=>hs₈.extBut _ _ c1 (hs₇.extBut _ _ c1 (af _ e))
 have hT₈:IsPair h₈ h₅.objs.size (.str ⟨#[c]⟩ s.toks) y:=hs₈.extBut _ _ (cJ hzlt) (hs₇.extBut _ _ (cJ hzlt) (aH _ rfl))
 have hz8:h₈.objs.size=h₅.objs.size+1:=by rw[hs₈.1,hs₇.1,bK]
 rw[hsz] at hz₈ hT₈ hz8
 refine rp ⟨_,rfl,?_⟩
 show Q (.ref h₅.objs.size) _
 rw[hsz]
 exact hQ h₈ s.toks hz₈ (up _ _ D.TOz hTO₅) (xW h1₅ fun o e=>up _ o D.i1z e) (vH h2₅ fun o e=>up _ o D.i2z e) hT₈ hz8 fun c o c1 c2 c3 c4 e=>up c o c1 (hk₅ c o c1 c2 c3 c4 e)
theorem Qv{z TI TO i1 i2 l2:Addr}{k:Nat}{X:Str}{tx:Tok}{a b:Value}{Q:Fin->Shared->Prop}(hh:A.handled=none)(D:Jh z TI TO i1 i2 l2)
  (hz:IsZip s.heap z TI TO .none) (hTI:IsPair s.heap TI (.ref i1) (.ref i2)) (hTO:IsPair s.heap TO a b)
  (h1:s.heap.IsStrIter i1 (strIterType X) X tx k) (hx:X.cps[k]? = none)
  (hE:∀ h' e,(∀ c o,c≠z->c≠TO->c≠i1->c≠i2->s.heap.get? c=some o->h'.get? c=some o)->(∃ o,h'.get? e=some o/\o.cls=.type "StopIteration")->E (.ref e) { s with heap:=h' }) :
  wpAny (model prog w) A (Builtin.«zip.__next__» ⟨[.ref z],[]⟩) Q E s:=by
 show wpAny _ _ (field (.ref z) 2 >>= _) _ _ _
 refine ro (wpAny_field hz rfl (x:=.bool false) rfl ?_)
 show wpAny _ _ (field (.ref z) 3 >>= _) _ _ _
 refine ro (wpAny_field hz rfl (x:=.ref TI) rfl ?_)
 refine ro (wpAny_seqItems hTI rfl ?_)
 show wpAny _ _ (Builtin.SmallTypes.ownedTupleIsFree (.ref z) >>= _) _ _ _
 refine ro ?_
 unfold Builtin.SmallTypes.ownedTupleIsFree
 refine ro (wpAny_field hz rfl (x:=.none) rfl (rp ?_))
 simp only[if_true]
 refine ro (wpAny_rule ?_)
 refine ro (wpAny_field hz rfl (x:=.ref TO) rfl ?_)
 refine ro (wpAny_setField_rec hz (by simp) fun h₁ hz₁ hs₁=>?_)
 replace hz₁:IsZip h₁ z TI TO .ellipsis:=hz₁
 refine ro ?_
 simp only[List.zipIdx_cons,List.zipIdx_nil,dF,List.forIn_nil]
 refine ro (ro (wpAny_onRaise ?_))
 show wpAny _ _ (Builtin.SmallTypes.nextOf (.ref i1) >>= _) _ _ _
 refine ro (qw (s:={ s with heap:=h₁ }) hh (xW h1 fun o e=>hs₁.extBut _ _ D.i1z e) hx fun h₂ e hs₂ he=>?_)
 obtain⟨oe,hoe,hce⟩:=he
 have hz₂:IsZip h₂ z TI TO .ellipsis:=hs₂ _ _ D.i1z.symm hz₁
 have hez:e≠z:=fun x=>by subst x;rw[hz₂] at hoe;cases hoe;simp at hce
 refine wpAny_setField_rec hz₂ (by simp) fun h₃ _ hs₃=>hE h₃ e (fun c o c1 _ c3 _ x=>hs₃.extBut _ _ c1 (hs₂ _ _ c3 (hs₁.extBut _ _ c1 x))) ⟨oe,hs₃.extBut _ _ hez hoe,hce⟩
end
end L3
namespace L3
section
variable{prog:Program}{w:World}{A:Around}{E:Value->Shared->Prop}{s:Shared}
theorem uD{z TI TO i1 i2 l2:Addr}{k c:Nat}{X:Str}{tx:Tok}{ys:Array Value}{y a b:Value}{Q:Option Value->Shared->Prop}(D:Jh z TI TO i1 i2 l2)
  (hz:IsZip s.heap z TI TO .none) (hTI:IsPair s.heap TI (.ref i1) (.ref i2)) (hTO:IsPair s.heap TO a b)
  (h1:s.heap.IsStrIter i1 (strIterType X) X tx k) (h2:s.heap.IsTupleIter i2 l2 k) (hl2:s.heap.IsTuple l2 ys) (hx:X.cps[k]? = some c) (hy:ys[k]? = some y)
  (hQ:∀ h' t',IsZip h' z TI TO (rawInt s.heap.objs.size)->IsPair h' TO (.str ⟨#[c]⟩ t') y->h'.IsStrIter i1 (strIterType X) X tx (k+1)->h'.IsTupleIter i2 l2 (k+1)->IsPair h' s.heap.objs.size (.str ⟨#[c]⟩ t') y->h'.objs.size=s.heap.objs.size+1 ->
   (∀ c o,c≠z->c≠TO->c≠i1->c≠i2->s.heap.get? c=some o->h'.get? c=some o)->Q (some (.ref s.heap.objs.size)) { s with heap:=h',toks:=s.toks+1 }) :
  wpAny (model prog w) A (pyNext (.ref z)) Q E s:=by
 have hT:s.TypeIs (.ref z) "zip":=⟨_,hz,rfl⟩
 unfold pyNext
 exact ro (wpAny_attempt (wpAny_callSpecial?_slot (name:=bA "__next__") hT F.slot_zip_next
  (wpAny_call_entry F.slot_zip_next hT F.entry_zip_next
   (Vq D hz hTI hTO h1 h2 hl2 hx hy fun h' t' a1 a2 a3 a4 a5 a6 a7=>rp (hQ h' t' a1 a2 a3 a4 a5 a6 a7)) (F.args_zip_next_1 _))))
theorem ql{z TI TO i1 i2 l2:Addr}{k:Nat}{X:Str}{tx:Tok}{a b:Value}{Q:Option Value->Shared->Prop}(hh:A.handled=none)(D:Jh z TI TO i1 i2 l2)
  (hz:IsZip s.heap z TI TO .none) (hTI:IsPair s.heap TI (.ref i1) (.ref i2)) (hTO:IsPair s.heap TO a b)
  (h1:s.heap.IsStrIter i1 (strIterType X) X tx k) (hx:X.cps[k]? = none)
  (hQ:∀ h',(∀ c o,c≠z->c≠TO->c≠i1->c≠i2->s.heap.get? c=some o->h'.get? c=some o)->Q none { s with heap:=h' }):wpAny (model prog w) A (pyNext (.ref z)) Q E s:=by
 have hT:s.TypeIs (.ref z) "zip":=⟨_,hz,rfl⟩
 unfold pyNext
 refine ro (wpAny_attempt (wpAny_callSpecial?_slot (name:=bA "__next__") hT F.slot_zip_next
  (wpAny_call_entry F.slot_zip_next hT F.entry_zip_next (Qv hh D hz hTI hTO h1 hx fun h' e hk he=>?_) (F.args_zip_next_1 _))))
 obtain⟨o,ho,hc⟩:=he
 refine ro (wpAny_isInstance (T:="StopIteration") (b:=true) ⟨o,ho,hc⟩ isSubtype_stop ?_)
 exact rp (hQ _ hk)
end
noncomputable abbrev JW(h:Heap)(x:Str)(t:Tok):Heap:=h.push { cls:=.type (strIterType x),data:=.fields #[.str x t,.int 0 0] }
noncomputable abbrev JV(h:Heap)(x:Str)(t:Tok)(l2:Addr):Heap:=(JW h x t).push { cls:=.type "tuple_iterator",data:=.fields #[.ref l2,.int 0 0] }
noncomputable abbrev J3(h:Heap)(x:Str)(t:Tok)(l2:Addr):Heap:=(JV h x t l2).push { cls:=.type "tuple",data:=.seq #[.ref h.objs.size,.ref (JW h x t).objs.size] }
noncomputable abbrev J5(h:Heap)(x:Str)(t:Tok)(l2:Addr):Heap:=(J3 h x t l2).push { cls:=.type "tuple",data:=.seq #[.none,.none] }
noncomputable abbrev UM(h:Heap)(x:Str)(t:Tok)(l2:Addr):Heap:=(J5 h x t l2).push { cls:=.type "zip",data:=.fields #[.none,.bool false,.bool false,.ref (JV h x t l2).objs.size,.ref (J3 h x t l2).objs.size] }
theorem jv(x:Str)(t:Tok)(l2:Addr)(ys:Array Value) :
  Meets (Builtin.«zip.__new__» ⟨[.type "zip",.str x t,.ref l2],[]⟩) (fun _ R s=>s.heap.IsTuple l2 ys /\
   R (.ok (.ret (.ref (J5 s.heap x t l2).objs.size))) { s with heap:=UM s.heap x t l2 }) :=
 .of_wp fun prog w A R s h=>by
  obtain⟨hp,g,d,tk,os⟩:=s;obtain⟨hl2,h⟩:=h
  have hsub:=sub_zip
  have hL2:Heap.IsTuple (Shared.heap ⟨hp.push { cls:=.type (strIterType x),data:=.fields #[.str x t,.int 0 0] },g,d,tk,os⟩) l2 ys:=V6 hl2 fun o e=>af _ e
  wp_walk using wpAny_pyIter_strU (s:=⟨hp,g,d,tk,os⟩) (x:=x) (t:=t),wpAny_pyIter_tuple hL2
  exact⟨_,rfl,h⟩
section
variable{prog:Program}{w:World}{A:Around}{E:Value->Shared->Prop}{s:Shared}
theorem VD{x:Str}{t:Tok}{l2:Addr}{ys:Array Value}{Q:Value->Shared->Prop}(hl2:s.heap.IsTuple l2 ys)
  (h:∀ h',IsZip h' (s.heap.objs.size+4) (s.heap.objs.size+2) (s.heap.objs.size+3) .none->IsPair h' (s.heap.objs.size+2) (.ref s.heap.objs.size) (.ref (s.heap.objs.size+1)) ->
   IsPair h' (s.heap.objs.size+3) .none .none->h'.IsStrIter s.heap.objs.size (strIterType x) x t 0->h'.IsTupleIter (s.heap.objs.size+1) l2 0->h'.objs.size=s.heap.objs.size+5 ->
   (∀ c o,s.heap.get? c=some o->h'.get? c=some o)->Q (.ref (s.heap.objs.size+4)) { s with heap:=h' }) :
  wpAny (model prog w) A (call (.type "zip") [.str x t,.ref l2]) Q E s:=by
 refine callType_new F.called_zip (by decide) (F.typeCall_zip_2 _ _) (F.newCall_zip_2 _ _) (fun obj=>F.args_object_init_3 obj _ _) F.entry_zip_new
  (jv x t l2 ys) ⟨hl2,?_⟩
 have z1:(JW s.heap x t).objs.size=s.heap.objs.size+1:=bK ..
 have z2:(JV s.heap x t l2).objs.size=s.heap.objs.size+2:=by rw[bK,z1]
 have z3:(J3 s.heap x t l2).objs.size=s.heap.objs.size+3:=by rw[bK,z2]
 have z4:(J5 s.heap x t l2).objs.size=s.heap.objs.size+4:=by rw[bK,z3]
 have z5:(UM s.heap x t l2).objs.size=s.heap.objs.size+5:=by rw[bK,z4]
 have g5:(UM s.heap x t l2).get? (J5 s.heap x t l2).objs.size=some _:=aH _ rfl
 have g4:(UM s.heap x t l2).get? (J3 s.heap x t l2).objs.size=some _:=af _ (aH _ rfl)
 have g3:(UM s.heap x t l2).get? (JV s.heap x t l2).objs.size=some _:=af _ (af _ (aH _ rfl))
 have g2:(UM s.heap x t l2).get? (JW s.heap x t).objs.size=some _:=af _ (af _ (af _ (aH _ rfl)))
 have g1:(UM s.heap x t l2).get? s.heap.objs.size=some _:=af _ (af _ (af _ (af _ (aH _ rfl))))
 show _/\_
 rw[z2,z3,z4] at g5
 rw[z1,z2] at g3
 rw[z3] at g4
 rw[z1] at g2
 rw[z4]
 exact⟨⟨_,g5,rfl⟩,h _ g5 g3 g4 ⟨_,g1,rfl,rfl⟩ ⟨_,g2,rfl,rfl⟩ z5 fun c o x =>
  af _ (af _ (af _ (af _ (af _ x))))⟩
end
end L3
namespace L3
noncomputable def Izs(K:rC)(l:List Nat)(b:Addr):It:=⟨fun i H=>∃ ys y,SqT K H b ys/\i<l.length/\ys[i]? = some y,fun i H v H'=>∃ p c y,H p=none/\l[i]? = some c/\(∀ ys,SqT K H b ys->ys[i]? = some y)/\v=.ref p/\H'=upd H p (.tup [.str (tx [c]),y]),fun i H=>i=l.length⟩
def ZSt(z TI TO i1 i2:Addr)(X:Str)(t:Tok)(l2:Addr)(i:Nat)(h:Heap):Prop:=IsZip h z TI TO .none/\IsPair h TI (.ref i1) (.ref i2)/\(∃ a b,IsPair h TO a b)/\h.IsStrIter i1 (strIterType X) X t i/\h.IsTupleIter i2 l2 i
theorem VC{P:Program}{w:World}{K:rC}{elts:List Expr}{x1:Nat}{tpos:Pos}(z TI TO i1 i2 l2:Addr)(l:List Nat)(t:Tok)(D:Jh z TI TO i1 i2 l2) :
  U6 P w K (.Tuple elts x1 tpos) (Izs K l l2) [z,TI,TO,i1,i2] z (fun i h=>ZSt z TI TO i1 i2 (tx l) t l2 i h) where
 mem:=by simp
 obj:=fun i h st b hb=>by
  obtain⟨hz,hTI,⟨a,c,hTO⟩,⟨o1,e1,c1,d1⟩,⟨o2,e2,c2,d2⟩⟩:=st
  simp only[e7,em,or_false] at hb
  rcases hb with rfl | rfl | rfl | rfl | rfl
  ·exact⟨_,hz,fun v q=>by have q':Data.fields _=Data.cell v:=q;cases q'⟩
  ·exact⟨_,hTI,fun v q=>by have q':Data.seq _ _=Data.cell v:=q;cases q'⟩
  ·exact⟨_,hTO,fun v q=>by have q':Data.seq _ _=Data.cell v:=q;cases q'⟩
  ·exact⟨o1,e1,fun v q=>by rw[d1] at q;cases q⟩
  ·exact⟨o2,e2,fun v q=>by rw[d2] at q;cases q⟩
 keep:=fun i h h' st k=>by
  obtain⟨hz,hTI,⟨a,c,hTO⟩,h1,h2⟩:=st
  exact⟨k z (by simp) _ hz,k TI (by simp) _ hTI,⟨a,c,k TO (by simp) _ hTO⟩,xW h1 fun o e=>k i1 (by simp) o e,vH h2 fun o e=>k i2 (by simp) o e⟩
 item:=by
  intro X hP hw hK hc i pins s σ H E I hf st hg
  subst hP hw hK
  obtain⟨ys,y,hqy,hi,hy⟩:=hg
  obtain⟨its2,rv2,p2,_⟩:=I.tuple hqy
  obtain⟨u2,hu2,ru2⟩:=rv2.get hy
  obtain⟨hz,hTI,⟨a,b,hTO⟩,h1,h2⟩:=st
  have hl2:s.heap.IsTuple l2 its2.toArray:=p2
  have hx:(tx l).cps[i]? = some l[i]:=by
   show l.toArray[i]? = _
   simp [hi]
  refine uD D hz hTI hTO h1 h2 hl2 hx (y:=u2) (by simpa using hu2) fun h' t' a1 a2 a3 a4 a5 a6 hk=>?_
  refine⟨_,rfl,wpAny_letOwnedTupleGo_zip (s:={ s with heap:=h',toks:=s.toks+1 }) a1 fun h2' hz2 sb=>?_⟩
  have zlt:z<s.heap.objs.size:=ao hz
  have TIlt:TI<s.heap.objs.size:=ao hTI
  have TOlt:TO<s.heap.objs.size:=ao hTO
  have i1lt:i1<s.heap.objs.size:=by obtain⟨o,e,_⟩:=h1;exact ao e
  have i2lt:i2<s.heap.objs.size:=by obtain⟨o,e,_⟩:=h2;exact ao e
  have I1:Inv X pins σ H { s with heap:=h2',toks:=s.toks+1 }:=Inv.turns (fp:=[z,TI,TO,i1,i2]) I (fun b o hb q=>by
   have hb':b≠z/\b≠TI/\b≠TO/\b≠i1/\b≠i2:=by simpa using hb
   exact (sb.2 b hb'.1).trans (hk b o hb'.1 hb'.2.2.1 hb'.2.2.2.1 hb'.2.2.2.2 q)) hf
  have hp:H s.heap.objs.size=none:=I.hok.fresh (ar _)
  have hT2:h2'.get? s.heap.objs.size=some { cls:=.type "tuple",data:=.seq #[.str ⟨#[l[i]]⟩ t',u2] }:=(sb.2 _ (cJ zlt)).trans a5
  have ru1:RelV (.str (tx [l[i]])) (.str ⟨#[l[i]]⟩ t'):=⟨t',rfl⟩
  have I2:Inv X pins σ (upd H s.heap.objs.size (.tup [.str (tx [l[i]]),y])) { s with heap:=h2',toks:=s.toks+1 } :=
   Inv.track I1 (I.fpOk (ar _) hp) ⟨by show 2<=rB;decide,[.str ⟨#[l[i]]⟩ t',u2],.cons ru1 (.cons ru2 .nil),⟨_,hT2,rfl,_,rfl⟩⟩
  refine⟨.ref s.heap.objs.size,_,I2,rfl,⟨s.heap.objs.size,l[i],y,hp,by simp [hi],fun zs hz'=>by rw[I.tuple_inj hz' hqy];exact hy,rfl,rfl⟩,⟨hz2,(sb.2 _ D.TIz).trans (hk _ _ D.TIz D.TITO D.TIi1 D.TIi2 hTI),⟨_,_,(sb.2 _ D.TOz).trans a2⟩,xW a3 fun o e=>(sb.2 _ D.i1z).trans e,vH a4 fun o e=>(sb.2 _ D.i2z).trans e⟩,fun b hb=>?_⟩
  rw[zh]
  ·exact (hf b hb).1
  ·simp only[e7,em,or_false] at hb
   rcases hb with rfl | rfl | rfl | rfl | rfl <;> exact ay (by assumption)
 done:=by
  intro X hP hw hK hc i pins s σ H E I hf st hg
  subst hP hw hK
  have hi:i=l.length:=hg
  obtain⟨hz,hTI,⟨a,b,hTO⟩,h1,h2⟩:=st
  refine ql (I.ok.hd hc) D hz hTI hTO h1 ?_ fun h' hk=>⟨rfl,?_⟩
  ·show l.toArray[i]? = none
   simp [hi]
  ·exact Inv.turns (fp:=[z,TI,TO,i1,i2]) (t':=s.toks) I (fun b o hb q=>by
    have hb':b≠z/\b≠TI/\b≠TO/\b≠i1/\b≠i2:=by simpa using hb
    exact hk b o hb'.1 hb'.2.2.1 hb'.2.2.2.1 hb'.2.2.2.2 q) hf
 self:=fun A i s Q E st h=>wpAny_pyIter_zip st.1 h
section
variable{X:Cx}
def iZs(K:rC)(ta:TA):TI:=fun σ H R=>ta σ H fun vs H1=>∃ l b,vs=[.str (tx l),.ref b]/\(∃ ys,SqT K H1 b ys)/\R (Izs K l b) H1
theorem Jq{a b:Expr}{ta:TA}{p pos tpos:Pos}{elts:List Expr}{x1:Nat}(hg:Gl X "zip")(hm:X.mg "zip" = none)(ha:PA X [a,b] ta)(hs:rA [a,b] X.env=(false,eval a X.env)::rA [b] X.env:=by rfl)
  (hpl:(backTo pos (rA [b] X.env)).any (·.1)=false:=by rfl):PI X (.Tuple elts x1 tpos) (.Call (.Name "zip" p) [a,b] [] pos) (iZs X.K ta):=by
 intro pins s σ H R I h
 refine Call_ (ug I hg hm PyProof.Rows.boot_zip (cw (thn (ha pos pins s σ H _ I h) fun us s1 ⟨vs,H1,I1,r1,q1⟩=>?_) hs hpl))
 obtain⟨l,l2,e,⟨ys,hqy⟩,q⟩:=q1
 subst e
 obtain⟨u1,u2,rfl,ru1,ru2⟩:=XA r1
 obtain⟨t,rfl⟩:=ru1
 cases ru2
 obtain⟨its2,rv2,p2,_⟩:=I1.tuple hqy
 have hl2:s1.heap.IsTuple l2 its2.toArray:=p2
 have l2lt:l2<s1.heap.objs.size:=by obtain⟨o,e,_⟩:=hl2;exact ao e
 have ne:∀ a b:Nat,a≠b->s1.heap.objs.size+a≠s1.heap.objs.size+b:=fun a b h e=>h (Nat.add_left_cancel e)
 have nl:∀ a:Nat,l2≠s1.heap.objs.size+a:=fun a=>ay (aq l2lt (cu _ _))
 refine VD hl2 fun h' hz hTI hTO h1 h2 hsz kk=>?_
 have I2:Inv X pins σ H1 { s1 with heap:=h' }:=I1.kept (t':=s1.toks) kk
 refine wpAny_pyIter_zip (s:={ s1 with heap:=h' }) hz ?_
 refine⟨s1.heap.objs.size+4,[s1.heap.objs.size+4,s1.heap.objs.size+2,s1.heap.objs.size+3,s1.heap.objs.size,s1.heap.objs.size+1],_,_,H1,rfl,I2,VC (s1.heap.objs.size+4) (s1.heap.objs.size+2) (s1.heap.objs.size+3) s1.heap.objs.size (s1.heap.objs.size+1) l2 l t ⟨⟨ne 2 4 (by decide),ne 3 4 (by decide),ne 0 4 (by decide),ne 1 4 (by decide),ne 2 3 (by decide),ne 2 0 (by decide),ne 2 1 (by decide),ne 3 0 (by decide),ne 3 1 (by decide),ne 0 1 (by decide)⟩,nl 4,nl 3,nl 0,nl 1⟩,⟨hz,hTI,⟨_,_,hTO⟩,h1,h2⟩,fun b hb=>?_,q⟩
 have hb':s1.heap.objs.size<=b:=by
  simp only[e7,em,or_false] at hb
  rcases hb with e | e | e | e | e
  ·rw[e];exact cu _ _
  ·rw[e];exact cu _ _
  ·rw[e];exact cu _ _
  ·rw[e];exact ar _
  ·rw[e];exact cu _ _
 exact I1.fpOk hb' (I1.hok.fresh hb')
end
def CompZ(K:rC)(l:List Nat)(b:Addr)(g:TG)(tt:TT)(te:TE)(own:Nat)(ix:List Nat)(σ:L2.St)(H1:Hp)(Q:VK)(D:Addr):Prop:=YZ (Izs K l b) g tt te own ix σ H1 Q D
theorem yf{K:rC}{ta:TA}{g:TG}{tt:TT}{te:TE}{own:Nat}{ix:List Nat}{σ:L2.St}{H:Hp}{Q:VK}:kJ (iZs K ta) g tt te own ix σ H Q=ta σ H fun vs H1=>∃ l b,vs=[.str (tx l),.ref b]/\(∃ ys,SqT K H1 b ys)/\∀ D,H1 D=none->CompZ K l b g tt te own ix σ H1 Q D:=rfl
section
variable{g:TG}{tt:TT}{te:TE}{own:Nat}{ix:List Nat}{σ:L2.St}{H1:Hp}{Q:VK}{D:Addr}
theorem CompZ.by{K:rC}{l:List Nat}{b:Addr}{ys:List V}(Pv:Nat->List V->Hp->Prop)(hlen:l.length=ys.length)(h0:Pv 0 [] (upd H1 D (.lst [])))(hl:∀ i acc H',i<=l.length->Pv i acc H'->SqT K H' b ys)
  (hs:∀ i c y acc H' p,l[i]? = some c->ys[i]? = some y->Pv i acc H'->H' p=none->g (.ref p) (uI σ own ix) (upd H' p (.tup [.str (tx [c]),y])) fun σ3 H3=>xR (uI σ own ix) σ3/\tt σ3 H3 fun b H4=>if b=true then
   te σ3 H4 fun v H5=>H5 D=some (.lst acc)/\acc.length<rB/\CNx l.length i Pv (acc ++ [v]) (upd H5 D (.lst (acc ++ [v]))) else CNx l.length i Pv acc H4)
  (hd:∀ acc H',Pv l.length acc H'->Q (.ref D) H'):CompZ K l b g tt te own ix σ H1 Q D:=by
 refine⟨fun i m acc H=>m=l.length - i/\i<=l.length/\Pv i acc H,⟨l.length,by simp,aP _,h0⟩,?_⟩
 rintro i m acc H' ⟨rfl,hi,p⟩
 have q:=hl i acc H' hi p
 by_cases hlt:i<l.length
 ·refine .inr ⟨⟨ys,ys[i],q,hlt,by simp [<- hlen,hlt]⟩,fun x H2 y=>?_⟩
  obtain⟨p',c,y,hp,hc,hy,ev,eH⟩:=y
  subst ev eH
  exact hs i c y acc H' p' hc (hy ys q) p hp
 ·have e:i=l.length:=by lia
  subst e
  exact .inl ⟨rfl,hd acc H' p⟩
end
end L3
namespace L3
section
variable{X:Cx}{k1 k2 k3 j:Nat}{C1 C2 C3:Addr}{m:Str}{ps:List Str}{s1 s2 s3:Sp}{o e:Expr}{es:List Expr}{ta:TE}{t:TA}{apos pos p:Pos}{E:XK}
def wY(t1 t2:TE):TE:=fun σ H Q=>t1 σ H Q\/t2 σ H Q
theorem Ui{t1 t2:TE}(h1:PE X e t1)(h2:PE X e t2):PE X e (wY t1 t2):=by
 intro pins s σ H Q I h
 rcases h with h | h
 ·exact h1 pins s σ H Q I h
 ·exact h2 pins s σ H Q I h
theorem JU(D1:DM X.prog X.w X.K X.mg X.base CX0 k1 C1 m ps s1)(D2:DM X.prog X.w X.K X.mg X.base CX0 k2 C2 m ps s2)(D3:DM X.prog X.w X.K X.mg X.base CX0 k3 C3 m ps s3)(c1:Cls X.K C1)(c2:Cls X.K C2)(c3:Cls X.K C3)(hr:Room j X.A)(he:PE X o ta)(ha:PA X (e::es) t){pl:Sem Bool}
    (hst:rA (e::es) X.env=(false,eval e X.env)::rA es X.env:=by rfl) (hpl:(backTo pos (rA es X.env)).any (·.1)=false:=by rfl)
    (ht:eval (.Call (.Attribute o m apos) (e::es) [] pos) X.env=(do
      let ov <- eval o X.env
      standAt apos.atName
      let (f,first) <- holding [ov] (getMethod ov m pl)
      callWith pos f first (backTo pos (rA (e::es) X.env)) (backToKw pos (keywordEach [] X.env))):=by rfl) (h1:k1<=j:=by decide) (h2:k2<=j:=by decide) (h3:k3<=j:=by decide) :
    PE X (.Call (.Attribute o m apos) (e::es) [] pos) (wY (qx C1 m s1 [] E0 ta t) (wY (qx C2 m s2 [] E0 ta t) (qx C3 m s3 [] E0 ta t))) :=
  Ui (me1 (pl:=pl) D1 c1 hr he ha hst hpl ht h1) (Ui (me1 (pl:=pl) D2 c2 hr he ha hst hpl ht h2) (me1 (pl:=pl) D3 c3 hr he ha hst hpl ht h3))
end
end L3
namespace L3
section
variable{X:Cx}
end
end L3
namespace L3
section
variable{X:Cx}
noncomputable def KB(w:List Nat):Value->Bool
 | .str y _=>y.cps.toList == (tx w).cps.toList
 | _=>false
end
end L3
namespace L3
open PySem PySem.Spec PyProof.Rows L2 PySem.W PySem.Calls
def Ji(n:Int):Prop:=Builtin.Int.intBits n<=1048576
theorem Ur:∀(ns:List Int),WData.weightAll (ns.map WData.int)<=1048576->∀ n ∈ ns,Ji n
 | [],_,n,h=>nomatch h
 | m::ns,hw,n,h=>by
  rw[ax,WData.weightAll] at hw
  rcases rH.mp h with rfl | h
  ·have e:WData.weight (.int n)=Builtin.Int.intBits n:=by
    rw[WData.weight]
    rfl
   unfold Ji
   lia
  ·exact Ur ns (by lia) n h
section
variable{X:Cx}
end
theorem jN{l:OpenLaw}{n:Nat}{q:Program}{loose:List Str}{XP:(Str->Option Value)->Heap->Prop}{YP:World->Heap->Prop}{d:DefRec}
  (hn:l.most=some n) (hdf:d.params.defaults=[])
  (call:∀(w:World) (s₀ s₁:Shared) (mg mb:Str->Option Value) (fa:Addr) (o:Obj) (pm cd doc:Value) (a:Addr) (vs:List Value) (ns:List Int),
   Ground q loose [] XP w s₀ mg mb s₁.heap->YP w s₁.heap ->
   s₁.heap.get? fa=some o->o.data=.func (docDef d.name d.params d.body d.scope pm cd doc)->s₁.heap.CodeRec cd d.name->mg d.name=some (.ref fa) ->
   s₁.heap.get? a=some { cls:=.type "list",data:=.seq vs.toArray }->IntsAre vs ns->ns.length<=n->(∀ z ∈ ns,Ji z)->s₁.gens=#[] ->
   codeAny (model l.prog w) callerA (.call (.ref fa) ⟨[.ref a],[]⟩) (fun r s'=>r=.ok (.ret (.bool true))/\OldK s₁.heap s'.heap/\s'.os=s₁.os/\AllBare s'.gens) s₁) :
  WalkO q loose XP YP l.row.toRowW d [] (fun f vs=>fL f vs):=by
 intro w s₀ s₁ mg mb G Y fa o pm cd doc dV kV ho hd hcd hD hmg hg args vals as hpre hlay hrd hwl hlo
 obtain rfl:dV=.none:=Dflts.none hD hdf
 obtain rfl:kV=.none:=Dflts.noKw hD
 obtain⟨a,vs,ns,rfl,rfl,hobj,hints,hlen⟩:=Att.script_of hn hpre hwl
 have hb:∀ z ∈ ns,Ji z:=by
  refine Ur ns ?_
  have h1:WData.layable (WData.list (ns.map WData.int))=true:=by
   have:=hlay
   unfold WData.layableAll at this
   simpa using this
  unfold WData.layable at h1
  simp only[cK,decide_eq_true_eq] at h1
  have h2:=h1.2
  rw[WData.weight] at h2
  exact h2
 refine enter_call (codeAny_mono (call w s₀ s₁ mg mb fa o pm cd doc a vs ns G Y ho (fd_plain hd) hcd hmg hobj hints hlen hb hg) fun r s' hq=>?_)
 obtain⟨rfl,h2,h3,h4⟩:=hq
 exact⟨.inl ⟨.bool true,.bool true,[],rfl,fun _=>rfl,.bool true,Att.post_true l _,fun _=>⟨List.Pairwise.nil,fun _ hm=>(nomatch hm)⟩⟩,h2,h3,h4⟩
end L3
namespace L3
section
variable{X:Cx}{k j:Nat}{C:Addr}{x f':Str}{ps:List Str}{sp:Sp}{e:Expr}{es:List Expr}{t:TA}{te:TX}{pos p:Pos}
end
section
variable{X:Cx}{k j:Nat}{C:Addr}{m x:Str}{ps:List Str}{sp:Sp}{e:Expr}{es:List Expr}{t:TA}{apos pos p:Pos}{E:XK}
end
end L3
namespace L3
section
variable{prog:Program}{w:World}{A:Around}{E:Value->Shared->Prop}{s:Shared}{env:Env}
end
end L3
namespace L3
theorem XEg.xe{X:Cx}{E:XK}(h:XEg X E):XE X E:=fun e s ⟨pins,σ,H,x,C,t,dx,tb,q⟩=>h e s ⟨.none,false,pins,σ,H,x,C,t,dx,tb,q⟩
section
variable{X:Cx}{k:Nat}{ps:List Str}{sp:Sp}{ds:List Value}{dvs:List V}{E:XK}{x:Str}{p pos:Pos}{e:Expr}{es:List Expr}{t:TA}
end
section
variable{X:Cx}{o e:Expr}{to:TE}{te:TX}{name:Str}{apos cpos:Pos}{T id:String}{r:V->List V->Hp->VK->Prop}
end
section
variable{X:Cx}
end
section
variable{X:Cx}{k j:Nat}{C:Addr}{ps:List Str}{sp:Sp}{e:Expr}{es:List Expr}{t:TA}{pos p:Pos}{x:Str}
end
end L3
namespace L3
theorem Zf(x y:Str)(i j:Int)(t u v v':Tok):Gives (Builtin.«str.find» ⟨[.str x t,.str y u,.int i v,.int j v'],[]⟩) (.int (match Builtin.Str.occurrences x y (fromIndex x.length i) (min (fromIndex x.length j) x.length) 1 with | k::_=>(k:Int) | []=>-1)):=by
 show Gives (match Builtin.Str.occurrences x y (fromIndex x.length i) (min (fromIndex x.length j) x.length) 1 with | k::_=>retInt k | []=>(do rule "str.find.not-found";retInt (-1))) _
 cases Builtin.Str.occurrences x y (fromIndex x.length i) (min (fromIndex x.length j) x.length) 1 with
 | nil=>exact .rule (.of_eq rfl)
 | cons k _=>exact .of_eq rfl
theorem Za(x y:Str)(lo hi:Nat) :
  (Builtin.Str.occurrences x y lo hi 1=[]/\∀ i,lo<=i->¬ StrLaws.At x y hi i) \/
  ∃ i r,Builtin.Str.occurrences x y lo hi 1=i::r/\lo<=i/\StrLaws.At x y hi i/\∀ k,lo<=k->k<i->¬ StrLaws.At x y hi k:=by
 rw[StrLaws.occ_eq]
 rcases StrLaws.occ_first x y hi 1 (ar 1) (List.range' lo (hi+1 - lo)) lo (fun i hm=>(List.mem_range'_1.mp hm).1) with ⟨e,no⟩ | ⟨pre,a,post,e,e0,at_a,no⟩
 ·exact .inl ⟨by rw[e],fun i h1 h2=>no i (by have:=h2.1;rw[List.mem_range'_1];lia) h2⟩
 ·have sp:=StrLaws.range'_split_from e
  generalize (forIn (List.range' lo (hi+1 - lo)) ((#[]:Array Nat),lo) (StrLaws.occBody x y hi 1)).run.fst=z at e0 ⊢
  obtain⟨zs⟩:=z
  cases zs with
  | nil=>simp at e0
  | cons b r =>
   have:b=a:=by simpa using e0
   subst this
   exact .inr ⟨b,r,rfl,sp.1,at_a,fun k h1 h2=>no k (sp.2 k h1 h2)⟩
theorem KY(l p:List Nat)(hi i:Nat):StrLaws.At (tx l) (tx p) hi i ↔ i+p.length<=hi/\(l.drop i).take p.length=p:=by
 unfold StrLaws.At Builtin.Str.subAt
 rw[yu,beq_iff_eq]
 have e1:((tx l).cps.extract i (i+p.length)).toList=(l.drop i).take p.length:=by
  show (l.toArray.extract i (i+p.length)).toList=_
  simp [d9]
 have e2:((tx l).cps.extract i (i+p.length)=(tx p).cps) ↔ (l.drop i).take p.length=p:=by
  constructor
  ·intro h
   rw[<- e1,h]
  ·intro h
   apply Array.toList_inj.mp
   rw[e1,h]
 rw[e2]
def VZ:V->List V->Hp->VK->Prop:=fun x xs H Q=>∃(l p:List Nat) (lo hi:Int),x=.str (tx l)/\xs=[.str (tx p),.int lo,.int hi]/\0<=lo/\0<=hi/\∀ r:Int,((r=-1/\∀ q:Nat,lo<=q->(q:Int)+p.length<=hi->q+p.length<=l.length->(l.drop q).take p.length≠p)\/∃ k:Nat,r=k/\lo<=k/\(k:Int)+p.length<=hi/\k+p.length<=l.length/\(l.drop k).take p.length=p/\∀ q:Nat,lo<=q->q<k->(l.drop q).take p.length≠p)->Q (.int r) H
theorem U7{X:Cx}:MtR X "str.find" VZ:=by
 intro pins s σ H x xs v us Q I rx rv h
 obtain⟨l,p,lo,hi,rfl,rfl,h0,h1,q⟩:=h
 obtain⟨t,rfl⟩:=rx
 cases rv with
 | cons r1 r2 =>
  cases r2 with
  | cons r2 r3 =>
   obtain⟨w3,rfl,t3,rfl⟩:=wM r3
   obtain⟨t1,rfl⟩:=r1
   obtain⟨t2,rfl⟩:=r2
   have f0:fromIndex (tx l).length lo=lo.toNat:=by unfold fromIndex;rw[if_neg (by lia)];lia
   have f1:fromIndex (tx l).length hi=hi.toNat:=by unfold fromIndex;rw[if_neg (by lia)];lia
   refine call_gives F.slot_str_find (typeIs_str _ _ _) F.entry_str_find (F.args_str_find_4 _ _ _ _) (Zf _ _ lo hi t t1 t2 t3) ?_
   refine⟨.int _,H,I.tok _,⟨_,rfl⟩,q _ ?_⟩
   rw[f0,f1]
   have hm:∀ k:Nat,k+p.length<=min hi.toNat (tx l).length ↔ (k:Int)+p.length<=hi/\k+p.length<=l.length:=fun k=>by rw[yu];lia
   rcases Za (tx l) (tx p) lo.toNat (min hi.toNat (tx l).length) with ⟨e,no⟩ | ⟨i,r,e,hl,ha,no⟩
   ·rw[e]
    exact .inl ⟨rfl,fun k k1 k2 k3 k4=>no k (by lia) ((KY l p _ k).mpr ⟨(hm k).mpr ⟨k2,k3⟩,k4⟩)⟩
   ·rw[e]
    obtain⟨a1,a2⟩:=(KY l p _ i).mp ha
    obtain⟨b1,b2⟩:=(hm i).mp a1
    exact .inr ⟨i,rfl,by lia,b1,b2,a2,fun k k1 k2 k4=>no k (by lia) k2 ((KY l p _ k).mpr ⟨(hm k).mpr ⟨by lia,by lia⟩,k4⟩)⟩
end L3
set_option linter.unusedVariables false
namespace L3
section
variable{X:Cx}
end
end L3
namespace L3
section
variable{prog:Program}{w:World}{A:Around}{R:Result->Shared->Prop}{I l S:Addr}
theorem Wh(hh:A.handled=none)(hlI:l≠I)(hSI:S≠I)(hSl:S≠l)(xs:Array Value)(val:Nat->Int)(hv:∀ i v,xs[i]? = some v->∃ t,v=Value.int (val i) t)(d:Value) :
  ∀(k j:Nat) (z:Int) (t:Tok) (s:Shared) (c:Nat),xs.size - j=k->j<=xs.size->(∀ i,i<j->val i<=z)->s.heap.IsListIter I l j->s.heap.IsList l xs->s.heap.get? S=some (seqObj "list" #[.int z t,.int z t] c) ->
   (∀ z' t' h' tk,(∀ i,i<xs.size->val i<=z')->(∀ b o,b≠I->b≠S->s.heap.get? b=some o->h'.get? b=some o)->R (.ok (.ret (.int z' t'))) { s with heap:=h',toks:=tk }) ->
   codeAny (model prog w) A (.builtin "max.loop" ⟨[.ref I,.none,.ref S],[(bA "default",d)]⟩) R s:=by
 have nm:(toString "max" ++ toString ".loop" : String)="max.loop":=by decide
 have W:=Walks.list (prog:=prog) (w:=w) (A:=A.in1) hh I l hlI xs
 intro k
 induction k with
 | zero =>
  intro j z t s c hk hj hz hit hl hS hR
  have e:j=xs.size:=by lia
  refine codeAny_builtin (b:=Builtin.«max.loop») du ?_
  rw[Around.under_plainId (id:="max.loop") bC _]
  show wpAny _ A.in1 (seqItems? (Value.ref S) >>= _) _ _ s
  refine ro (wpAny_seqItems (items:=#[.int z t,.int z t]) hS rfl ?_)
  show wpAny _ A.in1 (tryCatch (pyNext (Value.ref I)) _ >>= _) _ _ s
  refine ro (wpAny_tryCatch (W.done s _ _ ⟨e ▸ hit,hl⟩ fun h' tk kp=>?_))
  have hS':=kp S _ (by simpa using hSI) hS
  show wpAny _ A.in1 (updateSeq S (fun _=>(#[]:Array Value)) >>= _) _ _ _
  refine ro (wpAny_updateSeq hS' rfl (ro (wpAny_letGo (rp ?_))))
  exact hR z t _ tk (fun i hi=>hz i (by lia)) fun b o hb hb' q=>(aJ _ _ (Ne.symm hb')).trans (kp b o (by simpa using hb) q)
 | succ k ih =>
  intro j z t s c hk hj hz hit hl hS hR
  refine codeAny_builtin (b:=Builtin.«max.loop») du ?_
  rw[Around.under_plainId (id:="max.loop") bC _]
  show wpAny _ A.in1 (seqItems? (Value.ref S) >>= _) _ _ s
  refine ro (wpAny_seqItems (items:=#[.int z t,.int z t]) hS rfl ?_)
  show wpAny _ A.in1 (tryCatch (pyNext (Value.ref I)) _ >>= _) _ _ s
  refine ro (wpAny_tryCatch (W.item j s _ _ (by lia) ⟨hit,hl⟩ fun v h' tk hP st kp=>?_))
  obtain⟨t2,rfl⟩:=hv j v hP
  have hS':=kp S _ (by simpa using hSI) hS
  show wpAny _ A.in1 (tryCatch (holding [Value.int (val j) t2,Value.int (val j) t2] (richCompare .Gt (.int (val j) t2) (.int z t) >>= _)) _ >>= _) _ _ _
  refine ro (wpAny_tryCatch (wpAny_holding (ro (CmpOf.ints_gt (prog:=prog) (w:=w) (A:=A.in1) (P:=fun i v=>∃ t,v=Value.int (if i=0 then val j else z) t) (fun i=>if i=0 then val j else z) (fun i v h=>h) 0 1 _ _ _ _ _ ⟨t2,rfl⟩ ⟨t,rfl⟩ ?_))))
  refine ro (wpAny_holding (wpAny_truthy_bool (ro (wpAny_letGo (rp ?_)))))
  by_cases g:val j > z
  ·simp only[if_true,Nat.one_ne_zero,if_false,g,decide_true]
   refine ro (wpAny_updateSeq hS' rfl (ro (wpAny_letGo ?_)))
   rw[nm]
   refine rp ⟨plainId_quiet bC _,ih (j+1) (val j) t2 _ _ (by lia) (by lia) (fun i hi=>?_) (W.frame _ _ _ st fun b hb o q=>?_).1 (W.frame _ _ _ st fun b hb o q=>?_).2 (get?_update_seq hS' _) fun z' t' h'' tk'' a1 a2=>hR z' t' h'' tk'' a1 fun b o hb hb' q=>a2 b o hb hb' ((aJ _ _ (Ne.symm hb')).trans (kp b o (by simpa using hb) q))⟩
   ·by_cases e:i=j
    ·rw[e]
     exact Int.le_refl _
    ·have:=hz i (by lia)
     lia
   all_goals
    refine (aJ _ _ (fun e:S=b=>?_)).trans q
    subst e
    rcases rH.mp hb with e | e
    ·exact hSI e
    ·exact hSl (rE.mp e)
  ·simp only[if_true,Nat.one_ne_zero,if_false,g,decide_false,bV]
   refine ro (wpAny_letGo ?_)
   rw[nm]
   refine rp ⟨plainId_quiet bC _,ih (j+1) z t _ _ (by lia) (by lia) (fun i hi=>?_) st.1 st.2 hS' fun z' t' h'' tk'' a1 a2=>hR z' t' h'' tk'' a1 fun b o hb hb' q=>a2 b o hb hb' (kp b o (by simpa using hb) q)⟩
   by_cases e:i=j
   ·rw[e]
    lia
   ·exact hz i (by lia)
theorem Xq(a v:Value):argsOk "max" ⟨[a],[(bA "default",v)]⟩:=by unfold argsOk;kernel_rfl
theorem YU{E:Value->Shared->Prop}{s:Shared}{Q:Value->Shared->Prop}(hh:A.handled=none)(xs:Array Value)(val:Nat->Int)(hv:∀ i v,xs[i]? = some v->∃ t,v=Value.int (val i) t)(hl:s.heap.IsList l xs)(d:Value)
  (h:∀ v h' tk,(xs.size=0->v=d)->(0<xs.size->∃ z t,v=Value.int z t/\∀ i,i<xs.size->val i<=z)->(∀ b o,s.heap.get? b=some o->h'.get? b=some o)->Q v { s with heap:=h',toks:=tk }) :
  wpAny (model prog w) A (call (.builtin "max") [.ref l] [(bA "default",d)]) Q E s:=by
 have nm:(toString "max" ++ toString ".loop" : String)="max.loop":=by decide
 have hlt:l<s.heap.objs.size:=by obtain⟨_,e,_⟩:=hl;exact ao e
 refine kmb_tree PySem.F.kind_max PySem.F.plain_max PySem.F.entry_max (Xq _ _) ?_
 show wpAny _ A.in1 (Builtin.Builtins.bindParams "max" ["key","default"] 0 ⟨[],[(bA "default",d)]⟩ >>= _) _ _ s
 refine ro (wpAny_of_eq (show Builtin.Builtins.bindParams "max" ["key","default"] 0 ⟨[],[(bA "default",d)]⟩=pure [none,some d] from rfl) (ro (rp ?_)))
 refine ro (wpAny_pyIter_list hl (ro (wpAny_newList ?_ (aP _))))
 rw[nm]
 refine rp ⟨plainId_quiet bC _,?_⟩
 have gI:(s.heap.push { cls:=.type "list_iterator",data:=.fields #[.ref l,.int 0 0] }).IsListIter s.heap.objs.size l 0:=⟨_,aH _ rfl,rfl,rfl⟩
 have gl:=hl.push { cls:=.type "list_iterator",data:=.fields #[.ref l,.int 0 0] }
 have kp0:∀ b o,s.heap.get? b=some o->(s.heap.push { cls:=.type "list_iterator",data:=.fields #[.ref l,.int 0 0] }).get? b=some o:=fun b o q=>af _ q
 have hsz:(s.heap.push { cls:=.type "list_iterator",data:=.fields #[.ref l,.int 0 0] }).objs.size=s.heap.objs.size+1:=bK _ _
 have hold:∀ b o,s.heap.get? b=some o->b<s.heap.objs.size:=fun b o q=>ao q
 have hlI:l≠s.heap.objs.size:=ay hlt
 generalize s.heap.push { cls:=.type "list_iterator",data:=.fields #[.ref l,.int 0 0] }=h1 at *
 generalize hIe:s.heap.objs.size=I at *
 have W:=Walks.list (prog:=prog) (w:=w) (A:=A.in1) hh I l hlI xs
 have gS:(h1.push { cls:=.type "list",data:=.seq ([]:List Value).toArray }).get? h1.objs.size=some (seqObj "list" #[] 0):=aH _ rfl
 have st0:=W.frame 0 _ (h1.push { cls:=.type "list",data:=.seq ([]:List Value).toArray }) ⟨gI,gl⟩ fun b _ o q=>af _ q
 have kp1:∀ b o,s.heap.get? b=some o->(h1.push { cls:=.type "list",data:=.seq ([]:List Value).toArray }).get? b=some o:=fun b o q=>af _ (kp0 b o q)
 have hSI:h1.objs.size≠I:=by rw[hsz];exact Nat.succ_ne_self I
 have hSl:h1.objs.size≠l:=by rw[hsz];exact cJ (cQ hlt)
 have hSb:∀ b o,s.heap.get? b=some o->b≠I/\b≠h1.objs.size:=fun b o q=>⟨ay (hold b o q),by rw[hsz];exact ay (cQ (hold b o q))⟩
 generalize h1.push { cls:=.type "list",data:=.seq ([]:List Value).toArray }=h2 at *
 generalize h1.objs.size=S at *
 refine codeAny_builtin (b:=Builtin.«max.loop») du ?_
 rw[Around.under_plainId (id:="max.loop") bC _]
 show wpAny _ A.in1 (seqItems? (Value.ref S) >>= _) _ _ _
 refine ro (wpAny_seqItems (items:=#[]) gS rfl ?_)
 show wpAny _ A.in1 (tryCatch (pyNext (Value.ref I)) _ >>= _) _ _ _
 by_cases hz:xs.size=0
 ·refine ro (wpAny_tryCatch (W.done _ _ _ (by rw[hz];exact st0) fun h' tk kp=>?_))
  show wpAny _ A.in1 (rule _ >>= fun _=>_) _ _ _
  refine ro (wpAny_rule (rp ?_))
  exact h d h' tk (fun _=>rfl) (fun q=>absurd q (by lia)) fun b o q=>kp b o (by simpa using (hSb b o q).1) (kp1 b o q)
 ·refine ro (wpAny_tryCatch (W.item 0 _ _ _ (by lia) st0 fun v h' tk hP st kp=>?_))
  obtain⟨t,rfl⟩:=hv 0 v hP
  have hS':=kp S _ (by simpa using hSI) gS
  show wpAny _ A.in1 (updateSeq S (fun _=>#[Value.int (val 0) t,Value.int (val 0) t]) >>= _) _ _ _
  refine ro (wpAny_updateSeq hS' rfl ?_)
  rw[nm]
  have st':=W.frame _ _ (h'.update S (Obj.mapSeq fun _=>#[Value.int (val 0) t,Value.int (val 0) t])) st fun b hb o q=>by
   refine (aJ _ _ (fun e:S=b=>?_)).trans q
   subst e
   rcases rH.mp hb with e | e
   ·exact hSI e
   ·exact hSl (rE.mp e)
  refine rp ⟨plainId_quiet bC _,Wh hh hlI hSI hSl xs val hv d _ 1 (val 0) t _ _ rfl (by lia) (fun i hi=>?_) st'.1 st'.2 (get?_update_seq hS' _) fun z' t' h'' tk'' a1 a2=>?_⟩
  ·have:i=0:=by lia
   rw[this]
   exact Int.le_refl _
  ·exact h _ h'' tk'' (fun q=>absurd q hz) (fun _=>⟨z',t',rfl,a1⟩) fun b o q=>a2 b o (hSb b o q).1 (hSb b o q).2 ((aJ _ _ (Ne.symm (hSb b o q).2)).trans (kp b o (by simpa using (hSb b o q).1) (kp1 b o q)))
end
section
variable{X:Cx}{id:String}{x:Str}{e:Expr}{es:List Expr}{kws:List Keyword}{ks:List Str}{p pos:Pos}{t tk:TA}
def VT(X:Cx)(id:String)(ks:List Str)(r:List V->List V->Hp->VK->Prop):Prop :=
 ∀(pins:List (Addr × Obj)) (s:Shared) (σ:L2.St) (H:Hp) (vs zs:List V) (us ws:List Value) (Q:VK),Inv X pins σ H s->Vals vs us->Vals zs ws->r vs zs H Q->wpAny (model X.prog X.w) X.A (call (.builtin id) us (ks.zip ws)) (EP X pins σ Q) X.xe s
def zaK(r:List V->List V->Hp->VK->Prop)(t tk:TA):TE:=fun σ H Q=>t σ H fun vs H1=>tk σ H1 fun zs H2=>r vs zs H2 Q
theorem XS{r:List V->List V->Hp->VK->Prop}(hc:VT X id ks r)(hg:Gl X x)(hm:X.mg x=none)(hv:bootBuiltins x=some (.builtin id))(ha:PA X (e::es) t)(hk:PK X kws tk)(hks:(backToKw pos (keywordEach kws X.env)).filterMap (·.1)=ks:=by rfl)(hn:x≠"__name__":=by decide)(hdb:(x == ("__debug__" : Str))=false:=by decide)
  (he:backTo pos (rA (e::es) X.env)=(false,eval e X.env)::backTo pos (rA es X.env):=by rfl) (hpl:(backTo pos (rA (e::es) X.env)).any (·.1)=false:=by rfl)
  (hall:(backToKw pos (keywordEach kws X.env)).all (·.1.isSome)=true:=by rfl) (hkw:(backToKw pos (keywordEach kws X.env)).any (·.1.isNone)=false:=by rfl):PE X (.Call (.Name x p) (e::es) kws pos) (zaK r t tk):=by
 intro pins s σ H Q I h
 refine wpAny_Call_Name_kw (ug I hg hm hv ?_ hn hdb)
 refine callWith_kw (thn (ha pos pins s σ H _ I h) fun us s1 ⟨vs,H1,I1,r1,q1⟩=>thn (hk pos pins s1 σ H1 _ I1 q1) fun ws s2 ⟨zs,H2,I2,r2,q2⟩=>?_) he hpl hall hkw
 rw[hks]
 exact hc pins s2 σ H2 vs zs us ws Q I2 r1 r2 q2
def Km(K:rC):List V->List V->Hp->VK->Prop:=fun vs zs H Q=>∃(a:Addr) (ns:List Int) (d:Int),vs=[.ref a]/\zs=[.int d]/\SqL K H a (ns.map V.int)/\∀ z:Int,(ns=[]->z=d)->(∀ n ∈ ns,n<=z)->Q (.int z) H
theorem JB(hc:X.calm=true):VT X "max" [bA "default"] (Km X.K):=by
 intro pins s σ H vs zs us ws Q I r1 r2 h
 obtain⟨a,ns,d,rfl,rfl,hS,q⟩:=h
 obtain⟨u,rfl,ru⟩:=wM r1
 cases ru
 obtain⟨w',rfl,td,rfl⟩:=wM r2
 obtain⟨its,rv,pl,hz⟩:=I.list hS
 have hlen:=rv.length
 rw[aa] at hlen
 have hat:∀(i:Nat) (v:Value),its.toArray[i]? = some v->∃ t,v=Value.int (ns.getD i 0) t:=fun i v hi=>by
  have hi':its[i]? = some v:=by simpa using hi
  have hil:=(rD.mp hi').1
  obtain⟨u,hu,t,rfl⟩:=yE rv (j:=i) (x:=.int (ns.getD i 0)) (by rw[au,aj,ag (by lia)];rfl)
  rw[hi'] at hu
  cases hu
  exact⟨t,rfl⟩
 refine YU (I.ok.hd hc) its.toArray (fun i=>ns.getD i 0) hat pl.isList (.int d td) fun v h' tk h0 h1 kp=>?_
 by_cases hn:ns=[]
 ·have:=h0 (by rw[ah,<- hlen,hn];rfl)
  subst this
  exact⟨.int d,H,I.kept kp,⟨_,rfl⟩,q d (fun _=>rfl) (fun n hm=>by rw[hn] at hm;cases hm)⟩
 ·obtain⟨z,t,rfl,hzz⟩:=h1 (by rw[ah,<- hlen];exact rS.mpr hn)
  refine⟨.int z,H,I.kept kp,⟨_,rfl⟩,q z (fun e=>absurd e hn) fun n hm=>?_⟩
  obtain⟨i,hi,rfl⟩:=List.getElem_of_mem hm
  have:=hzz i (by rw[ah,<- hlen];exact hi)
  rw[aj,ag hi] at this
  exact this
end
end L3
namespace L3
section
variable{prog:Program}{w:World}{A:Around}{R:Result->Shared->Prop}{I l S:Addr}
end
section
variable{X:Cx}
end
end L3
namespace L3
section
variable{prog:Program}{w:World}{A:Around}{R:Result->Shared->Prop}{I S:Addr}{fp wr:List Addr}{P:Nat->Value->Prop}{St:Nat->Heap->Prop}
end
section
variable{X:Cx}
end
end L3
namespace L3
section
variable{X:Cx}{k j:Nat}{C:Addr}{m:Str}{ps:List Str}{sp:Sp}{o e:Expr}{es:List Expr}{ta:TE}{t:TA}{apos pos p:Pos}{x:Str}{E:XK}
end
end L3
namespace L3
def zaj(y l:List Nat)(e:Nat):Prop:=e+y.length<=l.length/\(l.drop e).take y.length=y
noncomputable instance (y l:List Nat) (e:Nat):Decidable (zaj y l e):=by unfold zaj;infer_instance
noncomputable def zbb(y l:List Nat):Option (List Nat × List Nat):=((az (l.length+1)).find? fun e=>decide (zaj y l e)).map fun e=>(l.take e,l.drop (e+y.length))
end L3
namespace L3
structure DMD(P:Program)(w:World)(K:rC)(mg:Str->Option Value)(base:Heap)(CX:CXT)(k:Nat)(C:Addr)(m:Str)(ps:List Str)(ds:List Value)(sp:Sp):Prop where
 ex:∃ f fd,QI K C m f/\FnOk P w K mg base CX k f fd ps sp/\Binds K fd ps ds
end L3
namespace L3
section
variable{X:Cx}
end
end L3
namespace L3
section
variable{X:Cx}
end
end L3
namespace L3
section
variable{X:Cx}
end
end L3
namespace L3
section
variable{X:Cx}
end
end L3
namespace L3
section
variable{X:Cx}
end
end L3
namespace L3
section
variable{g:TG}{tt:TT}{te:TE}{own:Nat}{ix:List Nat}{σ:L2.St}{H1:Hp}{Q:VK}{D:Addr}
end
end L3
namespace L3
section
variable{X:Cx}
end
end L3
namespace L3
open PySem PySem.W PyProof.Rows
noncomputable def zax(lt:Nat->Nat->Bool){α:Type}:KasT α->α
 | .ret a=>a
 | .ask i j k=>zax lt (k (lt i j))
def Kok(lt:Nat->Nat->Bool)(n:Nat){α:Type}:KasT α->(α->Prop)->Prop
 | .ret a,Q=>Q a
 | .ask i j k,Q=>i<n/\j<n/\Kok lt n (k (lt i j)) Q
section
variable{lt:Nat->Nat->Bool}{n:Nat}{α β:Type}
theorem Kok.mono{Q Q':α->Prop}(hq:∀ a,Q a->Q' a):∀(t:KasT α),Kok lt n t Q->Kok lt n t Q'
 | .ret a,h=>hq a h
 | .ask _ _ k,h=>⟨h.1,h.2.1,Kok.mono hq (k _) h.2.2⟩
theorem Kok.bind{f:α->KasT β}{Q:β->Prop}:∀(t:KasT α),Kok lt n t (fun a=>Kok lt n (f a) Q)->Kok lt n (t.bind f) Q
 | .ret _,h=>h
 | .ask _ _ k,h=>⟨h.1,h.2.1,Kok.bind (k _) h.2.2⟩
theorem Kok.run{Q:α->Prop}:∀(t:KasT α),Kok lt n t Q->Q (zax lt t)
 | .ret _,h=>h
 | .ask _ _ k,h=>Kok.run (k _) h.2.2
theorem Kok.wp{cmp:Nat->Nat->(Bool->Shared->Prop)->Shared->Prop}{I:Shared->Prop}(hc:∀ i j C s,i<n->j<n->I s->(∀ s',I s'->C (lt i j) s')->cmp i j C s){Q:α->Prop}{R:α->Shared->Prop}
  (hR:∀ a s,Q a->I s->R a s):∀(t:KasT α) (s:Shared),I s->Kok lt n t Q->t.kasWp cmp R s
 | .ret a,s,hI,h=>hR a s h hI
 | .ask i j k,s,hI,h=>hc i j _ s h.1 h.2.1 hI fun s' hI'=>Kok.wp hc hR (k _) s' hI' h.2.2
end
structure Wk(lt:Nat->Nat->Bool):Prop where
 asym:∀ a b,lt a b=true->lt b a=false
 ntr:∀ a b c,lt b a=false->lt c b=false->lt c a=false
section
variable{lt:Nat->Nat->Bool}{n:Nat}
abbrev Lq(lt:Nat->Nat->Bool)(a b:Nat):Prop:=lt b a=false
theorem Wk.refl(W:Wk lt)(a:Nat):Lq lt a a:=by
 cases h:lt a a with
 | false=>exact h
 | true=>exact absurd h (by rw[W.asym a a h];decide)
noncomputable abbrev pg(p:Array Nat)(i:Nat):Nat:=p.getD i 0
theorem Yr(p:Array Nat)(i:Nat):pg p i=(p[i]?).getD 0:=by simp [pg,Array.getD_eq_getD_getElem?]
def Up(lt:Nat->Nat->Bool)(p:Array Nat)(m:Nat):Prop:=∀ i j,i<j->j<m->Lq lt (pg p i) (pg p j)
def Dn(lt:Nat->Nat->Bool)(p:Array Nat)(m:Nat):Prop:=∀ i j,i<j->j<m->Lq lt (pg p j) (pg p i)
def Rg(n:Nat)(p:Array Nat):Prop:=p.toList.Perm (az n)
theorem Rg.size{p:Array Nat}(h:Rg n p):p.size=n:=by have:=h.length_eq;simpa using this
theorem Rg.bd{p:Array Nat}(h:Rg n p){i:Nat}(hi:i<n):pg p i<n:=by
 have hs:=h.size
 have hi':i<p.size:=by lia
 have e:pg p i=p[i]:=by simp [pg,eW,hi']
 rw[e]
 have hm:p[i] ∈ p.toList:=Array.mem_toList_iff.mpr (Array.getElem_mem hi')
 exact rJ.mp (h.mem_iff.mp hm)
theorem wC{p:Array Nat}{i j:Nat}(hj:j<=p.size)(k:Nat):pg (kas_rev p i j) k=if i<=k/\k<j then pg p (i+j - 1 - k) else pg p k:=by
 rw[Yr,kas_rev,getElem?_mirror_all hj]
 split <;> rw[Yr]
theorem Rg.rev{p:Array Nat}(h:Rg n p)(i j:Nat):Rg n (kas_rev p i j):=(Array.perm_iff_toList_perm.mp (mirror_perm p i j _)).trans h
theorem Rg.bub{p:Array Nat}(h:Rg n p)(i j:Nat):Rg n (bubble p i j):=(Array.perm_iff_toList_perm.mp (bubble_perm p i j)).trans h
theorem Wb(W:Wk lt){p:Array Nat}(hp:Rg n p):∀(f k:Nat),1<=k->k+f<=n->Up lt p k->Kok lt n (kas_asc p f k) (fun m=>k<=m/\m<=k+f/\Up lt p m/\(m=k+f\/lt (pg p m) (pg p (m - 1))=true))
 | 0,k,h1,h2,hu=>⟨by lia,by lia,hu,Or.inl (by lia)⟩
 | f+1,k,h1,h2,hu=>by
  refine⟨hp.bd (by lia),hp.bd (by lia),?_⟩
  rcases ci (lt (pg p k) (pg p (k - 1))) with hc | hc
  ·show Kok lt n (if lt (pg p k) (pg p (k - 1))=true then .ret k else _) _
   rw[if_pos hc]
   exact⟨by lia,by lia,hu,Or.inr hc⟩
  ·show Kok lt n (if lt (pg p k) (pg p (k - 1))=true then .ret k else _) _
   rw[if_neg (by rw[hc];decide)]
   refine (Wb W hp f (k+1) (by lia) (by lia) fun i j hij hj=>?_).mono (fun m hm=>⟨by lia,by lia,hm.2.2.1,?_⟩) _
   ·by_cases e:j=k
    ·subst e
     by_cases e2:i=j - 1
     ·subst e2;exact hc
     ·exact W.ntr _ _ _ (hu i (j - 1) (by lia) (by lia)) hc
    ·exact hu i j hij (by lia)
   ·rcases hm.2.2.2 with h | h
    ·exact Or.inl (by lia)
    ·exact Or.inr h
def Ev(lt:Nat->Nat->Bool)(p:Array Nat)(a b:Nat):Prop:=∀ i j,a<=i->i<b->a<=j->j<b->Lq lt (pg p i) (pg p j)
theorem VW{p:Array Nat}{m q:Nat}(hm:m<=p.size)(hq:q+1<=m)(hd:Dn lt p m)(he:Ev lt p (m - (q+1)) m):Dn lt (kas_rev p (m - (q+1)) m) m:=by
 intro i j hij hj
 rw[wC hm,wC hm]
 by_cases h1:m - (q+1)<=i
 ·rw[if_pos (show m - (q+1)<=i/\i<m by lia),if_pos (show m - (q+1)<=j/\j<m by lia)]
  exact he _ _ (by lia) (by lia) (by lia) (by lia)
 ·rw[if_neg (show ¬ (m - (q+1)<=i/\i<m) by lia)]
  split
  ·exact hd _ _ (by lia) (by lia)
  ·exact hd _ _ (by lia) (by lia)
theorem ju(W:Wk lt):∀(f:Nat) (p:Array Nat) (k q:Nat),Rg n p->1<=k->k+f<=n->q+1<=k->Dn lt p k->Ev lt p (k - (q+1)) k ->
  Kok lt n (kas_desc f p k q) (fun r=>Rg n r.1/\k<=r.2.1/\r.2.1<=k+f/\r.2.2+1<=r.2.1/\Dn lt r.1 r.2.1/\Ev lt r.1 (r.2.1 - (r.2.2+1)) r.2.1)
 | 0,p,k,q,hp,h1,h2,hq,hd,he=>⟨hp,ar _,cu _ _,hq,hd,he⟩
 | f+1,p,k,q,hp,h1,h2,hq,hd,he=>by
  have hps:=hp.size
  refine⟨hp.bd (by lia),hp.bd (by lia),?_⟩
  have one:∀(p:Array Nat),Ev lt p (k+1 - (0+1)) (k+1):=fun p i j a b c d=>by
   have:i=j:=by lia
   subst this
   exact W.refl _
  rcases ci (lt (pg p k) (pg p (k - 1))) with hc | hc
  ·show Kok lt n (if lt (pg p k) (pg p (k - 1))=true then _ else _) _
   rw[if_pos hc]
   have hle:Lq lt (pg p k) (pg p (k - 1)):=W.asym _ _ hc
   split
   ·rename_i hq0
    refine (ju W f _ (k+1) 0 (hp.rev _ _) (by lia) (by lia) (by lia) (fun i j hij hj=>?_) (one _)).mono (fun r hr=>⟨hr.1,by lia,by lia,hr.2.2.2⟩) _
    by_cases e:j=k
    ·subst e
     rw[wC (by lia),wC (by lia),if_neg (by lia)]
     split
     ·exact W.ntr _ _ _ hle (he _ _ (by lia) (by lia) (by lia) (by lia))
     ·exact W.ntr _ _ _ hle (hd _ _ (by lia) (by lia))
    ·exact VW (by lia) hq hd he i j hij (by lia)
   ·refine (ju W f _ (k+1) 0 hp (by lia) (by lia) (by lia) (fun i j hij hj=>?_) (one _)).mono (fun r hr=>⟨hr.1,by lia,by lia,hr.2.2.2⟩) _
    by_cases e:j=k
    ·subst e
     by_cases e2:i=j - 1
     ·subst e2;exact hle
     ·exact W.ntr _ _ _ hle (hd i (j - 1) (by lia) (by lia))
    ·exact hd i j hij (by lia)
  ·show Kok lt n (if lt (pg p k) (pg p (k - 1))=true then _ else _) _
   rw[if_neg (by rw[hc];decide)]
   refine⟨hp.bd (by lia),hp.bd (by lia),?_⟩
   rcases ci (lt (pg p (k - 1)) (pg p k)) with hd2 | hd2
   ·show Kok lt n (if lt (pg p (k - 1)) (pg p k)=true then _ else _) _
    rw[if_pos hd2]
    exact⟨hp,ar _,cu _ _,hq,hd,he⟩
   ·show Kok lt n (if lt (pg p (k - 1)) (pg p k)=true then _ else _) _
    rw[if_neg (by rw[hd2];decide)]
    refine (ju W f _ (k+1) (q+1) hp (by lia) (by lia) (by lia) (fun i j hij hj=>?_) (fun i j a b c d=>?_)).mono (fun r hr=>⟨hr.1,by lia,by lia,hr.2.2.2⟩) _
    ·by_cases e:j=k
     ·subst e
      by_cases e2:i=j - 1
      ·subst e2;exact hd2
      ·exact W.ntr _ _ _ hd2 (hd i (j - 1) (by lia) (by lia))
     ·exact hd i j hij (by lia)
    ·have b1:∀ i,k+1 - (q+1+1)<=i->i<k->Lq lt (pg p i) (pg p (k - 1))/\Lq lt (pg p (k - 1)) (pg p i):=fun i a b=>⟨he _ _ (by lia) (by lia) (by lia) (by lia),he _ _ (by lia) (by lia) (by lia) (by lia)⟩
     by_cases e:j=k
     ·subst e
      by_cases e3:i=j
      ·subst e3;exact W.refl _
      ·exact W.ntr _ _ _ (b1 i (by lia) (by lia)).1 hc
     ·by_cases e3:i=k
      ·subst e3
       exact W.ntr _ _ _ hd2 (b1 j (by lia) (by lia)).2
      ·exact he _ _ (by lia) (by lia) (by lia) (by lia)
theorem ZM(W:Wk lt){p:Array Nat}{m:Nat}(hp:Rg n p)(h1:1<=m)(hm:m<=n)(hd:Dn lt p m):Kok lt n (kas_tail3 m n p) (fun r=>Rg n r.2/\1<=r.1/\r.1<=n/\Up lt r.2 r.1):=by
 have hps:=hp.size
 unfold kas_tail3
 refine Kok.bind _ ((Wb W (hp.rev 0 m) (n - m) m h1 (by lia) fun i j hij hj=>?_).mono (fun k hk=>⟨hp.rev 0 m,by show 1<=k;lia,by show k<=n;lia,hk.2.2.1⟩) _)
 rw[wC (by lia),wC (by lia),if_pos (by lia),if_pos (by lia)]
 exact hd _ _ (by lia) (by lia)
theorem u7(W:Wk lt){p:Array Nat}{m:Nat}(hp:Rg n p)(h1:1<=m)(hm:m+1<=n)(hd:Dn lt p (m+1)):Kok lt n (kas_descPart m n p) (fun r=>Rg n r.2/\1<=r.1/\r.1<=n/\Up lt r.2 r.1):=by
 unfold kas_descPart
 refine Kok.bind _ ((ju W (n - (m+1)) p (m+1) 0 hp (by lia) (by lia) (by lia) hd fun i j a b c d=>?_).mono (fun r hr=>?_) _)
 ·have:i=j:=by lia
  subst this
  exact W.refl _
 ·obtain⟨r1,r2,r3,r4,r5,r6⟩:=hr
  have hs:=r1.size
  (try dsimp only)
  split
  ·exact ZM W (r1.rev _ _) (by lia) (by lia) (VW (by lia) r4 r5 r6)
  ·exact ZM W r1 (by lia) (by lia) r5
theorem Vd(W:Wk lt){p:Array Nat}(hp:Rg n p)(hn:1<=n):Kok lt n (kas_count n p) (fun r=>Rg n r.2/\1<=r.1/\r.1<=n/\Up lt r.2 r.1):=by
 have hps:=hp.size
 unfold kas_count
 refine Kok.bind _ ((Wb W hp (n - 1) 1 (ar _) (by lia) fun i j hij hj=>by lia).mono (fun m hm=>?_) _)
 obtain⟨m1,m2,mu,ms⟩:=hm
 by_cases e:(m == n)=true
 ·rw[if_pos e]
  exact⟨hp,by show 1<=m;lia,by show m<=n;lia,mu⟩
 ·rw[if_neg e]
  have hne:m≠n:=fun h=>e (by rw[h];exact beq_self_eq_true _)
  have hlt:lt (pg p m) (pg p (m - 1))=true:=by
   rcases ms with h | h
   ·lia
   ·exact h
  have hle:Lq lt (pg p m) (pg p (m - 1)):=W.asym _ _ hlt
  by_cases h1:m > 1
  ·rw[if_pos h1]
   refine⟨hp.bd (by lia),hp.bd (by lia),?_⟩
   rcases ci (lt (pg p 0) (pg p (m - 1))) with hc | hc
   ·show Kok lt n (if lt (pg p 0) (pg p (m - 1))=true then _ else _) _
    rw[if_pos hc]
    exact⟨hp,by show 1<=m;lia,by show m<=n;lia,mu⟩
   ·show Kok lt n (if lt (pg p 0) (pg p (m - 1))=true then _ else _) _
    rw[if_neg (by rw[hc];decide)]
    have u0:∀ i,i<m->Lq lt (pg p 0) (pg p i):=fun i hi=>by
     by_cases h:i=0
     ·subst h;exact W.refl _
     ·exact mu 0 i (by lia) hi
    have ul:∀ i,i<m->Lq lt (pg p i) (pg p (m - 1)):=fun i hi=>by
     by_cases h:i=m - 1
     ·subst h;exact W.refl _
     ·exact mu i (m - 1) (by lia) (by lia)
    have ev:∀ i j,i<m->j<m->Lq lt (pg p i) (pg p j):=fun i j hi hj=>W.ntr _ _ _ (ul i hi) (W.ntr _ _ _ hc (u0 j hj))
    refine u7 W (hp.rev 0 m) (by lia) (by lia) fun i j hij hj=>?_
    by_cases h:j=m
    ·subst h
     rw[wC (by lia),wC (by lia),if_neg (by lia),if_pos (by lia)]
     exact W.ntr _ _ _ hle (ev _ _ (by lia) (by lia))
    ·rw[wC (by lia),wC (by lia),if_pos (by lia),if_pos (by lia)]
     exact ev _ _ (by lia) (by lia)
  ·rw[if_neg h1]
   refine u7 W hp (by lia) (by lia) fun i j hij hj=>?_
   have h0:i=m - 1:=by lia
   have h1:j=m:=by lia
   subst h0 h1
   exact hle
theorem jy(W:Wk lt){p:Array Nat}(hp:Rg n p){k:Nat}(hk:k<n)(hu:Up lt p k):∀(f l r:Nat),l<=r->r<=k->r - l<=f->(∀ i,i<l->Lq lt (pg p i) (pg p k))->(∀ i,r<=i->i<k->Lq lt (pg p k) (pg p i)) ->
  Kok lt n (kas_place p k f l r) (fun m=>m<=k/\(∀ i,i<m->Lq lt (pg p i) (pg p k))/\(∀ i,m<=i->i<k->Lq lt (pg p k) (pg p i)))
 | 0,l,r,hl,hr,hf,h1,h2=>by
  have:l=r:=by lia
  subst this
  exact⟨hr,h1,h2⟩
 | f+1,l,r,hl,hr,hf,h1,h2=>by
  unfold kas_place
  by_cases e:l ≥ r
  ·rw[if_pos e]
   have:l=r:=by lia
   subst this
   exact⟨hr,h1,h2⟩
  ·rw[if_neg e]
   refine⟨hp.bd hk,hp.bd (by lia),?_⟩
   rcases ci (lt (pg p k) (pg p ((l+r) / 2))) with hc | hc
   ·show Kok lt n (if lt (pg p k) (pg p ((l+r) / 2))=true then _ else _) _
    rw[if_pos hc]
    refine jy W hp hk hu f l ((l+r) / 2) (by lia) (by lia) (by lia) h1 fun i hi hik=>?_
    by_cases e2:i=(l+r) / 2
    ·subst e2;exact W.asym _ _ hc
    ·exact W.ntr _ _ _ (W.asym _ _ hc) (hu _ _ (by lia) hik)
   ·show Kok lt n (if lt (pg p k) (pg p ((l+r) / 2))=true then _ else _) _
    rw[if_neg (by rw[hc];decide)]
    refine jy W hp hk hu f ((l+r) / 2+1) r (by lia) hr (by lia) (fun i hi=>?_) h2
    by_cases e2:i=(l+r) / 2
    ·subst e2;exact hc
    ·exact W.ntr _ _ _ (hu i ((l+r) / 2) (by lia) (by lia)) hc
theorem Us{p:Array Nat}{k l:Nat}(hk:k<p.size)(hl:l<=k)(i:Nat):pg (bubble p k (k - l)) i=if i=l then pg p k else if l<i/\i<=k then pg p (i - 1) else pg p i:=by
 have e:k - (k - l)=l:=by lia
 rw[Yr,getElem?_bubble hk (k - l) (by lia),e]
 by_cases h:i=l
 ·rw[if_pos h,if_pos h];exact (Yr p k).symm
 ·rw[if_neg h,if_neg h]
  by_cases h':l<i/\i<=k
  ·rw[if_pos h',if_pos h'];exact (Yr p (i - 1)).symm
  ·rw[if_neg h',if_neg h'];exact (Yr p i).symm
theorem Uh(W:Wk lt):∀(f:Nat) (p:Array Nat) (k:Nat),Rg n p->k+f=n->Up lt p k->Kok lt n (kas_bin f p k) (fun p'=>Rg n p'/\Up lt p' n)
 | 0,p,k,hp,hk,hu=>by
  have:k=n:=by lia
  subst this
  exact⟨hp,hu⟩
 | f+1,p,k,hp,hk,hu=>by
  have hps:=hp.size
  refine Kok.bind _ ((jy W hp (by lia) hu k 0 k (by lia) (by lia) (by lia) (fun i hi=>by lia) (fun i h1 h2=>by lia)).mono (fun l hl=>?_) _)
  obtain⟨l1,l2,l3⟩:=hl
  refine Uh W f _ (k+1) (hp.bub _ _) (by lia) fun i j hij hj=>?_
  rw[Us (by lia) l1,Us (by lia) l1]
  by_cases h1:i=l
  ·rw[if_pos h1,if_neg (by lia),if_pos (by lia)]
   exact l3 _ (by lia) (by lia)
  ·rw[if_neg h1]
   by_cases h2:j=l
   ·rw[if_pos h2,if_neg (by lia)]
    exact l2 _ (by lia)
   ·rw[if_neg h2]
    by_cases h3:l<i/\i<=k
    ·rw[if_pos h3,if_pos (by lia)]
     exact hu _ _ (by lia) (by lia)
    ·rw[if_neg h3]
     by_cases h4:l<j/\j<=k
     ·rw[if_pos h4]
      by_cases h5:i=j - 1
      ·lia
      ·exact hu _ _ (by lia) (by lia)
     ·rw[if_neg h4]
      exact hu _ _ (by lia) (by lia)
theorem Qc(W:Wk lt)(hn:1<=n):Kok lt n (kas_sort n) (fun p=>Rg n p/\Up lt p n):=by
 unfold kas_sort
 refine Kok.bind _ ((Vd W (p:=bg (az n)) (by unfold Rg;exact List.Perm.refl _) hn).mono (fun r hr=>?_) _)
 obtain⟨r1,r2,r3,r4⟩:=hr
 (try dsimp only)
 split
 ·have:max r.1 1=r.1:=by lia
  rw[this]
  exact Uh W _ _ _ r1 (by lia) r4
 ·have:r.1=n:=by lia
  rw[this] at r4
  exact⟨r1,r4⟩
end
noncomputable def srt{α:Type}(lt:α->α->Bool)(d:α)(xs:List α):List α :=
 if xs.length<2 then xs else (zax (fun i j=>lt (xs.getD i d) (xs.getD j d)) (kas_sort xs.length)).toList.map fun i=>xs.getD i d
structure WkO{α:Type}(lt:α->α->Bool):Prop where
 asym:∀ a b,lt a b=true->lt b a=false
 ntr:∀ a b c,lt b a=false->lt c b=false->lt c a=false
end L3
namespace L3
structure KeyFam(α:Type) where
 dec:α->List D
 lt:α->α->Bool
 fst:Bool
 d0:α
structure KeyFam.Ok{α:Type}(F:KeyFam α):Prop where
 w:WkO F.lt
 eq:∀ a b,qj (F.dec a) (F.dec b)=F.lt a b
 ok:∀ a b,ko (F.dec a) (F.dec b)
 dp:∀ a,va (F.dec a)<40
 sh:∀ a,∃ d r,F.dec a=d::r/\((F.fst=true/\∃ n,d=.int n)\/(F.fst=false/\∃ l,d=.tup l))
section
variable{X:Cx}{pins:List (Addr × Obj)}{σ:L2.St}{H:Hp}{s:Shared}
theorem Inv.repin{b:Addr}{o o':Obj}{h':Heap}(I:Inv X (pins ++ [(b,o)]) σ H s)(hs:X.s₀.heap.objs.size<=b)(hn:∀ p ∈ X.pn ++ pins,p.1≠b)(sb:Heap.SameBut b s.heap h')(ho:h'.get? b=some o')(hd:∀ v,o'.data≠.cell v) :
  Inv X (pins ++ [(b,o')]) σ H { s with heap:=h' }:=by
 have I1:Inv X pins σ H s:=I.unpinned
 obtain⟨p1,p2,p3,p4,p5⟩:=I.pin (b,o) (aF _ (aF _ (rE.mpr rfl)))
 have I2:Inv X pins σ H { s with heap:=h' }:=Inv.turns I1 (fp:=[b]) (t':=s.toks) (fun b' u hb e=>(sb.2 b' (by simpa using hb)).trans e) fun b' hb=>by
  have e:b'=b:=by simpa using hb
  subst e
  refine⟨p2,p3,p4,.inr hs,fun x c e z=>?_,hn⟩
  obtain⟨v,o1,ho1,hd1⟩:=I.cell x c e
  subst z
  rw[p1] at ho1
  cases ho1
  exact p5 v hd1
 exact I2.pins_of fun p hp=>by
  rcases rF.mp hp with z | z
  ·exact I2.pin p (aF _ z)
  ·have e:p=(b,o'):=by simpa using z
   subst e
   exact⟨ho,p2,p3,p4,hd⟩
theorem Inv.newpin{b:Addr}{o:Obj}(I:Inv X pins σ H s)(hf:wT X pins H b)(ho:s.heap.get? b=some o)(hd:∀ v,o.data≠.cell v):Inv X (pins ++ [(b,o)]) σ H s :=
 I.pins_of fun p hp=>by
  rcases rF.mp hp with z | z
  ·exact I.pin p (aF _ z)
  ·have e:p=(b,o):=by simpa using z
   subst e
   exact⟨ho,hf.1,hf.2.1,hf.2.2.1,hd⟩
theorem JD(I:Inv X pins σ H s){A:Around}{b:Bool}{Q:Bool->Shared->Prop}(hu:A.units+50<cLine):∀(l m:List D) (xs ys:List V) (its its':List Value) (i:Nat),Iss X.K H l xs->Iss X.K H m ys->Vals xs its->Vals ys its'->ko l m->va l<40 ->
  (b=true->i=0->(∃ n r,l=.int n::r)/\∃ n r,m=.int n::r)->Q (qj l m) s->PySem.W.KatLex X.prog X.w A b (decide (its.length<its'.length)) Q (its.zip its') i s
 | [],m,xs,ys,its,its',i,h1,h2,r1,r2,ok,hd,hb,q=>by
  simp only[Iss] at h1
  subst h1
  cases r1
  have e:qj [] m=decide (([]:List Value).length<its'.length):=by
   have e1:=h2.len
   have e2:=r2.length
   have e3:m.length=its'.length:=by lia
   rw[<- e3]
   cases m with
   | nil=>simp [qj]
   | cons _ _=>simp [qj]
  rw[e] at q
  rw[List.zip_nil_left]
  exact fM q
 | d::l,[],xs,ys,its,its',i,h1,h2,r1,r2,ok,hd,hb,q=>by
  simp only[Iss] at h2
  subst h2
  cases r2
  simp only[qj] at q
  rw[List.zip_nil_right]
  exact fM (by simpa using q)
 | d::l,e::m,xs,ys,its,its',i,h1,h2,r1,r2,ok,hd,hb,q=>by
  simp only[Iss] at h1 h2
  obtain⟨x,xr,rfl,hx,hxr⟩:=h1
  obtain⟨y,yr,rfl,hy,hyr⟩:=h2
  cases r1 with | cons rx rxr =>
  cases r2 with | cons ry ryr =>
  simp only[ko] at ok
  simp only[va] at hd
  rename_i u us v vs
  rw[dY]
  refine PySem.W.kat_cons (vJ I 45 A d e x y u v (by lia) (by lia) hx hy rx ry X.prog X.w _ _ ?_)
  cases he:eqD d e with
  | true =>
   refine PySem.W.kat_yes ?_
   have:=JD I (b:=b) hu l m xr yr us vs (i+1) hxr hyr rxr ryr ok.2 (by lia) (fun _ z=>absurd z (by lia)) (by simpa only[qj,he,if_true] using q)
   simpa using this
  | false =>
   refine PySem.W.kat_no ?_
   have q':Q (ltD d e) s:=by simpa only[qj,he,bV,if_false] using q
   by_cases hbi:(b && i == 0)=true
   ·rw[hbi]
    simp only[cK,beq_iff_eq] at hbi
    obtain⟨⟨n,r,e1⟩,n',r',e2⟩:=hb hbi.1 hbi.2
    cases e1;cases e2
    simp only[Is] at hx hy
    subst hx hy
    obtain⟨t,rfl⟩:=rx
    obtain⟨t',rfl⟩:=ry
    simp only[ltD] at q'
    exact oneLt_int q'
   ·rw[show (b && i == 0)=false by simpa using hbi]
    exact PySem.W.kat_one _ _ (Ud I 45 A d e x y u v (by lia) (by lia) ok.1 hx hy rx ry X.prog X.w _ _ q')
theorem Qn(I:Inv X pins σ H s){A:Around}{b:Bool}{Q:Bool->Shared->Prop}{E:Value->Shared->Prop}(hu:A.units+50<cLine){l m:List D}{x y:V}{u v:Value}(hx:Is X.K H (.tup l) x)(hy:Is X.K H (.tup m) y)(rx:RelV x u)(ry:RelV y v)
  (ok:ko l m) (hd:va l<40) (hb:b=true->(∃ n r,l=.int n::r)/\∃ n r,m=.int n::r) (q:Q (qj l m) s):wpAny (model X.prog X.w) A (keyLt' (tuples' b) u v) Q E s:=by
 simp only[Is] at hx hy
 obtain⟨a,xs,rfl,h1,h2⟩:=hx
 obtain⟨c,ys,rfl,g1,g2⟩:=hy
 cases rx;cases ry
 obtain⟨its,r,⟨o,ho,hoc,n,hod⟩,_⟩:=I.tuple h1
 obtain⟨its',r',⟨o',ho',hoc',n',hod'⟩,_⟩:=I.tuple g1
 refine PySem.W.kat_lt ho hod ho' hod' ?_
 have:=JD I (A:=A) (b:=b) (Q:=Q) hu l m xs ys its its' 0 h2 g2 r r' ok hd (fun z _=>hb z) q
 simpa using this
theorem Uo{α:Type}{F:KeyFam α}(FO:F.Ok)(I:Inv X pins σ H s){M:Model}:∀(rs:List α) (acc:List V) (ks:List Value),Iss X.K H (rs.map fun a=>.tup (F.dec a)) acc->Vals acc ks ->
  ∃ fs,PySem.W.KatTups s.heap ks fs/\fs.length=rs.length/\∀ v ∈ fs,PySem.W.Looks M s.heap (typeOf v) (.type (if F.fst=true then "int" else "tuple"))
 | [],acc,ks,h,r=>by
  simp only[ba,Iss] at h
  subst h
  cases r
  exact⟨[],PySem.W.KatTups.nil,rfl,fun v hv=>by cases hv⟩
 | a::rs,acc,ks,h,r=>by
  simp only[ax,Iss] at h
  obtain⟨x,xr,rfl,hx,hxr⟩:=h
  cases r with | cons rx rxr =>
  rename_i u us
  obtain⟨fs,t1,t2,t3⟩:=Uo FO I (M:=M) rs xr us hxr rxr
  simp only[Is] at hx
  obtain⟨c,xs,rfl,h1,h2⟩:=hx
  cases rx
  obtain⟨its,ri,⟨o,ho,hoc,n,hod⟩,_⟩:=I.tuple h1
  obtain⟨d,dr,ed,hsh⟩:=FO.sh a
  rw[ed] at h2
  simp only[Iss] at h2
  obtain⟨y,yr,rfl,hy,_⟩:=h2
  cases ri with | cons ry rir =>
  rename_i v vs
  refine⟨v::fs,PySem.W.KatTups.cons ho hoc hod (by simp) t1,by simp [t2],fun z hz=>?_⟩
  rcases rH.mp hz with e | hz
  ·subst e
   rcases hsh with ⟨hf,n',rfl⟩ | ⟨hf,l,rfl⟩
   ·rw[if_pos hf]
    simp only[Is] at hy
    subst hy
    obtain⟨t,rfl⟩:=ry
    exact PySem.W.Looks.of_pure rfl
   ·rw[if_neg (by rw[hf];decide)]
    simp only[Is] at hy
    obtain⟨c',xs',rfl,g1,_⟩:=hy
    cases ry
    obtain⟨its',ri',⟨o',ho',hoc',n',hod'⟩,_⟩:=I.tuple g1
    rw[<- hoc']
    exact (PySem.W.Looks.ld ho').andThen .now
  ·exact t3 z hz
end
def Yz{α:Type}(K:rC)(F:KeyFam α)(xs:List V)(Q:VK):List V->Hp->Prop:=fun acc H'=>∃ rs:List α,Iss K H' (rs.map fun a=>.tup (F.dec a)) acc /\
 ∀ ys:List (α × V),ys.Perm (rs.zip xs)->ys.Pairwise (fun p q=>F.lt q.1 p.1=false)->∀ D,H' D=none->Q (.ref D) (upd H' D (.lst (ys.map (·.2))))
theorem WD{β:Type}{g:β->β->Bool}{d:β}{zs:List β}{p:Array Nat}(h1:Rg zs.length p)(h2:Up (fun i j=>g (zs.getD i d) (zs.getD j d)) p zs.length) :
  (p.toList.map fun i=>zs.getD i d).Perm zs/\(p.toList.map fun i=>zs.getD i d).Pairwise fun a b=>g b a=false:=by
 have e:(az zs.length).map (fun i=>zs.getD i d)=zs:=by
  refine List.ext_getElem (by simp) fun i a b=>?_
  have hb:i<zs.length:=by simpa using b
  simp [hb]
 refine⟨(h1.map (fun i=>zs.getD i d)).trans (by rw[e]),?_⟩
 rw[bO,cH]
 intro i j hi hj hij
 have hs:=h1.size
 have hi':i<p.size:=by simpa using hi
 have hj':j<p.size:=by simpa using hj
 have q:=h2 i j hij (by lia)
 have ei:pg p i=p.toList[i]:=by simp [pg,eW,hi']
 have ej:pg p j=p.toList[j]:=by simp [pg,eW,hj']
 rw[ei,ej] at q
 exact q
end L3
namespace L3
section
variable{X:Cx}{pins:List (Addr × Obj)}{σ:L2.St}{H:Hp}{s:Shared}
theorem Inv.fp_of_pin{b:Addr}{o:Obj}(I:Inv X (pins ++ [(b,o)]) σ H s)(hs:X.s₀.heap.objs.size<=b)(hn:∀ p ∈ X.pn ++ pins,p.1≠b):wT X pins H b:=by
 obtain⟨p1,p2,p3,p4,p5⟩:=I.pin (b,o) (aF _ (aF _ (rE.mpr rfl)))
 refine⟨p2,p3,p4,.inr hs,fun x c e z=>?_,hn⟩
 obtain⟨v,o1,ho1,hd1⟩:=I.cell x c e
 subst z
 rw[p1] at ho1
 cases ho1
 exact p5 v hd1
theorem Inv.at_pin{b:Addr}{o:Obj}(I:Inv X (pins ++ [(b,o)]) σ H s):s.heap.get? b=some o:=(I.pin (b,o) (aF _ (aF _ (rE.mpr rfl)))).1
theorem y8{c:String}{xs:Array Value}{n:Nat}:∀ v,(seqObj c xs n).data≠.cell v:=fun v z=>by cases z
theorem VV{D kS:Addr}{e e1:Nat}{st:SortSt}{ks out:List Value}{A:Around}{E:Value->Shared->Prop}{P:PySem.Fin->Shared->Prop}(I:Inv X ((pins ++ [(D,seqObj "list" #[] e1)]) ++ [(kS,seqObj "list" (bg ks) e)]) σ H s)
  (hD:X.s₀.heap.objs.size<=D) (hK:X.s₀.heap.objs.size<=kS) (nD:∀ p ∈ X.pn ++ pins,p.1≠D) (nK:∀ p ∈ X.pn ++ (pins ++ [(D,seqObj "list" #[] e1)]),p.1≠kS) (hkz:ks.length<64)
  (hout:(arrOf st).map (·.2)=bg out) (hoz:out.length<64) (hf:failedOf st=none) (h:∀ s' c,Inv X (pins ++ [(D,seqObj "list" (bg out) c)]) σ H s'->P (.done (.ret .none)) s') :
  wpAny (model X.prog X.w) A (ksk_tail D false e1 (.ref kS) st) P E s:=by
 have pk:=Inv.at_pin I
 have s1:=Heap.SameBut.update s.heap kS (Obj.mapSeq fun _=>(#[]:Array Value))
 obtain⟨ck,hck⟩:∃ ck,(s.heap.update kS (Obj.mapSeq fun _=>(#[]:Array Value))).get? kS=some (seqObj "list" #[] ck):=⟨_,get?_update_seq pk fun _=>#[]⟩
 have I2:=(Inv.repin I hK nK s1 hck y8).unpinned
 have pd:=Inv.at_pin I2
 have s2:=Heap.SameBut.update (s.heap.update kS (Obj.mapSeq fun _=>(#[]:Array Value))) D (Obj.mapSeq fun _=>bg out)
 obtain⟨c2,hc2⟩:∃ c2,((s.heap.update kS (Obj.mapSeq fun _=>(#[]:Array Value))).update D (Obj.mapSeq fun _=>bg out)).get? D=some (seqObj "list" (bg out) c2):=⟨_,get?_update_seq pd fun _=>bg out⟩
 have I3:=Inv.repin I2 hD nD s2 hc2 y8
 unfold ksk_tail
 (try dsimp only)
 rw[hout]
 refine ro (listUpdate_at pk rfl ?_ (by rw[ah,sizeLine_eq];lia) (aP _))
 refine ro (wpAny_letGo ?_)
 refine ro (seqEpoch_at pd rfl ?_)
 refine ro (listUpdate_at pd rfl ?_ (aP _) (by simp only[bV,if_false];rw[ah,sizeLine_eq];lia))
 rw[hf]
 simp only[bne_self_eq_false,bV,if_false]
 exact rp (h _ c2 I3)
theorem KF{α:Type}{F:KeyFam α}(FO:F.Ok){D kS:Addr}{e e1:Nat}{ks its:List Value}{acc xs:List V}{rs:List α}{A:Around}{E:Value->Shared->Prop}{P:PySem.Fin->Shared->Prop}(hu:A.units+50<cLine)
  (I:Inv X ((pins ++ [(D,seqObj "list" #[] e1)]) ++ [(kS,seqObj "list" (bg ks) e)]) σ H s)
  (hD:X.s₀.heap.objs.size<=D) (hK:X.s₀.heap.objs.size<=kS) (nD:∀ p ∈ X.pn ++ pins,p.1≠D) (nK:∀ p ∈ X.pn ++ (pins ++ [(D,seqObj "list" #[] e1)]),p.1≠kS)
  (rk:Vals acc ks) (rv:Vals xs its) (hl:ks.length=its.length) (hz:its.length<64) (hR:Iss X.K H (rs.map fun a=>.tup (F.dec a)) acc)
  (h:∀ s' (ys:List (α × V)) (out:List Value) c,ys.Perm (rs.zip xs)->ys.Pairwise (fun p q=>F.lt q.1 p.1=false)->Vals (ys.map (·.2)) out->out.length<64->Inv X (pins ++ [(D,seqObj "list" (bg out) c)]) σ H s'->P (.done (.ret .none)) s') :
  wpAny (model X.prog X.w) A (ksk_end D false its.toArray e1 (.ref kS) (bg ks)) P E s:=by
 have L1:=hR.len
 have L2:=rk.length
 have L3:=rv.length
 rw[aa] at L1
 have lz:(rs.zip xs).length=its.length:=by rw[List.length_zip];lia
 unfold ksk_end
 simp only[bV,if_false]
 by_cases h2:its.toArray.size<2
 ·rw[if_pos h2,if_pos h2]
  refine ro (rp ?_)
  rw[StateT.run_pure]
  refine ro (rp ?_)
  (try dsimp only)
  refine VV (out:=its) I hD hK nD nK (by lia) ?_ hz rfl fun s' c I'=>h s' (rs.zip xs) its c (List.Perm.refl _) ?_ ?_ hz I'
  ·show ((bg ks).zip its.toArray).map (·.2)=_
   apply Array.toList_inj.mp
   rw[Array.toList_map,ksk_zip]
   exact List.map_snd_zip (by simp;lia)
  ·rw[ah] at h2
   match rs.zip xs,lz with
   | [],_=>exact List.Pairwise.nil
   | [a],_=>exact dm _ _
   | _::_::_,lz=>exact absurd lz (by simp only[aI];lia)
  ·rw[List.map_snd_zip (by lia)]
   exact rv
 ·rw[if_neg h2,if_neg h2]
  rw[ah] at h2
  obtain⟨fs,t1,t2,t3⟩:=Uo FO I (M:=model X.prog X.w) rs acc ks hR rk
  refine ro (PySem.W.kat_kind t1 (by lia) t3 (by simp) ?_)
  have hfst:((Value.type (if F.fst=true then "int" else "tuple"):Value) != Value.type "tuple")=F.fst:=by
   cases hF:F.fst with
   | true=>rfl
   | false=>rfl
  rw[hfst]
  have W:Wk (fun i j=>F.lt (rs.getD i F.d0) (rs.getD j F.d0)):=⟨fun a b=>FO.w.asym _ _,fun a b c=>FO.w.ntr _ _ _⟩
  have ok:=Qc (n:=its.length) W (by lia)
  have lt_eq:(fun i j=>F.lt (rs.getD i F.d0) (rs.getD j F.d0))=(fun i j=>(fun(p q:α × V)=>F.lt p.1 q.1) ((rs.zip xs).getD i (F.d0,.non)) ((rs.zip xs).getD j (F.d0,.non))):=by
   have one:∀ i,((rs.zip xs).getD i (F.d0,V.non)).1=rs.getD i F.d0:=fun i=>by
    by_cases hi:i<its.length
    ·have a1:i<rs.length:=by lia
     have a2:i<xs.length:=by lia
     rw[aj,aj,ag (by lia),ag a1]
     simp
    ·rw[aj,aj,cD (by lia),cD (by lia)]
     rfl
   funext i j
   simp only[one]
  have wp:=Kok.wp (n:=its.length) (cmp:=fN X.prog X.w A (tuples' F.fst) ks) (I:=fun s'=>Inv X ((pins ++ [(D,seqObj "list" #[] e1)]) ++ [(kS,seqObj "list" (bg ks) e)]) σ H s')
   (R:=fun p s'=>(Rg its.length p/\Up (fun i j=>F.lt (rs.getD i F.d0) (rs.getD j F.d0)) p its.length)/\Inv X ((pins ++ [(D,seqObj "list" #[] e1)]) ++ [(kS,seqObj "list" (bg ks) e)]) σ H s')
   (fun i j C s' hi hj I' hC=>?_) (fun p s' hp I'=>⟨hp,I'⟩) _ s I ok
  ·have run:=PySem.W.kat_run (E:=E) (vs:=its) (ks:=ks) (Q:=fun st' s'=>∃ p:Array Nat,p.size=its.length/\arrOf st'=p.map (PySem.W.kas_item (ks.toArray.zip its.toArray))/\failedOf st'=none/\_) hl (by lia) hz (fun p' st' s' a1 a2 a3 a4=>⟨p',a1,a2,a3,a4⟩) wp
   refine ro (wpAny_mono run ?_ fun _ _ e=>e)
   rintro⟨⟨⟩,st'⟩ s' ⟨p,hp,har,hf,⟨hR1,hU⟩,I'⟩
   (try dsimp only)
   have hout:=PySem.W.kat_snds (ks:=ks) (vs:=its) hl har
   have hR2:Rg (rs.zip xs).length p:=by rw[lz];exact hR1
   rw[lt_eq,<- lz] at hU
   obtain⟨g1,g2⟩:=WD (g:=fun(p q:α × V)=>F.lt p.1 q.1) hR2 hU
   have olen:(p.toList.map fun i=>its.getD i Value.none).length=its.length:=by rw[aa,dN,hp]
   refine VV (out:=p.toList.map fun i=>its.getD i Value.none) I' hD hK nD nK (by lia) hout (by lia) hf fun s2 c I2=>h s2 _ _ c g1 g2 ?_ (by lia) I2
   rw[dH]
   have all:∀(js:List Nat),(∀ j ∈ js,j<its.length)->Vals (js.map ((fun x:α × V=>x.2) ∘ fun i=>(rs.zip xs).getD i (F.d0,.non))) (js.map fun i=>its.getD i Value.none):=by
    intro js
    induction js with
    | nil=>intro _;exact .nil
    | cons j js ih =>
     intro hj
     refine .cons ?_ (ih fun i hi=>hj i (aw _ hi))
     have hjl:=hj j aD
     have a1:j<xs.length:=by lia
     obtain⟨u,hu1,ru⟩:=yE rv (j:=j) (x:=xs[j]) (ag a1)
     have e1:((rs.zip xs).getD j (F.d0,V.non)).2=xs[j]:=by
      rw[aj,ag (by lia)]
      simp
     have e2:its.getD j Value.none=u:=by rw[aj,hu1];rfl
     show RelV ((rs.zip xs).getD j (F.d0,V.non)).2 (its.getD j Value.none)
     rw[e1,e2]
     exact ru
   exact all p.toList fun j hj=>rJ.mp (hR1.mem_iff.mp hj)
  ·have a1:i<rs.length:=by lia
   have a2:j<rs.length:=by lia
   have gi:(rs.map fun a=>_root_.L3.D.tup (F.dec a))[i]? = some (.tup (F.dec rs[i])):=by rw[au,ag a1];rfl
   have gj:(rs.map fun a=>_root_.L3.D.tup (F.dec a))[j]? = some (.tup (F.dec rs[j])):=by rw[au,ag a2];rfl
   obtain⟨x,hx,ix⟩:=hR.at gi
   obtain⟨y,hy,iy⟩:=hR.at gj
   obtain⟨u,hu1,ru⟩:=yE rk hx
   obtain⟨v,hv1,rv1⟩:=yE rk hy
   have e1:ks.getD i Value.none=u:=by rw[aj,hu1];rfl
   have e2:ks.getD j Value.none=v:=by rw[aj,hv1];rfl
   have e3:rs.getD i F.d0=rs[i]:=by rw[aj,ag a1];rfl
   have e4:rs.getD j F.d0=rs[j]:=by rw[aj,ag a2];rfl
   unfold fN
   rw[e1,e2]
   refine Qn I' hu ix iy ru rv1 (FO.ok _ _) (FO.dp _) (fun hb=>?_) ?_
   ·obtain⟨d,r,ed,hd⟩:=FO.sh rs[i]
    obtain⟨d',r',ed',hd'⟩:=FO.sh rs[j]
    rcases hd with ⟨_,n,rfl⟩ | ⟨z,_⟩
    ·rcases hd' with ⟨_,n',rfl⟩ | ⟨z,_⟩
     ·exact⟨⟨n,r,ed⟩,n',r',ed'⟩
     ·rw[hb] at z;cases z
    ·rw[hb] at z;cases z
   ·rw[FO.eq,<- e3,<- e4]
    exact hC s' I'
end
end L3
namespace L3
def uh(kc:V->Hp->VK->Prop):List V->List V->Hp->(List V->Hp->Prop)->Prop
 | [],acc,H,Q=>Q acc H
 | x::xs,acc,H,Q=>kc x H (fun k H'=>uh kc xs (acc ++ [k]) H' Q)
section
variable{X:Cx}{pins:List (Addr × Obj)}{σ:L2.St}{H:Hp}{s:Shared}
theorem Qj{α:Type}{F:KeyFam α}(FO:F.Ok){k:Nat}{q:Addr}{kc:V->Hp->VK->Prop}(hr:Room (k+2) X.A)
  (hkc:∀(pins':List (Addr × Obj)) (s:Shared) (H:Hp) (x:V) (u:Value) (Q:VK),Inv X pins' σ H s->RelV x u->kc x H Q->wpAny (model X.prog X.w) X.A.in1.in1 (call (.ref q) [u]) (EP X pins' σ Q) (fun _ _=>False) s)
  {D kS:Addr} {e1:Nat} {its:List Value} {xs:List V} {E:Value->Shared->Prop} {P:PySem.Fin->Shared->Prop} {Q:VK}
  (I:Inv X ((pins ++ [(D,seqObj "list" #[] e1)]) ++ [(kS,seqObj "list" #[] 0)]) σ H s)
  (hD:X.s₀.heap.objs.size<=D) (hK:X.s₀.heap.objs.size<=kS) (nD:∀ p ∈ X.pn ++ pins,p.1≠D) (nK:∀ p ∈ X.pn ++ (pins ++ [(D,seqObj "list" #[] e1)]),p.1≠kS)
  (rv:Vals xs its) (hz:its.length<64)
  (ht:uh kc xs [] H (Yz X.K F xs Q))
  (hP:∀ s',EP X pins σ Q (.ref D) s'->P (.done (.ret .none)) s') :
  wpAny (model X.prog X.w) X.A.in1.in1 (ksk_rest D (.ref q) false its.toArray e1 (.ref kS)) P E s:=by
 unfold ksk_rest
 refine ro (wpAny_rule ?_)
 rw[List.forIn_toArray]
 refine ro (ksk_fold (fun j s'=>∃ acc ks e H',Inv X ((pins ++ [(D,seqObj "list" #[] e1)]) ++ [(kS,seqObj "list" (bg ks) e)]) σ H' s'/\Vals acc ks/\ks.length=j/\uh kc (xs.drop j) acc H' (Yz X.K F xs Q))
  its 0 s ⟨[],[],0,H,I,.nil,rfl,ht⟩ (fun j x s1 hx hJ=>?_) fun s1 hJ=>?_)
 ·obtain⟨acc,ks,e,H1,I1,rk,hkl,tk⟩:=hJ
  rw[er] at hkl tk
  have hjl:j<its.length:=(rD.mp hx).1
  have L3:=rv.length
  obtain⟨u,hu,ru⟩:=yE rv (j:=j) (x:=xs[j]) (ag (by lia))
  rw[hx] at hu
  cases hu
  rw[aT (by lia)] at tk
  refine ro (wpAny_attempt (wpAny_mono (hkc _ _ _ _ _ _ I1 ru tk) (fun kv s2 hk=>?_) fun _ _ z=>z.elim))
  obtain⟨v,H2,I2,rv2,tk2⟩:=hk
  have pk:=Inv.at_pin I2
  have sb:=Heap.SameBut.update s2.heap kS (Obj.mapSeq (·.push kv))
  have ea:(bg ks).push kv=bg (ks ++ [kv]):=by simp
  obtain⟨c2,hc2⟩:∃ c2,(s2.heap.update kS (Obj.mapSeq (·.push kv))).get? kS=some (seqObj "list" (bg (ks ++ [kv])) c2):=⟨_,by rw[<- ea];exact get?_update_seq pk (·.push kv)⟩
  have I3:=Inv.repin I2 hK nK sb hc2 y8
  (try dsimp only)
  refine ro (listUpdate_at pk rfl ?_ (by rw[ah,sizeLine_eq];lia) (by rw[Array.size_push,ah,sizeLine_eq];lia))
  refine rp ⟨rfl,acc ++ [v],ks ++ [kv],c2,H2,I3,rk.append (.cons rv2 .nil),by rw[am,cz,hkl];lia,?_⟩
  rw[er]
  exact tk2
 ·obtain⟨acc,ks,e,H1,I1,rk,hkl,tk⟩:=hJ
  rw[er] at hkl tk
  have L3:=rv.length
  rw[<- L3,List.drop_length] at tk
  obtain⟨rs,hR,hq⟩:=tk
  (try dsimp only)
  refine ro (listItems_at (Inv.at_pin I1) rfl ?_)
  refine KF FO (by have:=hr.in1.in1.un;lia) I1 hD hK nD nK rk rv hkl hz hR fun s' ys out c p1 p2 p3 p4 I'=>hP s' ?_
  have fp:=Inv.fp_of_pin I' hD nD
  refine⟨.ref D,_,Inv.track I'.unpinned (a:=D) (o:=.lst (ys.map (·.2))) fp ⟨?_,out,c,p3,Inv.at_pin I'⟩,rfl,hq ys p1 p2 D fp.1⟩
  rw[p3.length,sizeLine_eq]
  lia
theorem Wc{α:Type}{F:KeyFam α}(FO:F.Ok){k:Nat}{q l:Addr}{xs:List V}{kc:V->Hp->VK->Prop}{Q:VK}(hr:Room (k+2) X.A)
  (hkc:∀(pins':List (Addr × Obj)) (s:Shared) (H:Hp) (x:V) (u:Value) (Q:VK),Inv X pins' σ H s->RelV x u->kc x H Q->wpAny (model X.prog X.w) X.A.in1.in1 (call (.ref q) [u]) (EP X pins' σ Q) (fun _ _=>False) s)
  (I:Inv X pins σ H s) (hS:SqL X.K H l xs) (hz:xs.length<64) (ht:uh kc xs [] H (Yz X.K F xs Q)) :
  wpAny (model X.prog X.w) X.A (call (.builtin "sorted") [.ref l] [(bA "key",.ref q)]) (EP X pins σ Q) X.xe s:=by
 obtain⟨its,rv,pl,_⟩:=I.list hS
 have hlen:=rv.length
 refine call_function_entry_kw kind_sorted plain_sorted entry_sorted (ksk_s1 _ _) ?_
 unfold Builtin.«sorted»
 refine ro (m:=checkCount "sorted" 1 1 _) (rp ?_)
 refine ro (collect_list pl.isList ?_ (by rw[sizeLine_eq];lia))
 refine ro (wpAny_newList ?_ (by rw[sizeLine_eq];lia))
 generalize hh1:((s.heap.push (seqObj "list" #[] 0)).update s.heap.objs.size (Obj.mapSeq (· ++ its.toArray)))=h1
 have sz1:h1.objs.size=s.heap.objs.size+1:=by rw[<- hh1,ee,size_push']
 have kp1:∀ b o,s.heap.get? b=some o->h1.get? b=some o:=fun b o e=>by
  have hlt:b<s.heap.objs.size:=ao e
  rw[<- hh1,Heap.get?_update_ne _ _ _ _ (ay hlt),Heap.get?_push_ne _ _ _ (ay hlt)]
  exact e
 have hoL:(h1.push (seqObj "list" its.toArray 0)).get? h1.objs.size=some (seqObj "list" its.toArray 0):=aH _ rfl
 show wpAny _ _ _ _ _ { s with heap:=h1.push (seqObj "list" its.toArray 0) }
 refine ro (wpAny_holding (wpAny_call_entry_kw slot_list_sort ⟨_,hoL,rfl⟩ entry_list_sort ?body (ksk_l1 _ _)))
 show wpAny _ _ (Builtin.«list.sort» ⟨[.ref h1.objs.size],[(bA "key",.ref q)]⟩) _ _ _
 rw[ksk_t1]
 generalize hh2:h1.push (seqObj "list" its.toArray 0)=h2 at hoL
 have sz2:h2.objs.size=h1.objs.size+1:=by rw[<- hh2,size_push']
 have kp2:∀ b o,s.heap.get? b=some o->h2.get? b=some o:=fun b o e=>by rw[<- hh2];exact af _ (kp1 b o e)
 generalize hDD:h1.objs.size=D at hoL
 obtain⟨e1,ho1⟩:∃ e1,(h2.update D (Obj.mapSeq fun _=>(#[]:Array Value))).get? D=some (seqObj "list" #[] e1):=⟨_,get?_update_seq hoL fun _=>#[]⟩
 have hDs:s.heap.objs.size<=D:=by rw[<- hDD,sz1];exact cN _
 have sb:=Heap.SameBut.update h2 D (Obj.mapSeq fun _=>(#[]:Array Value))
 unfold ksk_tree
 refine ro (listItems_at hoL rfl ?_)
 refine ro (listUpdate_at hoL rfl ?_ (by rw[ah,sizeLine_eq];lia) (aP _))
 refine ro (seqEpoch_at ho1 rfl ?_)
 refine ro (wpAny_newTuple ?_ (by show its.length<=_;rw[sizeLine_eq];lia))
 refine ro (wpAny_newList ?_ (aP _))
 refine wpAny_holding ?_
 generalize hh3:(h2.update D (Obj.mapSeq fun _=>(#[]:Array Value))).push (seqObj "tuple" its.toArray 0)=h3
 have sz3:h3.objs.size=s.heap.objs.size+3:=by rw[<- hh3,size_push',ee,sz2,sz1]
 have hoK:(h3.push (seqObj "list" #[] 0)).get? h3.objs.size=some (seqObj "list" #[] 0):=aH _ rfl
 have hoD:(h3.push (seqObj "list" #[] 0)).get? D=some (seqObj "list" #[] e1):=af _ (by rw[<- hh3];exact af _ ho1)
 have kp3:∀ b o,s.heap.get? b=some o->(h3.push (seqObj "list" #[] 0)).get? b=some o:=fun b o e=>by
  have hlt:b<s.heap.objs.size:=ao e
  refine af _ ?_
  rw[<- hh3]
  exact af _ ((sb.2 b (ay (aq hlt hDs))).trans (kp2 b o e))
 have I1:Inv X pins σ H { s with heap:=h3.push (seqObj "list" #[] 0) }:=I.kept (t':=s.toks) kp3
 have fD:wT X pins H D:=I.fpOk (by lia) (I.hok.fresh (by lia))
 have fK:wT X pins H h3.objs.size:=I.fpOk (by lia) (I.hok.fresh (by lia))
 have I2:=Inv.newpin I1 fD hoD y8
 have nK:∀ p ∈ X.pn ++ (pins ++ [(D,seqObj "list" #[] e1)]),p.1≠h3.objs.size:=fun p hp=>by
  rcases rF.mp hp with z | z
  ·exact fK.2.2.2.2.2 p (bf _ z)
  ·rcases rF.mp z with z | z
   ·exact fK.2.2.2.2.2 p (aF _ z)
   ·have e:p=(D,seqObj "list" #[] e1):=by simpa using z
    subst e
    show D≠_
    lia
 have I3:=Inv.newpin I2 (b:=h3.objs.size) ⟨fK.1,fK.2.1,fK.2.2.1,fK.2.2.2.1,fK.2.2.2.2.1,nK⟩ hoK y8
 have hsz:=I.sz
 have hK0:X.s₀.heap.objs.size<=h3.objs.size:=by lia
 exact Qj FO hr hkc I3 (by lia) hK0 fD.2.2.2.2.2 nK rv (by lia) ht fun s' hE=>⟨_,rfl,rp ⟨_,rfl,hE⟩⟩
end
end L3
namespace L3
noncomputable def Y0(X:Cx)(N:List Str)(s:Shared)(H:Hp)(qual:Str)(scope:Scope)(f:Addr)(cd:Value)(cl:List (Str × Addr)):Cx where
 prog:=X.prog
 w:=X.w
 K:=X.K
 mg:=X.mg
 base:=X.base
 A:=X.A.in1.in1.deeper (et qual scope s.heap.objs.size f cd cl)
 N:=N
 s₀:=s
 H₀:=H
 env:=et qual scope s.heap.objs.size f cd cl
 outer:=X.stack
 stack:=et qual scope s.heap.objs.size f cd cl::X.stack
 ex:=[]
 calm:=true
 fn:=fun _=>false
 pn:=[]
 xe:=fun _ _=>False
structure UO(p y:Str)(scope:Scope):Prop where
 kind:scope.kind=.function
 co:scope.isCoroutine=false
 gen:scope.isGenerator=false
 nocell:∀ z ∈ scope.names,z.2≠.cell
 par:scope.names.lookup p=some .local
 fre:scope.names.lookup y=some .free
 one:∀ q ∈ scope.names,q.2=.free->q.1=y
 ne:p≠y
section
variable{X:Cx}{pins:List (Addr × Obj)}{σ:L2.St}{H:Hp}{s:Shared}{p y name qual:Str}{scope:Scope}{params:Arguments}{body:Expr}{f c' c:Addr}{pm ctv cv:Value}{k iy:Nat}{vy x:V}{u:Value}{Q:VK}{t:TE}
theorem UP(S:UO p y scope)(hd:X.A.in1.in1.handled=none)(I:Inv X pins σ H s)(hy:X.N[iy]? = some y)(hσ:σ[iy]? = some (some vy))(hvis:X.env.scope.names.lookup y=some .cell)(hc:X.env.cells.lookup y=some c)(rx:RelV x u){h₁:Heap}{tk:Nat}
  (hns:h₁.Ns s.heap.objs.size (fun z=>[(p,u)].reverse.lookup z)) (hk₁:∀ b o,s.heap.get? b=some o->h₁.get? b=some o) :
  Inv (Y0 X [p,y] s H qual scope f cv [(y,c)]) [] [some x,some vy] H { s with heap:=h₁,toks:=tk }:=by
 obtain⟨m,hn,hl⟩:=I.loc
 obtain⟨uy,ry,lk⟩:=hl iy y vy hy hσ (.inr (.inl hvis))
 have hcell:s.heap.IsCell c (some uy):=by
  rcases lk with ⟨z,_⟩ | ⟨_,c2,e2,z⟩
  ·have z':X.env.scope.names.lookup y=some .local:=z
   rw[hvis] at z'
   cases z'
  ·rw[hc] at e2
   cases e2
   exact z
 have hcell':h₁.IsCell c (some uy):=by
  obtain⟨o,e,d⟩:=hcell
  exact⟨o,hk₁ _ _ e,d⟩
 have e0:=I.env0
 have noA:∀ b:Addr,b ∉ (Y0 X [p,y] s H qual scope f cv [(y,c)]).ex:=fun b z=>absurd (show b ∈ ([]:List Addr) from z) (by simp)
 have lkc:∀ z d,bn z [(y,c)]=some d->z=y/\d=c:=fun z d h=>by
  rw[aS] at h
  by_cases hz:(z == y)=true
  ·rw[hz] at h
   cases h
   exact⟨by simpa using hz,rfl⟩
  ·rw[show (z == y)=false by simpa using hz] at h
   cases h
 have lky:bn y [(y,c)]=some c:=by rw[aS];simp
 refine⟨⟨e0.mod,S.kind,rfl,rfl,ar _,fun z z' d h1 h2=>?_,fun z hz=>?_,fun z d h _=>?_,fun _=>hd,Around.frames_deeper e0.frames,.inr ⟨rfl,rfl⟩,fun b z=>absurd z (noA b),e0.bs,e0.bsz,fun b _ _=>noA b,fun b z=>absurd z (noA b),e0.funs,e0.frf⟩,
  rfl,e0.bare,Un.kept hk₁,⟨_,hns,fun i z v h1 h2 h3=>?_⟩,fun z d h=>?_,e0.hok.fresh (ar _),fun z d h=>?_,fun q hq=>absurd (show q ∈ ([]:List (Addr × Obj)) from hq) (by simp),e0.hok.kept hk₁,rfl⟩
 ·rw[(lkc _ _ h1).1,(lkc _ _ h2).1]
 ·have hz':scope.names.lookup z=some .cell\/scope.names.lookup z=some .free:=hz
  rcases hz' with hz' | hz'
  ·exact absurd rfl (S.nocell _ (bQ hz'))
  ·rw[show z=y from S.one _ (bQ hz') rfl]
   exact⟨c,lky⟩
 ·exact absurd (show (false:Bool)=true from h) (by decide)
 ·match i,h1,h2 with
  | 0,h1,h2 =>
   cases h1
   cases h2
   refine⟨u,rx,.inl ⟨S.par,?_⟩⟩
   show bn p [(p,u)].reverse=some u
   simp [bn]
  | 1,h1,h2 =>
   cases h1
   cases h2
   exact⟨uy,ry,.inr ⟨.inr S.fre,c,lky,hcell'⟩⟩
  | i+2,h1,h2=>simp at h2
 ·obtain⟨_,rfl⟩:=lkc z d h
  exact⟨_,hcell'⟩
 ·obtain⟨_,rfl⟩:=lkc z d h
  exact I.freeC y _ hc
theorem WY(S:UO p y scope)(hr:Room (k+3) X.A)(hbind:bindArgs (bY name qual params body scope [(y,c)] pm cv ctv) ⟨[u],[]⟩=pure [(p,u)])(I:Inv X pins σ H s)
  (ho:s.heap.get? f=some { cls:=.type "function",data:=.func (bY name qual params body scope [(y,c)] pm cv ctv) }) (hcd:s.heap.CodeRec cv qual) (hy:X.N[iy]? = some y) (hσ:σ[iy]? = some (some vy)) (hvis:X.env.scope.names.lookup y=some .cell) (hc:X.env.cells.lookup y=some c)
  (rx:RelV x u) (hb:PE (Y0 X [p,y] s H qual scope f cv [(y,c)]) body t) (h:t [some x,some vy] H Q) :
  wpAny (model X.prog X.w) X.A.in1.in1 (call (.ref f) [u]) (EP X pins σ Q) (fun _ _=>False) s:=by
 have hr2:Room (k+1) X.A.in1.in1:=hr.in1.in1
 refine wpAny_call (PySem.W.kla_callFunE hr2.depth ho rfl S.co S.gen rfl hcd ?_)
 rw[hbind]
 refine rp (wpAny_newFunctionEnv S.nocell (fun z hz=>?_) (fun h₁ hns hsb=>?_) S.kind)
 ·have e:z=(p,u):=by simpa using hz
  subst e
  exact S.par
 have hk₁:∀ b o,s.heap.get? b=some o->h₁.get? b=some o:=fun b o e=>hsb.extBut b o (ay (ao e)) (af _ e)
 refine⟨I.nolimit.keeps hk₁,?_⟩
 have I1:=UP (qual:=qual) (f:=f) (cv:=cv) (tk:=s.toks+1) S hr2.hd I hy hσ hvis hc rx hns hk₁
 show codeAny _ _ (.expr body (et qual scope s.heap.objs.size f cv [(y,c)])) _ _
 refine PySem.W.kla_codeExpr (wpAny_mono (hb [] _ _ H Q I1 h) (fun v s' hv=>?_) fun _ _ z=>False.elim z)
 obtain⟨w',H',J,rw',q⟩:=hv
 exact I.after ⟨w',H',J.os,J.bare,J.base,J.hok,rw',q⟩
end
end L3
namespace L3
noncomputable def cdE(c':Addr)(q:Str):HO:=.ext fun h=>h.CodeRec (.ref c') q
noncomputable def fnE(f:Addr)(o:Obj):HO:=.ext fun h=>h.get? f=some o
def TabOk(H:Hp)(P:Addr)(pos:Pos)(q:Str):Prop :=
 ∃ ps:Array Value,H P=some (.tbl ps)/\TriplesOk ps.toList/\(codeAmong pos ps.toList=none\/∃ c',codeAmong pos ps.toList=some (.ref c')/\H c'=some (cdE c' q))
def SamT(P:Addr)(H H':Hp):Prop:=∀ b o,b≠P->H b=some o->H' b=some o
def LamAt(H:Hp)(f:Addr)(name qual:Str)(params:Arguments)(body:Expr)(scope:Scope)(cl:List (Str × Addr)):Prop :=
 ∃(c':Addr) (pm ctv:Value),H c'=some (cdE c' qual)/\H f=some (fnE f { cls:=.type "function",data:=.func (bY name qual params body scope cl pm (.ref c') ctv) })
theorem QU{P:Program}{w:World}{H:Hp}{h:Heap}{c':Addr}{q:Str}(x:h.CodeRec (.ref c') q):ObjOk P w H h c' (cdE c' q):=by
 refine⟨x,?_,fun h1 h2 a k=>?_⟩
 ·obtain⟨c,o,vs,t,e,g,_⟩:=x
  cases e
  exact⟨o,g⟩
 ·obtain⟨c,o,vs,t,e,g,r⟩:=a
  cases e
  exact⟨_,o,vs,t,rfl,k o g,r⟩
theorem V3{P:Program}{w:World}{H:Hp}{h:Heap}{f:Addr}{o:Obj}(x:h.get? f=some o):ObjOk P w H h f (fnE f o) :=
 ⟨x,⟨o,x⟩,fun h1 h2 a k=>k o a⟩
section
variable{X:Cx}{pins:List (Addr × Obj)}{σ:L2.St}{H:Hp}{s:Shared}
theorem Inv.grow{P c' f:Addr}{ps more:Array Value}{o:Obj}{q:Str}{h':Heap}{tk:Nat}(I:Inv X pins σ H s)(hP:H P=some (.tbl ps))(hk:∀ b u,b≠P->s.heap.get? b=some u->h'.get? b=some u)(hP':h'.get? P=some { cls:=.none,data:=.fields (ps ++ more) })
  (hc:s.heap.objs.size<=c') (hf:s.heap.objs.size<=f) (hcf:c'≠f) (hcr:h'.CodeRec (.ref c') q) (hfo:h'.get? f=some o) :
  Inv X pins σ (upd (upd (upd H P (.tbl (ps ++ more))) c' (cdE c' q)) f (fnE f o)) { s with heap:=h',toks:=tk }:=by
 have Pl:P<s.heap.objs.size:=I.hok.lt hP
 have hPc:P≠c':=ay (aq Pl hc)
 have hPf:P≠f:=ay (aq Pl hf)
 have old:∀ b,b<s.heap.objs.size->b≠P->(upd (upd (upd H P (.tbl (ps ++ more))) c' (cdE c' q)) f (fnE f o)) b=H b:=fun b hb hbP=>by
  rw[zh (ay (aq hb hf)),zh (ay (aq hb hc)),zh hbP]
 have atP:(upd (upd (upd H P (.tbl (ps ++ more))) c' (cdE c' q)) f (fnE f o)) P=some (.tbl (ps ++ more)):=by
  rw[zh hPf,zh hPc,zb]
 have neP:∀ b,H b=none->b≠P:=fun b e z=>by rw[z,hP] at e;cases e
 refine I.un ⟨fun b u e n _ _=>hk b u (neP b n) e,fun b u e n _ _=>⟨u.slots,hk b u (neP b n) e⟩,fun b u e n _=>?_,fun b u e _=>?_,fun b xs e=>?_,fun b ob u e=>?_,fun b qs e=>?_⟩ fun b u e=>?_
 ·rw[old b (ao e) (neP b n)]
  exact n
 ·by_cases hb:b=P
  ·subst hb;exact⟨_,hP'⟩
  ·exact⟨u,hk b u hb e⟩
 ·rw[old b (I.hok.lt e) (fun z=>by rw[z,hP] at e;cases e)]
  exact e
 ·rw[old b (I.hok.lt e) (fun z=>by rw[z,hP] at e;cases e)]
  exact e
 ·by_cases hb:b=P
  ·subst hb
   rw[hP] at e
   cases e
   exact⟨more,atP⟩
  ·rw[old b (I.hok.lt e) hb]
   exact⟨#[],by rw[e];simp⟩
 ·by_cases hbf:b=f
  ·subst hbf
   rw[zb] at e
   cases e
   exact V3 hfo
  ·rw[zh hbf] at e
   by_cases hbc:b=c'
   ·subst hbc
    rw[zb] at e
    cases e
    exact QU hcr
   ·rw[zh hbc] at e
    by_cases hbP:b=P
    ·subst hbP
     rw[zb] at e
     cases e
     exact hP'
    ·rw[zh hbP] at e
     refine (I.hok b u e).stay (fun d v hd g=>hk d v ?_ g) (fun d g=>?_) fun d xs g=>?_
     ·rcases hd with z | z
      ·rw[z];exact hbP
      ·intro z';rw[z',hP] at z;cases z
     ·rw[old d (I.hok.lt g) (fun z=>by rw[z,hP] at g;cases g)]
      exact g
     ·rw[old d (I.hok.lt g) (fun z=>by rw[z,hP] at g;cases g)]
      exact g
end
end L3
namespace L3
theorem xE{a b:Int}{v:Value}:∀(l:List Value),TriplesOk l->TriplesOk (l ++ [rawInt a,rawInt b,v])
 | [],_=>trivial
 | .int _ _::.int _ _::_::rest,h=>xE rest h
theorem jH{h h':Heap}{mg:Str->Option Value}{T:Addr}(x:h.BuiltinsAt mg T)(k:∀ b o,h.get? b=some o->h'.get? b=some o):h'.BuiltinsAt mg T:=by
 obtain⟨bm,o,b1,b2,b3,b4,b5,b6⟩:=x
 exact⟨bm,o,b1,b2,b3,b4,k _ _ b5,b6⟩
section
variable{X:Cx}{pins:List (Addr × Obj)}{σ:L2.St}{H:Hp}{s:Shared}{cc P c:Addr}{y:Str}{params:Arguments}{body:Expr}{scope:Scope}{pos:Pos}{Q:VK}
end
end L3
namespace L3
def Ki(R:V->Hp->Prop):List V->Hp->Prop
 | [v],H=>R v H
 | _,_=>False
theorem XY{R:V->Hp->Prop}:∀{vs:List V} {H:Hp},Ki R vs H->∃ v,vs=[v]/\R v H
 | [v],_,h=>⟨v,rfl,h⟩
section
variable{X:Cx}{cc P c:Addr}{x p y:Str}{params:Arguments}{body e:Expr}{scope:Scope}{lpos kpos pos pp:Pos}{k iy:Nat}{te tb:TE}
end
end L3
namespace L3
section
variable{K:rC}
theorem SamT.of{T:Addr}{H H':Hp}(s:Same H H'):SamT T H H':=fun b o _ e=>s b o e
theorem SamT.trans{T:Addr}{H H' H'':Hp}(s:SamT T H H')(s':SamT T H' H''):SamT T H H'':=fun b o n e=>s' b o n (s b o n e)
theorem SamT.at{T b:Addr}{H H':Hp}{ps:Array Value}{o:HO}(s:SamT T H H')(hT:H T=some (.tbl ps))(e:H b=some o)(ho:∀ qs,o≠.tbl qs):H' b=some o:=s b o (fun z=>by rw[z,hT] at e;cases e;exact ho _ rfl) e
theorem SamT.seqL{T a:Addr}{H H':Hp}{ps:Array Value}{xs:List V}(s:SamT T H H')(hT:H T=some (.tbl ps))(h:SqL K H a xs):SqL K H' a xs:=by
 rcases h with (h | ⟨o,h⟩) | h
 ·exact .inl (.inl (s.at hT h fun _ z=>by cases z))
 ·exact .inl (.inr ⟨o,s.at hT h fun _ z=>by cases z⟩)
 ·exact .inr h
theorem SamT.seqT{T a:Addr}{H H':Hp}{ps:Array Value}{xs:List V}(s:SamT T H H')(hT:H T=some (.tbl ps))(h:SqT K H a xs):SqT K H' a xs:=by
 rcases h with (h | ⟨o,h⟩) | h
 ·exact .inl (.inl (s.at hT h fun _ z=>by cases z))
 ·exact .inl (.inr ⟨o,s.at hT h fun _ z=>by cases z⟩)
 ·exact .inr h
mutual
theorem Is.samT{T:Addr}{H H':Hp}{ps:Array Value}(s:SamT T H H')(hT:H T=some (.tbl ps)):∀(d:D) (v:V),Is K H d v->Is K H' d v
 | .non,v,h=>by simp only[Is] at h ⊢;exact h
 | .bl b,v,h=>by simp only[Is] at h ⊢;exact h
 | .int b,v,h=>by simp only[Is] at h ⊢;exact h
 | .str b,v,h=>by simp only[Is] at h ⊢;exact h
 | .lst l,v,h=>by
  simp only[Is] at h ⊢
  obtain⟨a,xs,e1,e2,e3⟩:=h
  exact⟨a,xs,e1,s.seqL hT e2,Iss.samT s hT l xs e3⟩
 | .tup l,v,h=>by
  simp only[Is] at h ⊢
  obtain⟨a,xs,e1,e2,e3⟩:=h
  exact⟨a,xs,e1,s.seqT hT e2,Iss.samT s hT l xs e3⟩
theorem Iss.samT{T:Addr}{H H':Hp}{ps:Array Value}(s:SamT T H H')(hT:H T=some (.tbl ps)):∀(l:List D) (vs:List V),Iss K H l vs->Iss K H' l vs
 | [],vs,h=>by simp only[Iss] at h ⊢;exact h
 | d::l,vs,h=>by
  simp only[Iss] at h ⊢
  obtain⟨v,r,e1,e2,e3⟩:=h
  exact⟨v,r,e1,Is.samT s hT d v e2,Iss.samT s hT l r e3⟩
end
theorem LsA.samT{T a:Addr}{H H':Hp}{ps:Array Value}{ds:List D}(h:LsA K H a ds)(s:SamT T H H')(hT:H T=some (.tbl ps)):LsA K H' a ds:=by
 obtain⟨xs,h1,h2⟩:=h
 exact⟨xs,s.at hT h1 (fun _ z=>by cases z),Iss.samT s hT _ _ h2⟩
theorem LamAt.same{H H':Hp}{f:Addr}{name qual:Str}{params:Arguments}{body:Expr}{scope:Scope}{cl:List (Str × Addr)}(h:LamAt H f name qual params body scope cl)(s:Same H H'):LamAt H' f name qual params body scope cl:=by
 obtain⟨c',pm,ctv,h1,h2⟩:=h
 exact⟨c',pm,ctv,s _ _ h1,s _ _ h2⟩
end
end L3
namespace L3
section
variable{P:Program}{w:World}{K:rC}{mg mb:Str->Option Value}{CX:CXT}{k:Nat}{fa a T cc:Addr}{fd:FuncData}{x:Str}{sp:Sp}{s₁:Shared}{vs:List Value}{ns:List Int}{ps:Array Value}
end
noncomputable def Qu(K:rC):Bool:=K.all fun p=>match p.2 with
 | ⟨.none,_,.fields _,_⟩=>false
 | _=>true
theorem ZX{T:Addr}{o:Obj}:∀{K:rC},K.lookup T=some o->(T,o) ∈ K
 | [],h=>by cases h
 | p::K,h=>by
  rw[aS] at h
  by_cases hp:T=p.1
  ·rw[show (T == p.1)=true by simpa using hp] at h
   cases h
   rw[hp]
   exact aD
  ·rw[show (T == p.1)=false by simpa using hp] at h
   exact aw _ (ZX h)
theorem ZN{K:rC}{T:Addr}{ps:Array Value}{h:Heap}(e:Qu K=true)(X:K.In h)(hT:h.get? T=some { cls:=.none,data:=.fields ps }):K.lookup T=none:=by
 cases q:K.lookup T with
 | none=>rfl
 | some o =>
  have g:=X _ _ q
  rw[hT] at g
  cases g
  have:=rL.mp e _ (ZX q)
  simp at this
theorem Wx{P:Program}{w:World}{K:rC}{mg:Str->Option Value}{base:Heap}{x qual:Str}{st:Stmt}{f cc:Addr}{fd:FuncData}{N ps:List Str}{k:Nat}{sp:Sp}(F:Fun K x qual st f fd)(hcc:fd.code=.ref cc)(S:zm N ps (ze st))(len:∀ vs H Q E,sp vs H Q E->vs.length=ps.length)
  (hbody:∀(A:Around) (outer:List Env) (s:Shared) (H:Hp) (vs:List V) (Q:VK) (E:XK),Room k (A.deeper (envOfC qual (ze st) s.heap.objs.size f (.ref cc)))->sp vs H Q E ->
   ∃ t,PSs (uq CX0 P w K mg base N qual (ze st) f (.ref cc) A outer s H E).nox (zD st) t/\t { nx:=fun _ H'=>Q .non H',rt:=Q } (start N vs) H):FnOk P w K mg base CX0 (k+1) f fd ps sp:=by
 obtain⟨oc,od,kV,doc,pm,an,cdv,ct,osl,rfl,lk,hcd⟩:=F.ex
 have e:cdv=.ref cc:=hcc
 subst e
 refine Vh lk hcd S len fun A outer s H vs Q E hr hsp=>?_
 obtain⟨t,h,q⟩:=hbody A outer s H vs Q E hr hsp
 exact⟨t,h.nox,q⟩
end L3
namespace L3
theorem qX{pos pos':Pos}{c:Value}(l:List Value)(h:TriplesOk l)(hl:pos'.line≠pos.line):codeAmong pos' (l ++ [rawInt pos.line,rawInt pos.col,c])=codeAmong pos' l:=by
 fun_induction TriplesOk l with
 | case1 =>
  simp only[cA,codeAmong,rawInt]
  rw[if_neg]
  simp only[cK,beq_iff_eq]
  intro z
  exact hl (by have:=z.1;lia)
 | case2 a t b u x rest ih =>
  simp only[bp,codeAmong]
  split
  ·rfl
  ·exact ih h
 | case3 l h1 h2=>exact h.elim
def QC(P:Addr)(pos:Pos)(H H':Hp):Prop:=∀ pos' q',pos'.line≠pos.line->TabOk H P pos' q'->TabOk H' P pos' q'
theorem TabOk.same'{H H':Hp}{T:Addr}{pos:Pos}{q:Str}(h:TabOk H T pos q)(s:Same H H'):TabOk H' T pos q:=by
 obtain⟨ps,h1,h2,h3⟩:=h
 refine⟨ps,s _ _ h1,h2,?_⟩
 rcases h3 with h3 | ⟨c',h4,h5⟩
 ·exact .inl h3
 ·exact .inr ⟨c',h4,s _ _ h5⟩
section
variable{X:Cx}{pins:List (Addr × Obj)}{σ:L2.St}{H:Hp}{s:Shared}{cc P c:Addr}{y:Str}{params:Arguments}{body:Expr}{scope:Scope}{pos:Pos}{Q:VK}
theorem YT(hcode:X.env.code=.ref cc)(hC:PySem.W.CodeHd X.base cc P)(hB:X.base.BuiltinsAt X.mg P)(hgP:rq≠P)(hcl:closureFor scope X.env=pure [(y,c)])(hdef:defaultsOf params X.env=([],[]))(I:Inv X pins σ H s)
  (hT:TabOk H P pos (X.env.qual ++ "<lambda>"))
  (h:∀ f H',H f=none->LamAt H' f "<lambda>" (X.env.qual ++ "<lambda>") params body scope [(y,c)]->TabOk H' P pos (X.env.qual ++ "<lambda>")->SamT P H H'->QC P pos H H'->Q (.ref f) H') :
  wpAny (model X.prog X.w) X.A (eval (.Lambda params body scope pos) X.env) (EP X pins σ Q) X.xe s:=by
 refine PySem.W.kla_eval hdef ?_
 obtain⟨ps,hP,ht,hh⟩:=hT
 have hPo:s.heap.get? P=some (PySem.W.tabObj ps):=I.hok _ _ hP
 have hg:=I.mod.glob.keeps I.bk
 have Pl:P<s.heap.objs.size:=I.hok.lt hP
 rcases hh with hn | ⟨c',hit,hc'⟩
 ·refine PySem.W.kla_makeFunction (mg:=X.mg) hcl I.ok.glob hg hcode (hC.keeps I.bk) hPo ht hn hgP (jH hB I.bk) fun c' ctv h' tk hx hge hlt hrec htb=>?_
  have hsz:s.heap.objs.size<=h'.objs.size:=df (bX hge hlt)
  have I1:=Inv.grow (P:=P) (c':=c') (f:=h'.objs.size) (more:=#[rawInt pos.line,rawInt pos.col,.ref c']) (tk:=tk) (o:={ cls:=.type "function",data:=.func (bY "<lambda>" (X.env.qual ++ "<lambda>") params body scope [(y,c)] ((X.mg "__name__").getD .none) (.ref c') ctv) }) I hP
   (fun b u hb e=>af _ (hx b u hb e)) (af _ htb) hge hsz (ay hlt) (hrec.push _) (aH _ rfl)
  have hPc:P≠c':=ay (aq Pl hge)
  have hPf:P≠h'.objs.size:=ay (aq Pl hsz)
  have atc:(upd (upd (upd H P (.tbl (ps ++ #[rawInt pos.line,rawInt pos.col,.ref c']))) c' (cdE c' (X.env.qual ++ "<lambda>"))) h'.objs.size (fnE h'.objs.size { cls:=.type "function",data:=.func (bY "<lambda>" (X.env.qual ++ "<lambda>") params body scope [(y,c)] ((X.mg "__name__").getD .none) (.ref c') ctv) })) c'=some (cdE c' (X.env.qual ++ "<lambda>")):=by
   rw[zh (ay hlt),zb]
  refine⟨.ref h'.objs.size,_,I1,rfl,h _ _ (I.hok.fresh hsz) ⟨c',_,ctv,atc,zb⟩ ⟨ps ++ #[rawInt pos.line,rawInt pos.col,.ref c'],?_,?_,.inr ⟨c',?_,atc⟩⟩ (fun b o hb e=>?_) fun pos' q' hl' ht'=>?_⟩
  ·rw[zh hPf,zh hPc,zb]
  ·rw[cZ]
   exact xE _ ht
  ·rw[cZ]
   exact codeAmong_snoc _ ht hn
  ·have hl:=I.hok.lt e
   rw[zh (ay (aq hl hsz)),zh (ay (aq hl hge)),zh hb]
   exact e
  ·obtain⟨ps',hP2,ht2,hh2⟩:=ht'
   rw[hP] at hP2
   cases hP2
   refine⟨ps ++ #[rawInt pos.line,rawInt pos.col,.ref c'],?_,?_,?_⟩
   ·rw[zh hPf,zh hPc,zb]
   ·rw[cZ]
    exact xE _ ht
   ·rw[cZ]
    show codeAmong pos' (ps.toList ++ [rawInt pos.line,rawInt pos.col,.ref c'])=none\/∃ c_1,codeAmong pos' (ps.toList ++ [rawInt pos.line,rawInt pos.col,.ref c'])=some (.ref c_1)/\_
    rw[qX _ ht hl']
    rcases hh2 with q | ⟨c2,q,e2⟩
    ·exact .inl q
    ·refine .inr ⟨c2,q,?_⟩
     have hl:=I.hok.lt e2
     rw[zh (ay (aq hl hsz)),zh (ay (aq hl hge)),zh (fun z=>by rw[z,hP] at e2;cases e2)]
     exact e2
 ·refine PySem.W.kla_makeFunctionHit (mg:=X.mg) hcl I.ok.glob hg hcode (hC.keeps I.bk) hPo ht hit (jH hB I.bk) fun ctv h' tk hk hsz=>?_
  have hfr:H h'.objs.size=none:=I.hok.fresh hsz
  have I1:=I.laid (a:=h'.objs.size) (t':=tk) (h':=h'.push { cls:=.type "function",data:=.func (bY "<lambda>" (X.env.qual ++ "<lambda>") params body scope [(y,c)] ((X.mg "__name__").getD .none) (.ref c') ctv) })
   (o:=fnE h'.objs.size { cls:=.type "function",data:=.func (bY "<lambda>" (X.env.qual ++ "<lambda>") params body scope [(y,c)] ((X.mg "__name__").getD .none) (.ref c') ctv) })
   (fun b u e=>af _ (hk b u e)) hsz (V3 (aH _ rfl))
  have sm:=zf (o:=fnE h'.objs.size { cls:=.type "function",data:=.func (bY "<lambda>" (X.env.qual ++ "<lambda>") params body scope [(y,c)] ((X.mg "__name__").getD .none) (.ref c') ctv) }) hfr
  exact⟨.ref h'.objs.size,_,I1,rfl,h _ _ hfr ⟨c',_,ctv,sm _ _ hc',zb⟩ ⟨ps,sm _ _ hP,ht,.inr ⟨c',hit,sm _ _ hc'⟩⟩ (fun b o _ e=>sm _ _ e) fun pos' q' _ ht'=>ht'.same' sm⟩
end
def Jn(P:Addr)(pos:Pos)(q:Str)(LA:Hp->Addr->Prop):TE:=fun σ H Q=>TabOk H P pos q/\∀ f H',H f=none->LA H' f->TabOk H' P pos q->SamT P H H'->QC P pos H H'->Q (.ref f) H'
def Zm{α:Type}(K:rC)(F:KeyFam α)(P:Addr)(pos:Pos)(q:Str)(LA:Hp->Addr->Prop)(iy:Nat)(te tb:TE):TE:=fun σ H Q=>te σ H fun v H1=>TabOk H1 P pos q /\
 ∀ f H2,H1 f=none->LA H2 f->TabOk H2 P pos q->SamT P H1 H2->QC P pos H1 H2->∃ l xs vy,v=.ref l/\SqL K H2 l xs/\xs.length<64/\σ[iy]? = some (some vy)/\uh (fun x H Q=>LA H f/\tb [some x,some vy] H Q) xs [] H2 (Yz K F xs Q)
section
variable{X:Cx}{cc P c:Addr}{x p y:Str}{params:Arguments}{body e:Expr}{scope:Scope}{lpos kpos pos pp:Pos}{k iy:Nat}{te tb:TE}
theorem Qr(hcode:X.env.code=.ref cc)(hC:PySem.W.CodeHd X.base cc P)(hB:X.base.BuiltinsAt X.mg P)(hgP:rq≠P)(hcl:closureFor scope X.env=pure [(y,c)])(hdef:defaultsOf params X.env=([],[])) :
  PE X (.Lambda params body scope lpos) (Jn P lpos (X.env.qual ++ "<lambda>") fun H f=>LamAt H f "<lambda>" (X.env.qual ++ "<lambda>") params body scope [(y,c)]):=by
 intro pins s σ H Q I h
 exact YT hcode hC hB hgP hcl hdef I h.1 h.2
theorem jI{α:Type}{F:KeyFam α}(FO:F.Ok)(S:UO p y scope)(hr:Room (k+3) X.A)(hg:Gl X x)(hm:X.mg x=none)(hv:bootBuiltins x=some (.builtin "sorted"))(ha:PA X [e] (zN te wQ))
  (hcode:X.env.code=.ref cc) (hC:PySem.W.CodeHd X.base cc P) (hB:X.base.BuiltinsAt X.mg P) (hgP:rq≠P) (hcl:closureFor scope X.env=pure [(y,c)]) (hdef:defaultsOf params X.env=([],[]))
  (hbind:∀(cv pm ctv u:Value),bindArgs (bY "<lambda>" (X.env.qual ++ "<lambda>") params body scope [(y,c)] pm cv ctv) ⟨[u],[]⟩=pure [(p,u)]) (hy:X.N[iy]? = some y) (hvis:X.env.scope.names.lookup y=some .cell) (hc:X.env.cells.lookup y=some c)
  (hb:∀(s:Shared) (H:Hp) (f:Addr) (cv:Value),Room k (Y0 X [p,y] s H (X.env.qual ++ "<lambda>") scope f cv [(y,c)]).A->PE (Y0 X [p,y] s H (X.env.qual ++ "<lambda>") scope f cv [(y,c)]) body tb)
  (hn:x≠"__name__":=by decide) (hdb:(x == ("__debug__" : Str))=false:=by decide)
  (hks:(backToKw pos (keywordEach [⟨some "key",.Lambda params body scope lpos,kpos⟩] X.env)).filterMap (·.1)=[bA "key"]:=by rfl)
  (hst:backTo pos (rA [e] X.env)=(false,eval e X.env)::backTo pos (rA [] X.env):=by rfl) (hpl:(backTo pos (rA [e] X.env)).any (·.1)=false:=by rfl)
  (hall:(backToKw pos (keywordEach [⟨some "key",.Lambda params body scope lpos,kpos⟩] X.env)).all (·.1.isSome)=true:=by rfl) (hkw:(backToKw pos (keywordEach [⟨some "key",.Lambda params body scope lpos,kpos⟩] X.env)).any (·.1.isNone)=false:=by rfl) :
  PE X (.Call (.Name x pp) [e] [⟨some "key",.Lambda params body scope lpos,kpos⟩] pos) (Zm X.K F P lpos (X.env.qual ++ "<lambda>") (fun H f=>LamAt H f "<lambda>" (X.env.qual ++ "<lambda>") params body scope [(y,c)]) iy te tb):=by
 intro pins s σ H Q I h
 have hlam:PE X (.Lambda params body scope lpos) (Jn P lpos (X.env.qual ++ "<lambda>") fun H f=>LamAt H f "<lambda>" (X.env.qual ++ "<lambda>") params body scope [(y,c)]):=Qr hcode hC hB hgP hcl hdef
 refine wpAny_Call_Name_kw (ug I hg hm hv ?_ hn hdb)
 have h':(zN te wQ) σ H (Ki fun v H1=>TabOk H1 P lpos (X.env.qual ++ "<lambda>")/\∀ f H2,H1 f=none->LamAt H2 f "<lambda>" (X.env.qual ++ "<lambda>") params body scope [(y,c)]->TabOk H2 P lpos (X.env.qual ++ "<lambda>")->SamT P H1 H2->QC P lpos H1 H2 ->
   ∃ l xs vy,v=.ref l/\SqL X.K H2 l xs/\xs.length<64/\σ[iy]? = some (some vy)/\uh (fun x H Q=>LamAt H f "<lambda>" (X.env.qual ++ "<lambda>") params body scope [(y,c)]/\tb [some x,some vy] H Q) xs [] H2 (Yz X.K F xs Q)):=h
 refine callWith_kw (thn (ha pos pins s σ H _ I h') fun us s1 ⟨vs,H1,I1,r1,q1⟩=>?_) hst hpl hall hkw
 obtain⟨v,rfl,hT,q1⟩:=XY q1
 obtain⟨u,rfl,ru⟩:=wM r1
 refine thn ((Xi hlam VY:PK X [⟨some "key",.Lambda params body scope lpos,kpos⟩] _) pos pins s1 σ H1 (Ki fun kv H2=>∃ f,kv=.ref f/\LamAt H2 f "<lambda>" (X.env.qual ++ "<lambda>") params body scope [(y,c)] /\
   ∃ l xs vy,v=.ref l/\SqL X.K H2 l xs/\xs.length<64/\σ[iy]? = some (some vy)/\uh (fun x H Q=>LamAt H f "<lambda>" (X.env.qual ++ "<lambda>") params body scope [(y,c)]/\tb [some x,some vy] H Q) xs [] H2 (Yz X.K F xs Q)) I1 ⟨hT,fun f H2 a1 a2 a3 a4 a5=>⟨f,rfl,a2,q1 f H2 a1 a2 a3 a4 a5⟩⟩) fun ws s2 ⟨zs,H2,I2,r2,q2⟩=>?_
 obtain⟨kv,rfl,f,rfl,hLA,l,xs,vy,rfl,hS,hz,hσ,hk⟩:=XY q2
 obtain⟨w',rfl,rw'⟩:=wM r2
 cases rw'
 cases ru
 rw[hks]
 show wpAny _ _ (call (.builtin "sorted") [.ref l] [(bA "key",.ref f)]) _ _ _
 refine Wc FO (k:=k+1) hr (fun pins' s3 H3 x3 u3 Q3 I3 r3 h3=>?_) I2 hS hz hk
 obtain⟨⟨c',pm,ctv,e1,e2⟩,h4⟩:=h3
 have hcd:s3.heap.CodeRec (.ref c') (X.env.qual ++ "<lambda>"):=(I3.hok _ _ e1).1
 have ho:=(I3.hok _ _ e2).1
 exact WY (k:=k) S hr (hbind _ _ _ _) I3 ho hcd hy hσ hvis hc r3 (hb s3 H3 f (.ref c') (hr.in1.in1.deeper _)) h4
end
end L3
namespace L3
section
variable{P:Program}{w:World}{K:rC}{mg mb:Str->Option Value}{CX:CXT}{k:Nat}{fa a T cc T' cc':Addr}{fd:FuncData}{x:Str}{sp:Sp}{s₁:Shared}{vs:List Value}{ns:List Int}
noncomputable def VS:Obj:={ cls:=.none,data:=.fields #[] }
theorem qE(KX:K.In s₁.heap)(hKT:K.lookup T=none)(hKT':K.lookup T'=none)(hT:s₁.heap.get? T=some VS)(hTc:isCodeTable s₁.heap T)(hT':s₁.heap.get? T'=some VS)(hTc':isCodeTable s₁.heap T')(hns:s₁.heap.Ns rq mg)(hb:s₁.heap.Ns builtinsNs mb)(hbb:∀ x:Str,x≠"__name__"->mb x=bootBuiltins x)(hlim:s₁.heap.NoLimit)(hg:s₁.gens=#[])
  (ha:s₁.heap.get? a=some { cls:=.type "list",data:=.seq vs.toArray }) (hr:Room k callerA)
  (hbm:s₁.heap.BuiltinsAt mg T) (hcd:PySem.W.CodeHd s₁.heap cc T) (hbm':s₁.heap.BuiltinsAt mg T') (hcd':PySem.W.CodeHd s₁.heap cc' T') (F:∀ base:Heap,K.In base->base.Ns rq mg->base.BuiltinsAt mg T->PySem.W.CodeHd base cc T->base.BuiltinsAt mg T'->PySem.W.CodeHd base cc' T'->FnOk P w K mg base CX k fa fd [x] sp) (hbind:∀(s:Shared) (u:Value),BindsTo s fd ⟨[u],[]⟩ [(x,u)])
  (hCX:∀ H e s',CX [] H s₁ (fun _ _ _=>False) e s'->False) (H:Hp) (h1:H T=some (.tbl #[])) (h1':H T'=some (.tbl #[])) (h2:∀ b u,H b=some u->b=T\/b=T'\/(b=a/\K.lookup a=none/\u=.frz { cls:=.type "list",data:=.seq vs.toArray } (.lst (ns.map V.int))))
  (hok:HOk P w H s₁.heap) (hsp:sp [.ref a] H (fun v _=>v=.bl true) fun _ _ _=>False) :
  codeAny (model P w) callerA (.call (.ref fa) ⟨[.ref a],[]⟩) (fun r s'=>r=.ok (.ret (.bool true))/\OldK s₁.heap s'.heap/\s'.os=s₁.os/\AllBare s'.gens) s₁:=by
 have stay:∀ b o,s₁.heap.get? b=some o->(b≠T)->(b≠T')->(b≠a)->(WA s₁.heap H).get? b=some o:=fun b o e n1 n1' n2=>Zr e (by
  cases q:H b with
  | none=>rfl
  | some u =>
   rcases h2 b u q with z | z | z
   ·exact absurd z n1
   ·exact absurd z n1'
   ·exact absurd z.1 n2)
 have nsStay:∀(b:Addr) (m:Str->Option Value),s₁.heap.Ns b m->(WA s₁.heap H).Ns b m:=fun b m hN=>by
  obtain⟨o,es,ep,e,d,rest⟩:=hN
  refine⟨o,es,ep,stay b o e (fun z=>?_) (fun z=>?_) (fun z=>?_),d,rest⟩
  ·rw[z,hT] at e
   cases e
   cases d
  ·rw[z,hT'] at e
   cases e
   cases d
  ·rw[z,ha] at e
   cases e
   cases d
 have kStay:K.In (WA s₁.heap H):=fun b o e=>by
  have g:=KX b o e
  refine Zr g ?_
  cases q:H b with
  | none=>rfl
  | some u =>
   rcases h2 b u q with z | z | z
   ·rw[z,hKT] at e
    cases e
   ·rw[z,hKT'] at e
    cases e
   ·rw[z.1,z.2.1] at e
    cases e
 have bStay:∀ T0,s₁.heap.BuiltinsAt mg T0->(WA s₁.heap H).BuiltinsAt mg T0:=fun T0 hbm=>by
  obtain⟨bm,o,b1,b2,b3,b4,b5,b6,b7,b8⟩:=hbm
  refine⟨bm,o,b1,b2,b3,b4,stay bm o b5 (fun z=>?_) (fun z=>?_) (fun z=>?_),b6,b7,b8⟩
  ·rw[z,hT] at b5
   cases b5
   cases b6
  ·rw[z,hT'] at b5
   cases b5
   cases b6
  ·rw[z,ha] at b5
   cases b5
   simp at b6
 have cStay:∀ c0 T0,PySem.W.CodeHd s₁.heap c0 T0->PySem.W.CodeHd (WA s₁.heap H) c0 T0:=fun c0 T0 hcd=>by
  obtain⟨o,vs',file,tf,flags,tg,inF,text,tt,c1,c2,c3,c4,c5,c6,c7,c8,c9,c10⟩:=hcd
  refine⟨o,vs',file,tf,flags,tg,inF,text,tt,stay c0 o c1 (fun z=>?_) (fun z=>?_) (fun z=>?_),c2,c3,c4,c5,c6,c7,c8,c9,c10⟩
  ·rw[z,hT] at c1
   cases c1
   cases c2
  ·rw[z,hT'] at c1
   cases c1
   cases c2
  ·rw[z,ha] at c1
   cases c1
   simp at c2
 obtain⟨mc,l1,l2⟩:=hlim
 have M0:Mod K mg (WA s₁.heap H):={ kin:=kStay,glob:=nsStay _ _ hns,blt:=⟨mb,nsStay _ _ hb,hbb⟩,nolimit:=⟨mc,nsStay _ _ l1,l2⟩ }
 have E0:Env0 P w K mg (WA s₁.heap H) callerA [] s₁ H:={ frames:=rfl,mod:=M0,bs:=fun b o e=>U2 e,bsz:=Nat.le_of_eq (WV _ _),funs:=trivial,frf:=fun b z=>(nomatch (show b ∈ ([]:List Addr) from z)),hok:=hok,bare:=.of_eq hg }
 refine codeAny_mono ((F _ kStay (nsStay _ _ hns) (bStay _ hbm) (cStay _ _ hcd) (bStay _ hbm') (cStay _ _ hcd')).run callerA [] s₁ H ⟨[.ref a],[]⟩ [.ref a] [.ref a] (fun v _=>v=.bl true) (fun _ _ _=>False) hr E0 (hbind s₁ (.ref a)) (.cons rfl .nil) hsp) fun r s' hq=>?_
 rcases r with e | fl
 ·exact (hCX H e s' hq).elim
 rcases fl with _ | _ | _ | u
 all_goals first | exact False.elim hq | skip
 obtain⟨v,H',e1,e2,un,hok',rv,ev⟩:=hq
 have ev':v=V.bl true:=ev
 subst ev'
 have eu:u=Value.bool true:=rv
 subst eu
 have tabs:∀ T0,H T0=some (.tbl #[])->∃ more,s'.heap.get? T0=some { cls:=.none,data:=.fields (#[] ++ more) }:=fun T0 hh=>by
  obtain⟨more,hT2⟩:=un.tbls T0 #[] hh
  exact⟨more,hok' T0 _ hT2⟩
 have each:∀ b o,s₁.heap.get? b=some o->b≠T->b≠T'->s'.heap.get? b=some o:=fun b o e n n'=>by
  cases q:H b with
  | none=>exact un.keep b o e q (fun z=>(nomatch (show b ∈ ([]:List Addr) from z))) (fun z=>(nomatch z))
  | some ob =>
   rcases h2 b ob q with z | z | ⟨z,_,zz⟩
   ·exact absurd z n
   ·exact absurd z n'
   ·subst zz
    have g:=(hok' b _ (un.frzs b _ _ q)).1
    rw[z,ha] at e
    cases e
    exact g
 obtain⟨m1,t1⟩:=tabs T h1
 obtain⟨m2,t2⟩:=tabs T' h1'
 refine⟨rfl,⟨fun b o e=>?_,fun b o e=>?_⟩,e1,e2⟩
 ·by_cases hbT:b=T
  ·subst hbT
   rw[hT] at e
   cases e
   exact .inr (.inl ⟨hTc,rfl,#[],m1,rfl,t1⟩)
  ·by_cases hbT':b=T'
   ·subst hbT'
    rw[hT'] at e
    cases e
    exact .inr (.inl ⟨hTc',rfl,#[],m2,rfl,t2⟩)
   ·exact .inl (each b o e hbT hbT')
 ·by_cases hbT:b=T
  ·subst hbT
   exact⟨_,t1⟩
  ·by_cases hbT':b=T'
   ·subst hbT'
    exact⟨_,t2⟩
   ·exact⟨o,each b o e hbT hbT'⟩
theorem YE(KX:K.In s₁.heap)(hKT:K.lookup T=none)(hKT':K.lookup T'=none)(hT:s₁.heap.get? T=some VS)(hTc:isCodeTable s₁.heap T)(hT':s₁.heap.get? T'=some VS)(hTc':isCodeTable s₁.heap T')(hns:s₁.heap.Ns rq mg)(hb:s₁.heap.Ns builtinsNs mb)(hbb:∀ x:Str,x≠"__name__"->mb x=bootBuiltins x)(hlim:s₁.heap.NoLimit)(hg:s₁.gens=#[])
  (ha:s₁.heap.get? a=some { cls:=.type "list",data:=.seq vs.toArray }) (hi:IntsAre vs ns) (hl:ns.length<=rB) (hr:Room k callerA)
  (hbm:s₁.heap.BuiltinsAt mg T) (hcd:PySem.W.CodeHd s₁.heap cc T) (hbm':s₁.heap.BuiltinsAt mg T') (hcd':PySem.W.CodeHd s₁.heap cc' T') (F:∀ base:Heap,K.In base->base.Ns rq mg->base.BuiltinsAt mg T->PySem.W.CodeHd base cc T->base.BuiltinsAt mg T'->PySem.W.CodeHd base cc' T'->FnOk P w K mg base CX k fa fd [x] sp) (hbind:∀(s:Shared) (u:Value),BindsTo s fd ⟨[u],[]⟩ [(x,u)])
  (hCX:∀ H e s',CX [] H s₁ (fun _ _ _=>False) e s'->False) (hsp:∀ H:Hp,H T=some (.tbl #[])->H T'=some (.tbl #[])->SqL K H a (ns.map V.int)->sp [.ref a] H (fun v _=>v=.bl true) fun _ _ _=>False) :
  codeAny (model P w) callerA (.call (.ref fa) ⟨[.ref a],[]⟩) (fun r s'=>r=.ok (.ret (.bool true))/\OldK s₁.heap s'.heap/\s'.os=s₁.os/\AllBare s'.gens) s₁:=by
 have rv:=jS hi
 have hlv:=hi.length
 have hTa:a≠T:=fun z=>by
  rw[z,hT] at ha
  cases ha
 have hTa':a≠T':=fun z=>by
  rw[z,hT'] at ha
  cases ha
 have g1:(upd (upd (fun _=>none) T (.tbl #[])) T' (.tbl #[]):Hp) T=some (.tbl #[]):=by
  by_cases z:T=T'
  ·rw[z,zb]
  ·rw[zh z,zb]
 have only:∀ b u,(upd (upd (fun _=>none) T (.tbl #[])) T' (.tbl #[]):Hp) b=some u->(b=T\/b=T')/\u=.tbl #[]:=fun b u e=>by
  by_cases hbT:b=T'
  ·subst hbT
   rw[zb] at e
   cases e
   exact⟨.inr rfl,rfl⟩
  ·rw[zh hbT] at e
   by_cases hbT:b=T
   ·subst hbT
    rw[zb] at e
    cases e
    exact⟨.inl rfl,rfl⟩
   ·rw[zh hbT] at e
    cases e
 have okT:∀(H:Hp) b u,(b=T\/b=T')/\u=.tbl #[]->ObjOk P w H s₁.heap b u:=fun H b u h=>by
  obtain⟨h,rfl⟩:=h
  rcases h with rfl | rfl
  ·exact hT
  ·exact hT'
 rcases hk:K.lookup a with _ | o
 ·refine qE (ns:=ns) KX hKT hKT' hT hTc hT' hTc' hns hb hbb hlim hg ha hr hbm hcd hbm' hcd' F hbind hCX (upd (upd (upd (fun _=>none) T (.tbl #[])) T' (.tbl #[])) a (.frz { cls:=.type "list",data:=.seq vs.toArray } (.lst (ns.map V.int)))) ?_ ?_ (fun b u e=>?_) (fun b u e=>?_) ?_
  ·rw[zh (Ne.symm hTa)]
   exact g1
  ·rw[zh (Ne.symm hTa'),zb]
  ·by_cases hba:b=a
   ·subst hba
    rw[zb] at e
    cases e
    exact .inr (.inr ⟨rfl,hk,rfl⟩)
   ·rw[zh hba] at e
    exact (only b u e).1.imp id .inl
  ·by_cases hba:b=a
   ·subst hba
    rw[zb] at e
    cases e
    exact⟨ha,by rw[aa];exact hl,vs,_,rv,ha⟩
   ·rw[zh hba] at e
    exact okT _ b u (only b u e)
  ·exact hsp _ (by rw[zh (Ne.symm hTa)];exact g1) (by rw[zh (Ne.symm hTa'),zb]) (.inl (.inr ⟨_,zb⟩))
 ·have e:=KX a o hk
  rw[ha] at e
  cases e
  exact qE (ns:=ns) KX hKT hKT' hT hTc hT' hTc' hns hb hbb hlim hg ha hr hbm hcd hbm' hcd' F hbind hCX (upd (upd (fun _=>none) T (.tbl #[])) T' (.tbl #[])) g1 zb (fun b u e=>(only b u e).1.imp id .inl) (fun b u e=>okT _ b u (only b u e)) (hsp _ g1 zb (.inr ⟨_,vs.toArray,_,hk,rfl,rfl,rfl,by rw[ah,hlv];exact hl,by simpa using rv⟩))
end
theorem walk_ofT2{l:PySem.W.OpenLaw}{n k:Nat}{q:Program}{loose:List Str}{XP:(Str->Option Value)->Heap->Prop}{YP:World->Heap->Prop}{d din din':DefRec}{K:Params->rC}{CX:World->CXT}{sp:World->Addr->Addr->Sp}{x:Str}
  (hn:l.most=some n) (hn2:n<=rB) (hdf:d.params.defaults=[]) (hr:Room k callerA) (hdin:din ∈ recsOf q) (hdin':din' ∈ recsOf q)
  (hY:∀(w:World) (h:Heap),YP w h->(K w.params).In h) (hno:∀ w:World,Qu (K w.params)=true)
  (F:∀(w:World) (mg:Str->Option Value) (fa:Addr) (h:Heap) (cc T cc' T':Addr),(K w.params).In h->h.Ns rq mg->mg d.name=some (.ref fa)->(∃ a o fd,mg din.name=some (.ref a)/\h.get? a=some o/\o.data=.func fd/\fd.code=.ref cc)->rq≠T->(∃ a o fd,mg din'.name=some (.ref a)/\h.get? a=some o/\o.data=.func fd/\fd.code=.ref cc')->rq≠T' ->
   ∃ fd:FuncData,(∀(s:Shared) (u:Value),BindsTo s fd ⟨[u],[]⟩ [(x,u)]) /\
    ∀ base:Heap,(K w.params).In base->base.Ns rq mg->base.BuiltinsAt mg T->PySem.W.CodeHd base cc T->base.BuiltinsAt mg T'->PySem.W.CodeHd base cc' T'->FnOk l.prog w (K w.params) mg base (CX w) k fa fd [x] (sp w T T'))
  (hsp:∀(w:World) (H:Hp) (a:Addr) (ns:List Int) (T T':Addr),ns.length<=n->(∀ z ∈ ns,Ji z)->H T=some (.tbl #[])->H T'=some (.tbl #[])->SqL (K w.params) H a (ns.map V.int)->sp w T T' [.ref a] H (fun v _=>v=.bl true) fun _ _ _=>False)
  (hCX:∀(w:World) (H:Hp) (s:Shared) (e:Value) (s':Shared),CX w [] H s (fun _ _ _=>False) e s'->False) :
  PySem.W.WalkO q loose XP YP l.row.toRowW d [] (fun f vs=>fL f vs):=by
 refine jN hn hdf fun w s₀ s₁ mg mb fa o pm cd doc a vs ns G Y ho hd hcd hmg hobj hints hlen hb' hg=>?_
 have X0:=hY w _ Y
 obtain⟨ai,oi,fdi,cc,T,m1,m2,m3,m4,m5,m6⟩:=G.T.tab din hdin
 obtain⟨ai',oi',fdi',cc',T',m1',m2',m3',m4',m5',m6'⟩:=G.T.tab din' hdin'
 have hcd1:PySem.W.CodeHd s₁.heap cc T:=PySem.W.CodeHd.of m5 m6
 have hcd2:PySem.W.CodeHd s₁.heap cc' T':=PySem.W.CodeHd.of m5' m6'
 have hTo:s₁.heap.get? T=some VS:=m6.2
 have hTo':s₁.heap.get? T'=some VS:=m6'.2
 have hgT:∀ T0,s₁.heap.get? T0=some VS->rq≠T0:=fun T0 h0 z=>by
  obtain⟨o,es,ep,e,hd',_⟩:=G.T.g
  rw[z,h0] at e
  cases e
  cases hd'
 have hbm:∀ T0,s₁.heap.get? T0=some VS->s₁.heap.BuiltinsAt mg T0:=fun T0 h0=>by
  obtain⟨bm,ob,b1,b2,b3,b4,b5,b6⟩:=G.T.bmain
  refine⟨bm,ob,b1,b2,fun z=>?_,fun z=>?_,b3,b4,b5,b6⟩
  ·obtain⟨o,es,ep,e,hd',_⟩:=G.T.g
   rw[z,e] at b3
   cases b3
   rw[hd'] at b6
   cases b6
  ·rw[z,h0] at b3
   cases b3
   cases b4
 obtain⟨fd,hbd,hF⟩:=F w mg fa _ cc T cc' T' X0 G.T.g hmg ⟨ai,oi,fdi,m1,m2,m3,m4⟩ (hgT _ hTo) ⟨ai',oi',fdi',m1',m2',m3',m4'⟩ (hgT _ hTo')
 exact YE (T:=T) (T':=T') X0 (ZN (hno w) X0 hTo) (ZN (hno w) X0 hTo') hTo m6.isCodeTable hTo' m6'.isCodeTable G.T.g G.T.b G.T.builtins G.T.nolimit hg hobj hints (bu hlen hn2) hr (hbm _ hTo) hcd1 (hbm _ hTo') hcd2 hF hbd (fun H e s'=>hCX w H s₁ e s') fun H h1 h1' h2=>hsp w H a ns T T' hlen hb' h1 h1' h2
end L3
namespace PySem
namespace F
end F
section
variable{prog:Program}{w:World}{A:Around}{E:Value->Shared->Prop}{s:Shared}
def Heap.IsRevS(h:Heap)(a:Addr)(x:Str)(t:Tok)(i:Int):Prop:=∃ o,h.get? a=some o/\o.cls=.type "reversed"/\o.data=.fields #[.str x t,rawInt i]
theorem Heap.IsRevS.typeIs{a:Addr}{x:Str}{t:Tok}{i:Int}(z:s.heap.IsRevS a x t i):s.TypeIs (.ref a) "reversed":=let ⟨o,ho,hc,_⟩:=z; ⟨o,ho,hc⟩
theorem Heap.IsRevS.at{h h':Heap}{a:Addr}{x:Str}{t:Tok}{i:Int}(z:h.IsRevS a x t i)(e:∀ o,h.get? a=some o->h'.get? a=some o):h'.IsRevS a x t i:=let ⟨o,ho,r⟩:=z; ⟨o,e _ ho,r⟩
end
section
variable{prog:Program}{w:World}{A:Around}{E:Value->Shared->Prop}{s:Shared}
end
end PySem
namespace L3
section
variable{X:Cx}{o a:Expr}{to:TE}{ta:TA}{apos cpos p pos2:Pos}
end
end L3
namespace L2
section
variable{X:Cx}{tg:Expr}
end
end L2
namespace L3
open PySem L2
section
variable{g:TG}{tt:TT}{te:TE}{own:Nat}{ix:List Nat}{σ:L2.St}{H1:Hp}{Q:VK}{D:Addr}
end
end L3
namespace L3
open PySem.AutoSeq1 (wpAny_loadPart')
open MeetsSeq MeetsSeq2 MeetsSeq3 SeqRoads2 SeqAt
section
variable{X:Cx}{pins:List (Addr × Obj)}{σ:St}{H:Hp}{s:Shared}
end
end L3
namespace L3
section
variable{prog:Program}{w:World}{A:Around}{R:Result->Shared->Prop}{I:Addr}{fp wr:List Addr}{G:Array GenState->Array GenState->Prop}{n:Nat}{P:Nat->Value->Prop}{St:Nat->Shared->Prop}
end
section
variable{prog:Program}{w:World}{A:Around}{E:Value->Shared->Prop}{s:Shared}
end
end L3
namespace L3
section
variable{X:Cx}
end
end L3
namespace L3
section
variable{g:TG}{tt:TT}{te:TE}{own:Nat}{ix:List Nat}{σ:L2.St}{H1:Hp}{Q:VK}{D:Addr}
end
end L3
namespace L3
section
variable{X:Cx}{pos:Pos}
end
end L3
namespace L3
section
variable{X:Cx}{pos:Pos}
end
end L3
namespace L3
section
variable{X:Cx}{scope:Scope}{own caps:List Str}{ix:List Nat}{elt tg iter:Expr}{ifs:List Expr}{pos:Pos}{wi:TI}{g:TG}{tt:TT}{te:TE}
end
end L3
namespace L3
section
variable{X:Cx}{scope:Scope}{own caps:List Str}{ix:List Nat}{cl:List (Str × Addr)}{pins:List (Addr × Obj)}{σ:St}{H:Hp}{s:Shared}{fp:List Addr}{E:Value->Shared->Prop}
end
section
variable{X:Cx}{scope:Scope}{own caps:List Str}{ix:List Nat}{elt tg iter:Expr}{ifs:List Expr}{pos:Pos}{wi:TI}{g:TG}{tt:TT}{te:TE}
end
end L3
namespace L3
section
variable{X:Cx}
def QW(K:rC):V->List V->Hp->VK->Prop:=fun x xs H Q=>∃(p:Addr) (ws:List (List Nat)) (w:List Nat),x=.ref p/\xs=[.str (tx w)]/\SqL K H p (ws.map fun w=>V.str (tx w))/\w ∈ ws/\Q (.int (ws.idxOf w:Nat)) H
theorem ZD:MtR X "list.index" (QW X.K):=by
 intro pins s σ H x xs v us Q I rx rv h
 obtain⟨p,ws,w,rfl,rfl,hS,hw,q⟩:=h
 cases rx
 obtain⟨u,rfl,tz,rfl⟩:=wM rv
 obtain⟨its,r,pl,hl⟩:=I.list hS
 have s16:(rB:Nat)=16777216:=sizeLine_eq
 have hlen:=r.length
 rw[aa] at hlen hl
 have hlt:=aC hw
 have hat:∀(j:Nat) (hj:j<its.toArray.size),∃ u t,ws[j]? = some u/\its.toArray[j]=.str (tx u) t:=fun j hj=>by
  rw[ah] at hj
  have hj':j<ws.length:=by lia
  obtain⟨u,hu,t,rfl⟩:=yE r (j:=j) (x:=.str (tx ws[j])) (by rw[au,ag hj'];rfl)
  exact⟨_,t,ag hj',by simpa using (rD.mp hu).2⟩
 have inj:∀ u:List Nat,((tx u).cps.toList == (tx w).cps.toList)=true->u=w:=fun u h=>by
  have:=beq_iff_eq.mp h
  exact (show u=w from this)
 obtain⟨o,n0,e,hc,hd,hda⟩:=id pl
 obtain⟨oc,od,oda,os⟩:=o
 simp only at hc hd hda
 subst hc hd hda
 refine call_meets F.slot_list_index ⟨_,e,rfl⟩ F.entry_list_index (F.args_list_index_2 _ _) (PySem.SeqAt.list_indexAt p its.toArray n0 _ os (.str (tx w) tz) (KB w) (ws.idxOf w) (by rw[ah];lia) (by lia) ?_ ?_) ⟨e,?_,?_⟩
 ·obtain⟨u,t,h1,h2⟩:=hat (ws.idxOf w) (by rw[ah];lia)
  rw[h2]
  rw[ag hlt,bq] at h1
  cases h1
  simp [KB]
 ·intro m hm hlt'
  obtain⟨u,t,h1,h2⟩:=hat m hm
  rw[h2]
  have:=dw (p:=(· == w)) hlt'
  obtain⟨h3,h4⟩:=rD.mp h1
  simp only[h4] at this
  cases hb:KB w (.str (tx u) t) with
  | false=>rfl
  | true =>
   have e2:=inj u hb
   subst e2
   simp at this
 ·intro y hy
  obtain⟨j,hj,rfl⟩:=Array.mem_iff_getElem.mp hy
  obtain⟨u,t,h1,h2⟩:=hat j hj
  rw[h2]
  exact (PySem.SeqRoads2.EqGives.str _ _ _ _).at _ _
 ·exact⟨.int _,H,I.tok _,⟨_,rfl⟩,q⟩
end
end L3
namespace L3
section
variable{X:Cx}{pins:List (Addr × Obj)}{σ:L2.St}{H:Hp}{s:Shared}
theorem Uf{K:rC}{H:Hp}:∀{l:List D} {xs:List V} {us:List Value},Iss K H l xs->Vals xs us->∀{j:Nat} {u:Value},us[j]? = some u->∃ x e,RelV x u/\Is K H e x/\l[j]? = some e
 | [],xs,us,h,r,j,u,hu=>by
  simp only[Iss] at h
  subst h
  cases r
  simp at hu
 | e::l,xs,us,h,r,j,u,hu=>by
  simp only[Iss] at h
  obtain⟨v,vs,rfl,h1,h2⟩:=h
  cases r with
  | cons r1 r2 =>
   cases j with
   | zero =>
    cases hu
    exact⟨_,e,r1,h1,rfl⟩
   | succ j=>exact Uf h2 r2 hu
theorem YL{K:rC}{H:Hp}:∀{l:List D} {xs:List V},Iss K H l xs->l.length=xs.length
 | [],xs,h=>by simp only[Iss] at h;rw[h];rfl
 | e::l,xs,h=>by
  simp only[Iss] at h
  obtain⟨v,vs,rfl,h1,h2⟩:=h
  rw[aI,aI,YL h2]
def Jr(K:rC):V->List V->Hp->VK->Prop:=fun x xs H Q=>∃(p:Addr) (l:List D) (y:V) (d:D) (i:Nat),x=.ref p/\xs=[y]/\Is K H (.lst l) (.ref p)/\Is K H d y/\va l<50/\l.length<=1000/\(∃ e,l[i]? = some e/\eqD e d=true)/\(∀ j e,j<i->l[j]? = some e->eqD e d=false)/\Q (.int (i:Nat)) H
theorem uk(hu:X.A.units+100<cLine):MtR X "list.index" (Jr X.K):=by
 intro pins s σ H x xs v us Q I rx rv h
 obtain⟨p,l,y,d,i,rfl,rfl,hl,hd,hp,hl1,⟨e,he,hed⟩,hb,q⟩:=h
 cases rx
 obtain⟨u,rfl,ru⟩:=wM rv
 simp only[Is] at hl
 obtain⟨_,xs,e0,hq,hi⟩:=hl
 cases e0
 obtain⟨its,r,pl,hz⟩:=I.list hq
 have s16:(rB:Nat)=16777216:=sizeLine_eq
 have huA:X.A.in1.units+50<cLine:=by show X.A.units+1+50<cLine;lia
 have hlen:its.length=l.length:=by rw[<- r.length];exact (YL hi).symm
 have hil:=(rD.mp he).1
 obtain⟨o,n0,e,hc,hdd,hda⟩:=id pl
 obtain⟨oc,od,oda,os⟩:=o
 simp only at hc hdd hda
 subst hc hdd hda
 have at_:∀(j:Nat) (hj:j<its.toArray.size),∃ e,l[j]? = some e/\eqAtV X.K H d its.toArray[j]=eqD e d:=fun j hj=>by
  rw[ah] at hj
  obtain⟨x,e,r1,i1,h1⟩:=Uf hi r (j:=j) (u:=its[j]) (ag hj)
  exact⟨e,h1,ut I r1 i1⟩
 refine call_meets F.slot_list_index ⟨_,e,rfl⟩ F.entry_list_index (F.args_list_index_2 _ _) (PySem.SeqAt.list_indexAt p its.toArray n0 _ os u (eqAtV X.K H d) i (by rw[ah];lia) (by lia) ?_ ?_) ⟨e,?_,?_⟩
 ·obtain⟨e1,h1,h2⟩:=at_ i (by rw[ah];lia)
  rw[h2]
  rw[he] at h1
  cases h1
  exact hed
 ·intro m hm hlt'
  obtain⟨e1,h1,h2⟩:=at_ m hm
  rw[h2]
  exact hb m e1 hlt' h1
 ·intro w hw
  obtain⟨z,e,rz,iz,me⟩:=qR r hi (by simpa using hw)
  rw[ut I rz iz]
  exact vJ I 50 X.A.in1 e d z y w u huA (bX (V4 me) hp) iz hd rz ru
 ·exact⟨.int _,H,I.tok _,⟨_,rfl⟩,q⟩
end
end L3
namespace LL
open PySem L2 L3
noncomputable def top(i:Nat):Stmt:=PySem.Challenge.pw_letterlaw_k73_whole_forms_and_rooms.main.body.getD i (.Pass ⟨0,0,0,0⟩)
noncomputable abbrev z9:Stmt:=zM (top 5) 0
noncomputable abbrev zJ:Stmt:=zM (top 6) 0
noncomputable abbrev yl:Stmt:=top 12
noncomputable abbrev xy:Stmt:=top 13
noncomputable abbrev wL:Stmt:=top 14
noncomputable abbrev Qp:Stmt:=top 15
noncomputable abbrev wu:Stmt:=top 18
noncomputable abbrev xP:Stmt:=zM (top 19) 0
noncomputable abbrev xj:Stmt:=zM (top 19) 1
noncomputable abbrev wX:Stmt:=zM (top 19) 3
noncomputable abbrev xt:Stmt:=zM (top 19) 4
noncomputable abbrev yX:Stmt:=zM (top 19) 6
noncomputable abbrev z8:Stmt:=top 21
noncomputable abbrev zw:Stmt:=top 22
noncomputable abbrev uo:Stmt:=top 23
noncomputable abbrev wm:Stmt:=top 24
noncomputable abbrev xH:Stmt:=zM (top 27) 0
noncomputable abbrev yT:Stmt:=zM (top 27) 1
noncomputable abbrev xD:Stmt:=zM (top 27) 2
noncomputable abbrev yQ:Stmt:=zM (top 27) 3
noncomputable abbrev yR:Stmt:=zM (top 27) 4
noncomputable abbrev yy:Stmt:=zM (top 28) 0
noncomputable abbrev yx:Stmt:=zM (top 29) 0
noncomputable abbrev zQ:Stmt:=zM (top 29) 1
noncomputable abbrev yU:Stmt:=top 32
noncomputable abbrev xK:Stmt:=top 33
noncomputable abbrev wF:Stmt:=top 34
noncomputable abbrev xn:Stmt:=zM (top 35) 0
noncomputable abbrev yc:Stmt:=zM (top 35) 3
noncomputable abbrev zU:Stmt:=zM (top 35) 4
noncomputable abbrev zG:Stmt:=zM (top 35) 5
noncomputable abbrev yn:Stmt:=zM (top 35) 6
noncomputable abbrev uS:Stmt:=top 37
noncomputable abbrev uP:Stmt:=top 38
noncomputable abbrev Wm:Stmt:=top 39
noncomputable abbrev kY:Stmt:=top 40
noncomputable abbrev Wz:Stmt:=top 41
noncomputable abbrev kP:Stmt:=top 42
noncomputable abbrev Zq:Stmt:=top 43
noncomputable abbrev xk:Stmt:=top 44
noncomputable abbrev kM:Stmt:=top 45
noncomputable abbrev xQ:Stmt:=top 46
noncomputable abbrev X9:Stmt:=top 47
noncomputable abbrev xT:Stmt:=top 48
noncomputable abbrev xV:Stmt:=top 49
noncomputable abbrev qy:Stmt:=top 50
section
variable{P:Program}{w:World}{K:rC}{mg:Str->Option Value}{base:Heap}
seal L2.PE L2.PS L2.PA L2.PT L2.PSs L2.PI L2.PG L2.PW L2.PGs
local macro_rules | `(tactic| rfl')=>do `(tactic| simp only[$(← ("za7 zbE zbD za1 zbs zby zbl zbc zbq zbd Kr Kh KO KP Kz Kn zaC JM Jg JL zap JJ zbF K8 Q1 QV JF QN K0 KK Kf KJ K4 Kx Kl KN KA zaf Uj V5 Ul KL KI zaB KS KU zab KQ zbr zam".splitOn " ").toArray.mapM fun s=>`(Lean.Parser.Tactic.simpLemma| ↓$(Lean.mkIdent s.toName):ident)),*,$(← ("zaX Zo za9 uI Option.join_some Option.join_none rU ZC JN Ke Kw Jj zaE zaW US tOp tUn ya tC je zN wQ tCB JY yN Jt zaP zbj tOr Q7 zbt Qo XF tIf rI rI0 YA Vr JZ J8 J6 rEq rNe rIx J4 QD J9 J7 zaq zaz K5 tSl XD JK za3 zbe zaQ QJ JR rGe Kj decide_false decide_true Prod.mk.injEq U4 K2 JP WC Xa Wy tyV tBM zbB if_true if_false bV decide_eq_true_eq decide_eq_false_iff_not Bool.not_eq_true' Bool.not_true Bool.not_false lt1 zay zaM Kc Vl zai Jv zav zan Wi XO KW tHs QB Uy UI zao zaa zas Value.ref.injEq L2.start KH Kk za8 zbH zbu zag zbo KM zae zbn za2 UX Ku QT zaL qx VQ j9 vn W9 yu zbA JQ zaA cxK cxP cxW ax ba aI db aU List.replicate_zero Nat.reduceAdd Nat.reduceSub and_assoc UU exists_eq exists_eq' exists_eq_left' exists_eq_left exists_eq_right exists_eq_right' exists_and_left exists_and_right V.int.injEq V.ref.injEq V.str.injEq V.bl.injEq V.ty.injEq reduceCtorEq false_and and_false true_and and_true or_false false_or exists_false exists_const List.getElem?_cons_zero List.getElem?_cons_succ Option.some.injEq di dj List.cons.injEq aX cA bp".splitOn " ").toArray.mapM fun s=>`(Lean.Parser.Tactic.simpLemma| $(Lean.mkIdent s.toName):ident)),*])
theorem xe0{X:Cx}:XE X E0:=fun e s h=>by
 obtain⟨_,_,_,_,_,_,_,_,_,_,_,_,_,_,h⟩:=h
 exact h.elim
def Y3(l:List Nat):Prop:=∀ c ∈ l,97<=c/\c<=122
noncomputable instance (l:List Nat):Decidable (Y3 l):=by unfold Y3;infer_instance
noncomputable def vm(l:List Nat):Bool:=decide (1<=l.length/\l.length<=6/\Y3 l/\l.Nodup)
def ux:Sp:=fun vs H Q _=>∃ c:Nat,vs=[.str (tx [c])]/\Q (.bl (decide (97<=c/\c<=122))) H
theorem Vs:zm ["sign"] ["sign"] (ze yl):=by nofun
theorem Vo{f:Addr}{fd:FuncData}(F:Fun K "is_small_letter" "is_small_letter" yl f fd):FnOk P w K mg base CX0 1 f fd ["sign"] ux:=by
 refine F.ok Vs (fun vs H Q E h=>?_) (fun cdv A outer s H vs Q E hr h=>?_)
 ·obtain⟨a,rfl,_⟩:=h
  rfl
 ·obtain⟨c,rfl,q⟩:=h
  refine⟨_,(zd (zq (W2 xC xC yh (pv 0) yh))),?_⟩
  have ea:cs (("a" : Str))=[97]:=rfl
  have ez:cs (("z" : Str))=[122]:=rfl
  rfl'
  simp only[ea,ez,W9,lt1]
  refine xx (fun h=>?_) fun h=>?_
  ·have e:decide (97<=c/\c<=122)=!decide (122<c):=by
    by_cases h2:122<c
    ·rw[decide_eq_true h2,decide_eq_false (by lia)];rfl
    ·rw[decide_eq_false h2,decide_eq_true (by lia)];rfl
   rw[e] at q
   exact q
  ·rw[decide_eq_false (by lia)] at q
   exact q
structure zaU(K:rC)(mg:Str->Option Value)(C:Addr):Prop where
 xi:XI K C
 ini:ac K (.ref C) "__init__" = some (some (.builtin "ValueError.__init__"))
 g:mg "NoLetters" = some (.ref C)
 most:∃ t,mg "MOST_LETTERS" = some (.int 6 t)
def yC(C:Addr):Sp:=fun vs H Q E=>∃ l:List Nat,vs=[.str (tx l)]/\l.length<=1000/\(vm l=true->Q (.str (tx l)) H)/\(vm l=false->E (.ref C) none H)
theorem nB:zm ["text","sign"] ["text"] (ze xy):=by nofun
theorem jE{f C:Addr}{fd:FuncData}(B:Bt mg)(T:zaU K mg C)(F:Fun K "letters_of" "letters_of" xy f fd)(Ds:Df P w K mg base CX0 1 "is_small_letter" ["sign"] [] ux):FnOk P w K mg base (CXx P w) 2 f fd ["text"] (yC C):=by
 refine Fun.okX F nB (fun vs H Q E h=>?_) (fun cdv A outer s H vs Q E hr hx h=>?_)
 ·obtain⟨a,rfl,_⟩:=h
  rfl
 ·obtain⟨l,rfl,hl,q1,q2⟩:=h
  obtain⟨t6,g6⟩:=T.most
  refine⟨_,(zn (zP (yA (vF xC xC zi (zo zW rfl B.len aB (za (pv 0) zc)) (vX (v:=.int 6) rfl g6 ⟨t6,rfl⟩)))
    (zd (z6 hx rfl T.xi.toXC T.ini rfl T.g (za yh zc)))
    zu)
   (zn (zZ PassesOwn.leaving rfl (vz (pv 0)) (zp (i:=1) nB.nd rfl (.inl rfl))
    (zn (zP (yA (Z3 (cl0 Ds hr .nil rfl (za (pv 1) zc)) (fun _=>rfl)))
     (zd (z6 hx rfl T.xi.toXC T.ini rfl T.g (za yh zc)))
     zu)
    (zd (zP (zE ZB (yL bx eM eN YY (pv 0) (za (pv 1) zc)) zi (zy _))
     (zd (z6 hx rfl T.xi.toXC T.ini rfl T.g (za yh zc)))
     zu))))
   (zd (zq (pv 0))))),?_⟩
  have s16:=ye
  rfl'
  have bad:(¬ (1<=l.length/\l.length<=6/\Y3 l/\l.Nodup))->∀ H':Hp,H'=H->E (.ref C) none H':=fun h H' e=>by
   rw[e]
   exact q2 (decide_eq_false h)
  refine⟨by lia,xx (fun c=>xx (fun c2=>⟨by lia,bad (fun h=>by have:=h.2.1;lia) H rfl⟩) (fun c2=>?_)) (fun c=>⟨by lia,bad (fun h=>by have:=h.1;lia) H rfl⟩)⟩
  refine ForS.by (fun i σ H'=>H'=H/\∃ v,σ=[some (.str (tx l)),v]/\Y3 (l.take i)/\∀ c ∈ l.take i,l.count c<=1) ⟨rfl,none,rfl,fun c h=>absurd h (by simp),fun c h=>absurd h (by simp)⟩ ?_ ?_
  ·rintro i c σ H' hg ⟨eH,v,rfl,hs,hn⟩
   have hc:=ae hg
   rfl'
   simp only[ux]
   rfl'
   refine xx (fun h=>⟨by lia,bad (fun z=>by have:=z.2.2.1 c hc;lia) _ eH⟩) (fun h=>xx (fun h2=>⟨by lia,bad (fun z=>?_) _ eH⟩) (fun h2=>⟨eH,?_,?_⟩))
   ·have:=rW.mp z.2.2.2 c
    lia
   ·rw[yb hg]
    intro x hx
    rcases rF.mp hx with q | q
    ·exact hs x q
    ·have:x=c:=by simpa using q
     subst this
     lia
   ·rw[yb hg]
    intro x hx
    rcases rF.mp hx with q | q
    ·exact hn x q
    ·have:x=c:=by simpa using q
     subst this
     lia
  ·rintro σ H' ⟨eH,v,rfl,hs,hn⟩
   rw[be] at hs hn
   rfl'
   rw[eH]
   refine q1 (decide_eq_true ⟨by lia,by lia,hs,rW.mpr fun c=>?_⟩)
   by_cases hc:c ∈ l
   ·exact hn c hc
   ·rw[List.count_eq_zero.mpr hc];lia
noncomputable def zx(l:List Nat)(k:Int)(p:List Nat):Bool:=decide (0<=k/\k+p.length<=l.length/\(l.drop k.toNat).take p.length=p)
def yO:Sp:=fun vs H Q _=>∃(l p:List Nat) (k:Int),vs=[.str (tx l),.int k,.str (tx p)]/\l.length<=1000/\p.length<=1000/\Q (.bl (zx l k p)) H
theorem jr{l p:List Nat}{k:Int}{H:Hp}{Q:VK}{E:XK}(h1:l.length<=1000)(h2:p.length<=1000)(h:Q (.bl (zx l k p)) H):yO [.str (tx l),.int k,.str (tx p)] H Q E:=⟨l,p,k,rfl,h1,h2,h⟩
theorem ku:zm ["word","place","part"] ["word","place","part"] (ze wL):=by nofun
theorem jT{f:Addr}{fd:FuncData}(B:Bt mg)(F:Fun K "stands_at" "stands_at" wL f fd):FnOk P w K mg base CX0 1 f fd ["word","place","part"] yO:=by
 refine F.ok ku (fun vs H Q E h=>?_) (fun cdv A outer s H vs Q E hr h=>?_)
 ·obtain⟨l,p,k,rfl,_⟩:=h
  rfl
 ·obtain⟨l,p,k,rfl,hl,hp,q⟩:=h
  refine⟨_,(zn (zP (yA (vF xC xC zi (pv 1) (zv qG (zo zW rfl B.len aB (za (pv 0) zc)) (zo zW rfl B.len aB (za (pv 2) zc)))))
    (zd (zq wx))
    zu)
   (zd (zq (yK kK (yq ZF (pv 0) (yw (pv 1)) (yw (zv op_add (pv 1) (zo zW rfl B.len aB (za (pv 2) zc))))) (pv 2) (zy _))))),?_⟩
  have s16:=ye
  rfl'
  have no:¬ (0<=k/\k+p.length<=l.length/\(l.drop k.toNat).take p.length=p)->Q (.bl false) H:=fun h=>by
   have e:zx l k p=false:=decide_eq_false h
   rw[e] at q
   exact q
  refine xx (fun h0=>⟨by lia,by lia,xx (fun h1=>no fun h=>absurd h.2.1 (by lia)) fun h1=>⟨by lia,by lia,?_⟩⟩) fun h0=>no fun h=>h0 h.1
  rw[WT _ h0 (by lia) (by lia)]
  have e:(k+(p.length:Int) - k).toNat=p.length:=by lia
  rw[e]
  have e2:zx l k p=decide ((l.drop k.toNat).take p.length=p):=by
   unfold zx
   exact decide_eq_decide.mpr ⟨fun h=>h.2.2,fun h=>⟨h0,by lia,h⟩⟩
  rw[<- e2]
  exact q
noncomputable def QG(l:List Nat)(k:Int)(o n:List Nat):List Nat:=l.take k.toNat ++ n ++ l.drop (k.toNat+o.length)
theorem Vb{l o:List Nat}{k:Int}(h:zx l k o=true):l.take k.toNat ++ o ++ l.drop (k.toNat+o.length)=l/\(l.take k.toNat).length=k.toNat/\0<=k/\k+o.length<=l.length:=by
 unfold zx at h
 rw[decide_eq_true_eq] at h
 obtain⟨h0,h1,h2⟩:=h
 refine⟨?_,by rw[aO];lia,h0,h1⟩
 have e:l.drop k.toNat=o ++ l.drop (k.toNat+o.length):=by
  have:=bW o.length (l.drop k.toNat)
  rw[h2,List.drop_drop] at this
  exact this.symm
 rw[bN,<- e,bW]
structure TNU(K:rC)(mg:Str->Option Value)(C:Addr):Prop where
 xi:XI K C
 g:mg "NoUse" = some (.ref C)
 na:NoAttr K C "at"
theorem jb:zm ["self","at"] ["self","at"] (ze z9):=by nofun
theorem qZ{f C:Addr}{fd:FuncData}(T:TNU K mg C)(F:Fun K "__init__" "NoUse.__init__" z9 f fd):FnOk P w K mg base CX0 1 f fd ["self","at"] (vt C "at"):=by
 refine F.ok jb (fun vs H Q E h=>?_) (fun cdv A outer s H vs Q E hr h=>?_)
 ·obtain⟨x,v,rfl,_⟩:=h
  rfl
 ·obtain⟨x,v,rfl,hx,q⟩:=h
  refine⟨_,(zd (WJ (pv 0) (pv 1) rfl)),?_⟩
  simp only[Qi]
  rfl'
  exact⟨C,hx,T.xi.toXC,T.na,q⟩
structure DNU(P:Program)(w:World)(K:rC)(mg:Str->Option Value)(base:Heap)(C:Addr):Prop extends TNU K mg C where
 ini:∃ f fd,ac K (.ref C) "__init__" = some (some (.ref f))/\aQ K (.ref f)=true/\FnOk P w K mg base CX0 1 f fd ["self","at"] (vt C "at")/\Binds K fd ["self","at"] []
def X7(C:Addr):Sp:=fun vs H Q E=>∃(l o n:List Nat) (k:Int),vs=[.str (tx l),.int k,.str (tx o),.str (tx n)]/\l.length<=1000/\o.length<=1000/\n.length<=1000/\(zx l k o=true->Q (.str (tx (QG l k o n))) H)/\(zx l k o=false->∀ d H',KT H d "at" (.int 0) H'->E (.ref C) (some d) H')
theorem JG:zm ["word","place","old","new"] ["word","place","old","new"] (ze Qp):=by nofun
theorem QL{f C:Addr}{fd:FuncData}(B:Bt mg)(T:DNU P w K mg base C)(F:Fun K "put" "put" Qp f fd)(pO:Df P w K mg base CX0 1 "stands_at" ["word","place","part"] [] yO):FnOk P w K mg base (CXx P w) 3 f fd ["word","place","old","new"] (X7 C):=by
 obtain⟨fi,fdi,hi,hfn,Fi,Bi⟩:=T.ini
 refine Fun.okX F JG (fun vs H Q E h=>?_) (fun cdv A outer s H vs Q E hr hx h=>?_)
 ·obtain⟨l,o,n,k,rfl,_⟩:=h
  rfl
 ·obtain⟨l,o,n,k,rfl,hl,ho,hn,q1,q2⟩:=h
  refine⟨_,(zn (zP (yA (Z3 (cl0 pO hr .nil rfl (za (pv 0) (za (pv 1) (za (pv 2) zc)))) (fun _=>rfl)))
    (zd (jL hx rfl T.xi.toXC hi hfn Fi hr Bi rfl T.g (za zi zc)))
    zu)
   (zd (zq (zv op_add_str (zv op_add_str (yq ZF (pv 0) xI (yw (pv 1))) (pv 3)) (yq ZF (pv 0) (yw (zv op_add (pv 1) (zo zW rfl B.len aB (za (pv 2) zc)))) xI))))),?_⟩
  have s16:=ye
  rfl'
  refine jr hl ho ?_
  rfl'
  refine xx (fun hb=>⟨by lia,Xt (q2 hb)⟩) fun hb=>?_
  have hb':zx l k o=true:=by simpa using hb
  obtain⟨_,_,h0,h1⟩:=Vb hb'
  have c1:=uH l none (some k)
  have c2:=uH l (some (k + ↑o.length)) none
  refine⟨by lia,by lia,by lia,by lia,?_,?_⟩
  ·simp only[am]
   lia
  ·have e:cut l none (some k) ++ n ++ cut l (some (k + ↑o.length)) none=QG l k o n:=by
    rw[Wo _ h0,jg _ (by lia)]
    have:(k+(o.length:Int)).toNat=k.toNat+o.length:=by lia
    rw[this]
    rfl
   rw[e]
   exact q1 hb'
structure TOrd(K:rC)(mg:Str->Option Value)(CO CR CW:Addr):Prop where
 cO:Cls K CO
 cR:Cls K CR
 cW:Cls K CW
 gO:mg "Order" = some (.ref CO)
 gR:mg "FromRight" = some (.ref CR)
 gW:mg "ByWeights" = some (.ref CW)
 lO:NoAttr K CO "letters"
 lR:NoAttr K CR "letters"
 lW:NoAttr K CW "letters"
 wW:NoAttr K CW "weights"
def OrdAt(CO CR CW:Addr)(H:Hp)(o:Addr)(k:Nat)(l:List Nat)(ns:List Int):Prop:=∃ dx,(k=0/\H o=some (.ins CO dx [("letters",.str (tx l))]))\/(k=1/\H o=some (.ins CR dx [("letters",.str (tx l))])) \/
 (k=2/\ns.length=l.length/\∃ w,H o=some (.ins CW dx [("letters",.str (tx l)),("weights",.ref w)])/\H w=some (.tup (ns.map V.int)))
theorem OrdAt.same{CO CR CW:Addr}{H H':Hp}{o:Addr}{k:Nat}{l:List Nat}{ns:List Int}(h:OrdAt CO CR CW H o k l ns)(e:Same H H'):OrdAt CO CR CW H' o k l ns:=by
 obtain⟨dx,⟨h1,h2⟩ | ⟨h1,h2⟩ | ⟨h1,h2,w,h3,h4⟩⟩:=h
 ·exact⟨dx,.inl ⟨h1,e _ _ h2⟩⟩
 ·exact⟨dx,.inr (.inl ⟨h1,e _ _ h2⟩)⟩
 ·exact⟨dx,.inr (.inr ⟨h1,h2,w,e _ _ h3,e _ _ h4⟩)⟩
noncomputable def Vm(l:List Nat)(ns:List Int)(w:List Nat):Int:=((l.zip ns).map fun p=>(w.count p.1:Int) * p.2).sum
noncomputable def zt(k:Nat)(l:List Nat)(ns:List Int)(w:List Nat):Int:=if k=2 then Vm l ns w else (w.length:Int)
noncomputable def yH(k:Nat)(w:List Nat):List Nat:=if k=1 then w.reverse else w
def uw(K:rC):Sp:=fun vs H Q _=>∃(x C dx:Addr) (l:List Nat),vs=[.ref x,.str (tx l)]/\vm l=true/\Cls K C/\NoAttr K C "letters"/\H x=some (.ins C dx [])/\Q .non (upd H x (.ins C dx [("letters",.str (tx l))]))
theorem jq:zm ["self","letters"] ["self","letters"] (ze xH):=by nofun
theorem xm{f:Addr}{fd:FuncData}(B:Bt mg)(F:Fun K "__init__" "Order.__init__" xH f fd)(mz:Df P w K mg base (CXx P w) 2 "letters_of" ["text"] [] (yC C)):FnOk P w K mg base CX0 3 f fd ["self","letters"] (uw K):=by
 refine F.ok jq (fun vs H Q E h=>?_) (fun cdv A outer s H vs Q E hr h=>?_)
 ·obtain⟨x,C,dx,l,rfl,_⟩:=h
  rfl
 ·obtain⟨x,C,dx,l,rfl,hg,hC,hN,hx,q⟩:=h
  refine⟨_,(zd (qP (pv 0) (clP xe0 mz hr .nil rfl (za (pv 1) zc)) rfl)),?_⟩
  have s16:=ye
  rfl'
  exact⟨l,rfl,by have:=of_decide_eq_true hg;lia,fun _=>⟨_,_,_,hx,hC,hN,by decide,q⟩,fun e=>by rw[hg] at e;cases e⟩
def ja:Sp:=fun vs H Q _=>∃(o:Addr) (w:List Nat),vs=[.ref o,.str (tx w)]/\w.length<=1000/\Q (.int (w.length:Nat)) H
theorem qb:zm ["self","word"] ["self","word"] (ze yT):=by nofun
theorem xF{f:Addr}{fd:FuncData}(B:Bt mg)(F:Fun K "weight" "Order.weight" yT f fd) : FnOk P w K mg base CX0 1 f fd ["self","word"] ja:=by
 refine F.ok qb (fun vs H Q E h=>?_) (fun cdv A outer s H vs Q E hr h=>?_)
 ·obtain⟨o,w,rfl,_⟩:=h
  rfl
 ·obtain⟨o,w,rfl,hw,q⟩:=h
  refine⟨_,(zd (zq (zo zW rfl B.len aB (za (pv 1) zc)))),?_⟩
  have s16:=ye
  rfl'
  exact⟨by lia,q⟩
def Yd:Sp:=fun vs H Q _=>∃(o:Addr) (w:List Nat),vs=[.ref o,.str (tx w)]/\Q (.str (tx w)) H
theorem jA:zm ["self","word"] ["self","word"] (ze xD):=by nofun
theorem vd{f:Addr}{fd:FuncData}(B:Bt mg)(F:Fun K "seen" "Order.seen" xD f fd) : FnOk P w K mg base CX0 1 f fd ["self","word"] Yd:=by
 refine F.ok jA (fun vs H Q E h=>?_) (fun cdv A outer s H vs Q E hr h=>?_)
 ·obtain⟨o,w,rfl,_⟩:=h
  rfl
 ·obtain⟨o,w,rfl,q⟩:=h
  refine⟨_,(zd (zq (pv 1))),?_⟩
  have s16:=ye
  rfl'
  exact q
def kO:Sp:=fun vs H Q _=>∃(o:Addr) (w:List Nat),vs=[.ref o,.str (tx w)]/\w.length<=1000/\Q (.str (tx w.reverse)) H
theorem vS:zm ["self","word"] ["self","word"] (ze yy):=by nofun
theorem vV{f:Addr}{fd:FuncData}(B:Bt mg)(F:Fun K "seen" "FromRight.seen" yy f fd) : FnOk P w K mg base CX0 1 f fd ["self","word"] kO:=by
 refine F.ok vS (fun vs H Q E h=>?_) (fun cdv A outer s H vs Q E hr h=>?_)
 ·obtain⟨o,w,rfl,_⟩:=h
  rfl
 ·obtain⟨o,w,rfl,hw,q⟩:=h
  refine⟨_,(zd (zq (Qg (pv 1) (Jp VX zi)))),?_⟩
  have s16:=ye
  repeat (first | rfl' | simp only[wY,zI,yf,vB,vI,zH])
  exact⟨by lia,q⟩
structure zaI(K:rC)(mg:Str->Option Value)(C:Addr):Prop where
 xi:XI K C
 ini:ac K (.ref C) "__init__" = some (some (.builtin "ValueError.__init__"))
 g:mg "NoOrder" = some (.ref C)
 most:∃ t,mg "MOST_WEIGHT" = some (.int 1000000 t)
abbrev DOI(P:Program)(w:World)(K:rC)(mg:Str->Option Value)(base:Heap)(CO:Addr):Prop:=DC P w K mg base CX0 3 CO "__init__" ["self","letters"] (uw K)
def jo(K:rC)(CW:Addr):Sp:=fun vs H Q _=>∃(x dx a:Addr) (l:List Nat) (ns:List Int),vs=[.ref x,.str (tx l),.ref a]/\vm l=true/\SqL K H a (ns.map V.int)/\ns.length=l.length/\(∀ n ∈ ns,1<=n/\n<=1000000)/\H x=some (.ins CW dx []) /\
 ∀ w H',H w=none->w≠x->(∀ b o,b≠x->H b=some o->H' b=some o)->H' w=some (.tup (ns.map V.int))->H' x=some (.ins CW dx [("letters",.str (tx l)),("weights",.ref w)])->Q .non H'
theorem mv:zm ["self","letters","weights","weight"] ["self","letters","weights"] (ze yx):=by nofun
theorem vL{f CO CR CW CN:Addr}{fd:FuncData}(B:Bt mg)(T:TOrd K mg CO CR CW)(TN:zaI K mg CN)(DI:DOI P w K mg base CO)(F:Fun K "__init__" "ByWeights.__init__" yx f fd) : FnOk P w K mg base (CXx P w) 4 f fd ["self","letters","weights"] (jo K CW):=by
 obtain⟨t6,g6⟩:=TN.most
 refine Fun.okX F mv (fun vs H Q E h=>?_) (fun cdv A outer s H vs Q E hr hx h=>?_)
 ·obtain⟨x,dx,a,l,ns,rfl,_⟩:=h
  rfl
 ·obtain⟨x,dx,a,l,ns,rfl,hg,hS,hl,hb,hX,q⟩:=h
  refine⟨_,(zg (yS (UB DI hr rfl T.gO (za (pv 0) (za (pv 1) zc))))
   (zg (zP (zE Yk (zo zW rfl B.len aB (za (pv 2) zc)) (zo zW rfl B.len aB (za (pv 1) zc)) (zy _))
    (zd (z6 hx rfl TN.xi.toXC TN.ini rfl TN.g (za yh zc)))
    zu)
   (zg (zZ PassesOwn.leaving rfl (yW (pv 2)) (zp (i:=3) mv.nd rfl (.inl rfl))
    (zd (zP (yA (vF xC xC zi (pv 3) (vX (v:=.int 1000000) rfl g6 ⟨t6,rfl⟩)))
     (zd (z6 hx rfl TN.xi.toXC TN.ini rfl TN.g (za yh zc)))
     zu)))
   (zd (qP (pv 0) (ve jc rfl B.tuple PySem.Pv.boot_tuple (za (pv 2) zc)) rfl))))),?_⟩
  have s16:=ye
  have hbx:∀ b o,b≠x->H b=some o->upd H x (.ins CW dx [("letters",.str (tx l))]) b=some o:=fun b o hb e=>by rw[zh hb];exact e
  have hS1:SqL K (upd H x (.ins CW dx [("letters",.str (tx l))])) a (ns.map V.int):=by
   rcases hS with (h | ⟨o,h⟩) | h
   ·exact .inl (.inl (hbx _ _ (fun e=>by rw[e,hX] at h;cases h) h))
   ·exact .inl (.inr ⟨o,hbx _ _ (fun e=>by rw[e,hX] at h;cases h) h⟩)
   ·exact .inr h
  refine zj (fun σ H'=>H'=upd H x (.ins CW dx [("letters",.str (tx l))])/\σ=[some (.ref x),some (.str (tx l)),some (.ref a),none]) ?_ ?_
  ·repeat (first | rfl' | simp only[wY,zI,yf,vB,vI,zH])
   exact⟨x,CW,dx,l,rfl,hg,T.cW,T.lW,hX,rfl⟩
  rintro σ H1 ⟨rfl,rfl⟩
  refine zj (fun σ H'=>H'=upd H x (.ins CW dx [("letters",.str (tx l))])/\σ=[some (.ref x),some (.str (tx l)),some (.ref a),none]) ?_ ?_
  ·have hl6:l.length<=6:=by have:=of_decide_eq_true hg;lia
   repeat (first | rfl' | simp only[wY,zI,yf,vB,vI,zH])
   refine⟨ns.length,.inl ⟨_,hS1,by rw[aa]⟩,by lia,xx (fun h=>absurd (by lia) h) fun _=>trivial⟩
  rintro σ H1 ⟨rfl,rfl⟩
  refine zj (fun σ H'=>H'=upd H x (.ins CW dx [("letters",.str (tx l))])/\∃ v3,σ=[some (.ref x),some (.str (tx l)),some (.ref a),v3]) ?_ ?_
  ·repeat (first | rfl' | simp only[wY,zI,yf,vB,vI,zH])
   refine⟨⟨_,hS1⟩,ForL.by (xs:=ns.map V.int) (fun i σ H'=>H'=upd H x (.ins CW dx [("letters",.str (tx l))])/\∃ v3,σ=[some (.ref x),some (.str (tx l)),some (.ref a),v3]) ⟨rfl,none,rfl⟩ (fun i σ H' _ h=>by rw[h.1];exact hS1) ?_ fun σ H' h=>h⟩
   rintro i y σ H' hy ⟨rfl,v3,rfl⟩
   rw[au] at hy
   obtain⟨n,hn,rfl⟩:=rK.mp hy
   obtain⟨n1,n2⟩:=hb n (ae hn)
   repeat (first | rfl' | simp only[wY,zI,yf,vB,vI,zH])
   exact xx (fun _=>xx (fun h=>absurd n2 h) fun _=>trivial) fun h=>absurd n1 h
  rintro σ H1 ⟨rfl,v3,rfl⟩
  repeat (first | rfl' | simp only[wY,zI,yf,vB,vI,zH])
  refine⟨_,.inl ⟨hS1,fun w hw=>?_⟩⟩
  have hwx:w≠x:=fun e=>by rw[e,zb] at hw;cases hw
  have hwH:H w=none:=by rw[zh hwx] at hw;exact hw
  have hX2:=zf (o:=.tup (ns.map V.int)) hw _ _ (zb (H:=H) (a:=x) (o:=.ins CW dx [("letters",.str (tx l))]))
  refine⟨_,_,_,hX2,T.cW,T.wW,by show 1<1000;decide,q w _ hwH hwx (fun b o hb' e=>?_) ?_ zb⟩
  ·rw[zh hb']
   exact zf hw _ _ (hbx b o hb' e)
  ·rw[zh hwx]
   exact zb
theorem Q2{x y:V}{r:L2.St}:xR (none::none::r) (some x::some y::r):=⟨rfl,fun i v h=>by
 cases i with
 | zero=>cases h
 | succ i =>
  cases i with
  | zero=>cases h
  | succ i=>exact h⟩
def Zc(CW:Addr):Sp:=fun vs H Q _=>∃(o dx t:Addr) (w l:List Nat) (ns:List Int),vs=[.ref o,.str (tx w)]/\w.length<=1000/\l.length<=6/\ns.length=l.length/\(∀ n ∈ ns,1<=n/\n<=1000000)/\H o=some (.ins CW dx [("letters",.str (tx l)),("weights",.ref t)])/\H t=some (.tup (ns.map V.int))/\∀ H',Same H H'->Q (.int (Vm l ns w)) H'
theorem wI:zm ["self","word"] ["self","word"] (ze zQ):=by nofun
theorem wN{f CO CR CW:Addr}{fd:FuncData}(B:Bt mg)(T:TOrd K mg CO CR CW)(F:Fun K "weight" "ByWeights.weight" zQ f fd) : FnOk P w K mg base CX0 1 f fd ["self","word"] (Zc CW):=by
 refine F.ok wI (fun vs H Q E h=>?_) (fun cdv A outer s H vs Q E hr h=>?_)
 ·obtain⟨o,dx,t,w,l,ns,rfl,_⟩:=h
  rfl
 ·obtain⟨o,dx,t,w,l,ns,rfl,hw,hl,hn,hb,ho,ht,q⟩:=h
  refine⟨_,(zd (zq (zo (KC rfl) rfl B.sum PyProof.Rows.boot_sum (za (xU (g:=Kc K 2 (Vl (yN 0) (Vl (yN 1) zai))) (own:=["letter","weight"]) (caps:=["word"]) (ix:=[1]) (tt:=ud) (te:=(tOp Vr (tBM K "str" WC (ya 2) (zN (ya 0) wQ)) (ya 1))) rfl (yJ (sc:=ze zQ) rfl (by symm) (by symm) (by symm) rfl (by symm) (by symm) rfl) (Jq rfl B.zip (za (yG (pv 0) rfl) (za (yG (pv 0) rfl) zc))) (fun _ _ _ _ _ _=>uR (n:=2) rfl (zK (zp (i:=0) (show List.Nodup [_,_,_] by decide) rfl (.inl rfl)) (zK (zp (i:=1) (show List.Nodup [_,_,_] by decide) rfl (.inl rfl)) wS))) (fun _ _ _ _ _ _=>xl) (fun _ _ _ _ _ _=>(zv qT (yL bx eM eN YY (pv 2) (za (pv 0) zc)) (pv 1)))) zc)))),?_⟩
  have s16:=ye
  repeat (first | rfl' | simp only[wY,zI,yf,vB,vI,zH])
  refine⟨_,_,_,ho,T.cW,T.lW,_,rfl,_,_,_,ho,T.cW,T.wW,_,rfl,l,rfl,t,rfl,⟨_,SqT.of ht⟩,fun D hD=>CompZ.by (ys:=ns.map V.int) (fun i acc H'=>Same H H'/\H' D=some (.lst acc)/\acc=((((l.zip ns).map fun p=>(w.count p.1:Int) * p.2).take i).map V.int)) (by rw[aa];lia) ⟨zf hD,zb,rfl⟩ (fun i acc H' _ h=>SqT.of (h.1 _ _ ht)) ?_ ?_⟩
  ·rintro i c y acc H' p hc hy ⟨hs,hH,rfl⟩ hp
   have hi:=(rD.mp hc).1
   rw[au] at hy
   obtain⟨n,hn',rfl⟩:=rK.mp hy
   have hz:((l.zip ns).map fun p=>(w.count p.1:Int) * p.2)[i]? = some ((w.count c:Int) * n):=by
    rw[au,(List.getElem?_zip_eq_some (z:=(c,n))).mpr ⟨hc,hn'⟩]
    rfl
   obtain⟨n1,n2⟩:=hb n (ae hn')
   have hcl:w.count c<=w.length:=List.count_le_length
   have hcn:(w.count c:Int) * n=(w.count c:Int) * n:=rfl
   simp only[ud]
   repeat (first | rfl' | simp only[wY,zI,yf,vB,vI,zH])
   refine⟨_,SqT.of zb,rfl,_,_,rfl,_,_,rfl,rfl,Q2,_,rfl,_,rfl,?_,zf hp _ _ hH,by rw[aa,aO];lia,?_⟩
   ·exact .inr ⟨by lia,by lia⟩
   ·rw[Wy]
    refine CNx.mk hi ⟨zF (hs.trans (zf hp)) hD,zb,?_⟩
    rw[yb hz,aE]
    rfl
  ·rintro acc H' ⟨hs,hH,rfl⟩
   have e:l.length=((l.zip ns).map fun p=>(w.count p.1:Int) * p.2).length:=by rw[aa,List.length_zip];lia
   refine⟨D,rfl,_,SqL.of hH,?_⟩
   rw[e,be]
   exact q _ hs
theorem zau(l:List Nat)(c e:Nat):StrLaws.At (tx l) (tx [c]) (tx l).length e ↔ l[e]? = some c:=by
 unfold StrLaws.At Builtin.Str.subAt
 rw[yu,yu]
 have h1:[c].length=1:=rfl
 rw[h1,beq_iff_eq]
 have e1:((tx l).cps.extract e (e+1)).toList=(l.drop e).take 1:=by
  show (l.toArray.extract e (e+1)).toList=_
  simp [d9]
 have e2:((tx l).cps.extract e (e+1)=(tx [c]).cps) ↔ (l.drop e).take 1=[c]:=by
  constructor
  ·intro h
   rw[<- e1,h]
  ·intro h
   apply Array.toList_inj.mp
   rw[e1,h]
 constructor
 ·rintro⟨h2,h3⟩
  have:=e2.mp h3
  rw[aT (by lia),dP,eQ] at this
  rw[ag (by lia)]
  injection this with h _
  rw[h]
 ·intro h
  obtain⟨he,hx⟩:=rD.mp h
  refine⟨by lia,e2.mpr ?_⟩
  rw[aT he,dP,eQ,hx]
theorem Yc{l:List Nat}{c:Nat}(h:c ∈ l):Txt.find (tx l) (tx [c])=((l.idxOf c:Nat):Int):=by
 have hlt:=aC h
 have hg:l[l.idxOf c]? = some c:=by rw[ag hlt,bq]
 rcases PyProof.Rows.find_whole (tx l) (tx [c]) with ⟨h1,h2⟩ | ⟨e,h1,h2,h3⟩
 ·exact absurd ((zau l c _).mpr hg) (h2 _)
 ·have he:=(zau l c e).mp h2
  have:e=l.idxOf c:=by
   rcases Nat.lt_trichotomy e (l.idxOf c) with q | q | q
   ·have:=dw (p:=(· == c)) q
    obtain⟨h4,h5⟩:=rD.mp he
    simp [h5] at this
   ·exact q
   ·exact absurd ((zau l c _).mpr hg) (h3 _ q)
  rw[h1,this]
abbrev MkO(P:Program)(w:World)(K:rC)(mg:Str->Option Value)(base:Heap)(C:Addr):Prop:=DMk P w K mg base CX0 3 C ["self","letters"] (uw K)
abbrev MkW(P:Program)(w:World)(K:rC)(mg:Str->Option Value)(base:Heap)(C:Addr):Prop:=DMk P w K mg base (CXx P w) 4 C ["self","letters","weights"] (jo K C)
abbrev MW(P:Program)(w:World)(K:rC)(mg:Str->Option Value)(base:Heap)(C:Addr)(m:Str)(sp:Sp):Prop:=DM P w K mg base CX0 1 C m ["self","word"] sp
structure TWS(P:Program)(w:World)(K:rC)(mg:Str->Option Value)(base:Heap)(CO CR CW:Addr):Prop extends TOrd K mg CO CR CW where
 mO:MkO P w K mg base CO
 mR:MkO P w K mg base CR
 mW:MkW P w K mg base CW
 wO:MW P w K mg base CO "weight" ja
 wR:MW P w K mg base CR "weight" ja
 wW':MW P w K mg base CW "weight" (Zc CW)
 sO:MW P w K mg base CO "seen" Yd
 sR:MW P w K mg base CR "seen" kO
 sW:MW P w K mg base CW "seen" Yd
structure OG(l:List Nat)(ns:List Int)(k:Nat):Prop where
 g:vm l=true
 k3:k<3
 nl:ns.length=l.length
 nb:∀ n ∈ ns,1<=n/\n<=1000000
noncomputable def vk(l:List Nat)(w:List Nat):List Int:=w.map fun c=>((l.idxOf c:Nat):Int)
noncomputable def qi(k:Nat)(l:List Nat)(w:List Nat):List Int:=vk l (yH k w)
def zad(CO CR CW:Addr):Addr->Prop:=fun C=>C=CO\/C=CR\/C=CW
theorem OrdAt.fam{CO CR CW:Addr}{H:Hp}{o:Addr}{k:Nat}{l:List Nat}{ns:List Int}(h:OrdAt CO CR CW H o k l ns):∃ C dx fs,zad CO CR CW C/\H o=some (.ins C dx fs)/\(∀ m:Str,m≠"letters"->m≠"weights"->fs.lookup m=none)/\fs.lookup ("letters" : Str)=some (V.str (tx l)):=by
 have e1:∀ m:Str,m≠"letters"->(m == ("letters" : Str))=false:=fun m hm=>by simpa using hm
 have e2:∀ m:Str,m≠"weights"->(m == ("weights" : Str))=false:=fun m hm=>by simpa using hm
 obtain⟨dx,⟨h1,h2⟩ | ⟨h1,h2⟩ | ⟨h1,h2,w,h3,h4⟩⟩:=h
 ·exact⟨_,_,_,.inl rfl,h2,fun m hm _=>by simp [bn,e1 m hm],rfl⟩
 ·exact⟨_,_,_,.inr (.inl rfl),h2,fun m hm _=>by simp [bn,e1 m hm],rfl⟩
 ·exact⟨_,_,_,.inr (.inr rfl),h3,fun m hm hm2=>by simp [bn,e1 m hm,e2 m hm2],rfl⟩
def Zi(CO CR CW:Addr):Sp:=fun vs H Q _=>∃(o:Addr) (k:Nat) (l:List Nat) (ns:List Int) (w:List Nat),vs=[.ref o,.str (tx w)]/\OrdAt CO CR CW H o k l ns/\OG l ns k/\w.length<=1000/\(∀ c ∈ w,c ∈ l)/\∀(p q:Addr) (H':Hp),Same H H'->H' p=some (.tup [.int (zt k l ns w),.ref q])->H' q=some (.lst ((qi k l w).map V.int))->Q (.ref p) H'
theorem VB{H:Hp}{CO CR CW o D:Addr}{k:Nat}{l:List Nat}{ns:List Int}{v:List Nat}{a1:Option V}{Q:VK}(T:TOrd K mg CO CR CW)(ho:OrdAt CO CR CW H o k l ns)(hl:v.length<=1000)(hm:∀ c ∈ v,c ∈ l)(hD:H D=none)(q:∀ H',Same H H'->H' D=some (.lst ((vk l v).map V.int))->Q (.ref D) H') :
  CompS (tx v) (yN 0) ud (tBM K "str" zH (QT K (ya 1) "letters") (zN (ya 0) wQ)) 1 [0] [some (.ref o),a1] H Q D:=by
 have s16:=ye
 refine CompS.by (fun i acc H'=>Same H H'/\H' D=some (.lst acc)/\acc=(vk l (v.take i)).map V.int) ⟨zf hD,zb,rfl⟩ ?_ ?_
 ·rintro i c acc H' hc ⟨hs,hH,rfl⟩
  have hci:=(rD.mp hc).1
  have hcl:=hm c (ae hc)
  obtain⟨C,dx,fs,hf,ho',_,hlk⟩:=(ho.same hs).fam
  have hC:Cls K C/\NoAttr K C "letters":=by
   rcases hf with rfl | rfl | rfl
   ·exact⟨T.cO,T.lO⟩
   ·exact⟨T.cR,T.lR⟩
   ·exact⟨T.cW,T.lW⟩
  simp only[ud]
  repeat (first | rfl' | simp only[wY,zI,yf,vB,vI,zH])
  refine⟨qk,_,_,_,ho',hC.1,hC.2,_,hlk,trivial,_,rfl,_,Yc hcl,hH,by rw[aa];unfold vk;rw[aa,aO];lia,CNx.mk hci ⟨zF hs hD,zb,?_⟩⟩
  unfold vk
  rw[yb hc,aE,aE]
  rfl
 ·rintro acc H' ⟨hs,hH,rfl⟩
  rw[be] at hH
  exact q H' hs hH
theorem qV:zm ["self","word"] ["self","word"] (ze yQ):=by nofun
theorem xo{f CO CR CW:Addr}{fd:FuncData}(B:Bt mg)(T:TWS P w K mg base CO CR CW)(F:Fun K "rank" "Order.rank" yQ f fd) : FnOk P w K mg base CX0 2 f fd ["self","word"] (Zi CO CR CW):=by
 refine F.ok qV (fun vs H Q E h=>?_) (fun cdv A outer s H vs Q E hr h=>?_)
 ·obtain⟨o,k,l,ns,w,rfl,_⟩:=h
  rfl
 ·obtain⟨o,k,l,ns,w,rfl,ho,hG,hw,hm,q⟩:=h
  refine⟨_,(zd (zq (xN (za (JU T.wO T.wR T.wW' T.cO T.cR T.cW hr (pv 0) (za (pv 1) zc)) (za (xU (own:=["letter"]) (caps:=["self"]) (ix:=[0]) (tt:=ud) (te:=(tBM K "str" zH (QT K (ya 1) "letters") (zN (ya 0) wQ))) rfl (yJ (sc:=ze yQ) rfl (by symm) (by symm) (by symm) rfl (by symm) (by symm) rfl) (vz (JU T.sO T.sR T.sW T.cO T.cR T.cW hr (pv 0) (za (pv 1) zc))) (fun _ _ _ _ _ _=>zp (i:=0) (show List.Nodup [_,_] by decide) rfl (.inl rfl)) (fun _ _ _ _ _ _=>xl) (fun _ _ _ _ _ _=>(yL bx eO eP Xu (yG (pv 1) rfl) (za (pv 0) zc)))) zc))))),?_⟩
  have s16:=ye
  have hsl:(yH k w).length<=1000:=by
   unfold yH
   split
   ·rw[fh]
    exact hw
   ·exact hw
  have hsm:∀ c ∈ yH k w,c ∈ l:=fun c hc=>by
   unfold yH at hc
   split at hc
   ·exact hm c (rT.mp hc)
   ·exact hm c hc
  have l6:l.length<=6:=(of_decide_eq_true hG.g).2.1
  have fin:∀ H1,Same H H1->∀ D,H1 D=none->CompS (tx (yH k w)) (yN 0) ud (tBM K "str" zH (QT K (ya 1) "letters") (zN (ya 0) wQ)) 1 [0] [some (.ref o),some (.str (tx w))] H1 (fun x5 H1=>2<=rB/\∀ p,H1 p=none->Q (.ref p) (upd H1 p (.tup [.int (zt k l ns w),x5]))) D:=fun H1 s1 D hD=>VB T.toTOrd (ho.same s1) hsl hsm hD fun H' s' hH=>⟨by lia,fun p hp=>q p D _ (s1.trans (s'.trans (zf hp))) zb (zf hp _ _ hH)⟩
  repeat (first | rfl' | simp only[wY,zI,yf,vB,vI,zH])
  obtain⟨dx',⟨h1,h2⟩ | ⟨h1,h2⟩ | ⟨h1,h2,t',h3,h4⟩⟩:=id ho
  ·have e1:zt k l ns w=(w.length:Int):=by unfold zt;rw[if_neg (by lia)]
   have e2:yH k w=w:=by unfold yH;rw[if_neg (by lia)]
   rw[e1,e2] at fin
   exact .inl ⟨_,_,h2,rfl,o,w,rfl,hw,.inl ⟨_,_,h2,rfl,o,w,rfl,_,rfl,fin H (Same.refl _)⟩⟩
  ·have e1:zt k l ns w=(w.length:Int):=by unfold zt;rw[if_neg (by lia)]
   have e2:yH k w=w.reverse:=by unfold yH;rw[if_pos h1]
   rw[e1,e2] at fin
   exact .inr (.inl ⟨_,_,h2,rfl,o,w,rfl,hw,.inr (.inl ⟨_,_,h2,rfl,o,w,rfl,hw,_,rfl,fin H (Same.refl _)⟩)⟩)
  ·have e1:zt k l ns w=Vm l ns w:=by unfold zt;rw[if_pos h1]
   have e2:yH k w=w:=by unfold yH;rw[if_neg (by lia)]
   rw[e1,e2] at fin
   exact .inr (.inr ⟨_,_,h3,rfl,o,dx',t',w,l,ns,rfl,hw,l6,hG.nl,hG.nb,h3,h4,fun H' s'=>.inr (.inr ⟨_,_,s' _ _ h3,rfl,o,w,rfl,_,rfl,fin H' s'⟩)⟩)
noncomputable def zS(k:Nat)(l:List Nat)(ns:List Int)(u v:List Nat):Bool:=if zt k l ns u=zt k l ns v then ltI (qi k l u) (qi k l v) else decide (zt k l ns u<zt k l ns v)
abbrev DR(P:Program)(w:World)(K:rC)(mg:Str->Option Value)(base:Heap)(CO CR CW:Addr):Prop:=DMF P w K mg base CX0 2 (zad CO CR CW) "rank" ["self","word"] (fun _=>Zi CO CR CW)
theorem k9{H:Hp}{p q:Addr}{z:Int}{ns:List Int}(hp:H p=some (.tup [.int z,.ref q]))(hq:H q=some (.lst (ns.map V.int))):Is K H (.tup [.int z,.lst (ns.map L3.D.int)]) (.ref p):=by
 simp only[Is,Iss]
 exact⟨p,_,rfl,SqT.of hp,_,_,rfl,rfl,_,_,rfl,⟨q,_,rfl,SqL.of hq,Iss.ints ns⟩,rfl⟩
theorem yD:∀ x:List Int,ltI x x=false
 | []=>rfl
 | a::x=>by
  rw[ltI,if_pos rfl]
  exact yD x
theorem XU(a b:Int)(x y:List Int):ltD (.tup [.int a,.lst (x.map L3.D.int)]) (.tup [.int b,.lst (y.map L3.D.int)])=if a=b then ltI x y else decide (a<b):=by
 simp only[ltD,qj,eqD,uM,ka]
 by_cases h:a=b
 ·subst h
  by_cases h2:x=y
  ·subst h2
   simp [yD]
  ·simp [h2]
 ·simp [h]
def Xe(CO CR CW:Addr):Sp:=fun vs H Q _=>∃(o:Addr) (k:Nat) (l:List Nat) (ns:List Int) (u v:List Nat),vs=[.ref o,.str (tx u),.str (tx v)]/\OrdAt CO CR CW H o k l ns/\OG l ns k/\u.length<=1000/\v.length<=1000/\(∀ c ∈ u,c ∈ l)/\(∀ c ∈ v,c ∈ l)/\∀ H':Hp,Same H H'->Q (.bl (zS k l ns u v)) H'
theorem uE:zm ["self","one","other"] ["self","one","other"] (ze yR):=by nofun
theorem yM{f CO CR CW:Addr}{fd:FuncData}(B:Bt mg)(DRk:DR P w K mg base CO CR CW)(F:Fun K "before" "Order.before" yR f fd) : FnOk P w K mg base CX0 3 f fd ["self","one","other"] (Xe CO CR CW):=by
 refine F.ok uE (fun vs H Q E h=>?_) (fun cdv A outer s H vs Q E hr h=>?_)
 ·obtain⟨o,k,l,ns,u,v,rfl,_⟩:=h
  rfl
 ·obtain⟨o,k,l,ns,u,v,rfl,ho,hG,hu,hv,hmu,hmv,q⟩:=h
  refine⟨_,(zd (zq (yK (JO (xS hr)) (zah DRk hr (pv 0) (za (pv 1) zc)) (zah DRk hr (pv 0) (za (pv 2) zc)) (zy _)))),?_⟩
  have s16:=ye
  repeat (first | rfl' | simp only[wY,zI,yf,vB,vI,zH])
  obtain⟨C,dx,fs,hf,ho1,hn,_⟩:=ho.fam
  have h1:fs.lookup ("rank" : Str)=none:=hn _ (by decide) (by decide)
  refine⟨C,hf,dx,fs,ho1,h1,o,k,l,ns,u,rfl,ho,hG,hu,hmu,fun p x H1 s1 hp hx=>⟨C,hf,dx,fs,s1 _ _ ho1,h1,o,k,l,ns,v,rfl,ho.same s1,hG,hv,hmv,fun p' x' H2 s2 hp' hx'=>?_⟩⟩
  refine Qx (k9 (s2 _ _ hp) (s2 _ _ hx)) (k9 hp' hx') (by simp only[dpD,va,jD];decide) (by simp only[okD,ko];exact⟨trivial,uU _ _,trivial⟩) ?_
  rw[XU]
  exact q H2 (s1.trans s2)
abbrev DB(P:Program)(w:World)(K:rC)(mg:Str->Option Value)(base:Heap)(CO CR CW:Addr):Prop:=DMF P w K mg base CX0 3 (zad CO CR CW) "before" ["self","one","other"] (fun _=>Xe CO CR CW)
structure TNT(K:rC)(mg:Str->Option Value)(C:Addr):Prop where
 xi:XI K C
 g:mg "NotTurned" = some (.ref C)
 na:NoAttr K C "number"
theorem vZ:zm ["self","number"] ["self","number"] (ze zJ):=by nofun
theorem vW{f C:Addr}{fd:FuncData}(T:TNT K mg C)(F:Fun K "__init__" "NotTurned.__init__" zJ f fd):FnOk P w K mg base CX0 1 f fd ["self","number"] (vt C "number"):=by
 refine F.ok vZ (fun vs H Q E h=>?_) (fun cdv A outer s H vs Q E hr h=>?_)
 ·obtain⟨x,v,rfl,_⟩:=h
  rfl
 ·obtain⟨x,v,rfl,hx,q⟩:=h
  refine⟨_,(zd (WJ (pv 0) (pv 1) rfl)),?_⟩
  simp only[Qi]
  rfl'
  exact⟨C,hx,T.xi.toXC,T.na,q⟩
structure DNT(P:Program)(w:World)(K:rC)(mg:Str->Option Value)(base:Heap)(C:Addr):Prop extends TNT K mg C where
 ini:∃ f fd,ac K (.ref C) "__init__" = some (some (.ref f))/\aQ K (.ref f)=true/\FnOk P w K mg base CX0 1 f fd ["self","number"] (vt C "number")/\Binds K fd ["self","number"] []
structure YN(K:rC)(mg:Str->Option Value)(CH:Addr):Prop where
 cl:Cls K CH
 g:mg "System" = some (.ref CH)
 no:NoAttr K CH "order"
 nr:NoAttr K CH "rules"
noncomputable def wG(k:Nat)(l:List Nat)(ns:List Int):List zB->Nat->Option Nat
 | [],_=>none
 | r::rs,i=>if zS k l ns r.2 r.1=true then wG k l ns rs (i+1) else some i
theorem ZL{k:Nat}{l:List Nat}{ns:List Int}:∀{ps:List zB} {j i:Nat} {r:zB},(∀(m:Nat) (p:zB),m<i->ps[m]? = some p->zS k l ns p.2 p.1=true)->ps[i]? = some r->zS k l ns r.2 r.1=false->wG k l ns ps j=some (j+i)
 | [],_,_,_,_,h,_=>by simp at h
 | p::ps,j,0,r,_,h,hl=>by
  cases h
  rw[wG,hl,if_neg av]
  rfl
 | p::ps,j,i+1,r,hb,h,hl=>by
  rw[wG,if_pos (hb 0 p (Nat.succ_pos _) rfl),ZL (i:=i) (fun m q hm e=>hb (m+1) q (by lia) e) h hl]
  congr 1
  lia
theorem vP{k:Nat}{l:List Nat}{ns:List Int}:∀{ps:List zB} {j:Nat},(∀(m:Nat) (p:zB),ps[m]? = some p->zS k l ns p.2 p.1=true)->wG k l ns ps j=none
 | [],_,_=>rfl
 | p::ps,j,hb=>by
  rw[wG,if_pos (hb 0 p rfl)]
  exact vP fun m q e=>hb (m+1) q e
def InL(l:List Nat)(ps:List zB):Prop:=∀ p ∈ ps,p.1.length<=1000/\p.2.length<=1000/\(∀ c ∈ p.1,c ∈ l)/\∀ c ∈ p.2,c ∈ l
def jF(K:rC)(CO CR CW CT CH:Addr):Sp:=fun vs H Q E=>∃(x dx o a:Addr) (k:Nat) (l:List Nat) (ns:List Int) (ps:List zB) (xs:List V),vs=[.ref x,.ref o,.ref a]/\H x=some (.ins CH dx [])/\OrdAt CO CR CW H o k l ns/\OG l ns k/\H a=some (.lst xs)/\Iss K H (ps.map dR) xs/\InL l ps /\
 (∀ i,wG k l ns ps 0=some i->∀ H1,Same H H1->∀ d H',KT H1 d "number" (.int (i:Nat)) H'->E (.ref CT) (some d) H') /\
 (wG k l ns ps 0=none->∀(q:Addr) (H':Hp),(∀ b o',b≠x->H b=some o'->H' b=some o')->H' x=some (.ins CH dx [("order",.ref o),("rules",.ref q)])->H' q=some (.lst xs)->H q=none->Q .non H')
theorem lw:zm ["self","order","rules","number","rule"] ["self","order","rules"] (ze xn):=by nofun
theorem qu{f CO CR CW CT CH:Addr}{fd:FuncData}(B:Bt mg)(T:DNT P w K mg base CT)(TS:YN K mg CH)(DBk:DB P w K mg base CO CR CW)(F:Fun K "__init__" "System.__init__" xn f fd) : FnOk P w K mg base (CXx P w) 5 f fd ["self","order","rules"] (jF K CO CR CW CT CH):=by
 obtain⟨fi,fdi,hi,hfn,Fi,Bi⟩:=T.ini
 refine Fun.okX F lw (fun vs H Q E h=>?_) (fun cdv A outer s H vs Q E hr hx h=>?_)
 ·obtain⟨x,dx,o,a,k,l,ns,ps,xs,rfl,_⟩:=h
  rfl
 ·obtain⟨x,dx,o,a,k,l,ns,ps,xs,rfl,hx0,ho,hG,hA,hI,hP,q1,q2⟩:=h
  refine⟨_,(zg (zZ PassesOwn.leaving rfl (ZH rfl B.enum (za (pv 2) zc)) (uR (n:=2) rfl (zK (zp (i:=3) lw.nd rfl (.inl rfl)) (zK (zp (i:=4) lw.nd rfl (.inl rfl)) wS)))
    (zd (zP (yA (vb (zah DBk hr (pv 1) (za (zV ix_tup (pv 4) zi (fun _ _=>rfl)) (za (zV ix_tup (pv 4) zi (fun _ _=>rfl)) zc))) (fun _=>rfl)))
     (zd (jL hx rfl T.xi.toXC hi hfn Fi (hr.mono (by decide)) Bi rfl T.g (za (pv 3) zc)))
     zu)))
   (zg (qP (pv 0) (pv 1) rfl)
   (zd (qP (pv 0) (ve xO rfl B.list PySem.Pv.boot_list (za (pv 2) zc)) rfl)))),?_⟩
  have s16:=ye
  refine zj (fun σ H'=>Same H H'/\wG k l ns ps 0=none/\∃ v3 v4,σ=[some (.ref x),some (.ref o),some (.ref a),v3,v4]) ?_ ?_
  ·repeat (first | rfl' | simp only[wY,zI,yf,vB,vI,zH])
   refine⟨⟨_,SqL.of hA⟩,ForEL.by (xs:=xs) (fun i σ H'=>Same H H'/\(∀(j:Nat) (p:zB),j<i->ps[j]? = some p->zS k l ns p.2 p.1=true)/\∃ v3 v4,σ=[some (.ref x),some (.ref o),some (.ref a),v3,v4]) ⟨Same.refl _,fun j p h=>absurd h (cC j),_,_,rfl⟩ ?_ ?_ ?_⟩
   ·rintro i σ H' _ ⟨hs,_⟩
    exact SqL.of (hs _ _ hA)
   ·rintro i y σ H' p hy ⟨hs,hb,v3,v4,rfl⟩ hpn
    obtain⟨r,pr,hri,rfl,hqr⟩:=hI.getR hy
    have hm:=hP r (ae hri)
    have s2:=hs.trans (zf (o:=.tup [.int (i:Nat),.ref pr]) hpn)
    have ho2:=ho.same s2
    have hq2:=xA s2 hqr
    obtain⟨C,dy,fs,hf,hoC,hn,_⟩:=ho2.fam
    have hn1:fs.lookup ("before" : Str)=none:=hn _ (by decide) (by decide)
    repeat (first | rfl' | simp only[wY,zI,yf,vB,vI,zH])
    refine⟨_,SqT.of zb,rfl,_,_,rfl,_,_,rfl,rfl,C,hf,dy,fs,hoC,hn1,_,rfl,_,hq2,_,rfl,_,rfl,_,hq2,_,rfl,o,k,l,ns,r.2,r.1,rfl,ho2,hG,hm.2.1,hm.1,hm.2.2.2,hm.2.2.1,fun H3 s3=>?_⟩
    have s16:=ye
    refine⟨_,rfl,xx (fun e=>⟨by lia,Xt (q1 i (by have:=ZL (j:=0) hb hri e;simpa using this) H3 (s2.trans s3))⟩) fun e=>⟨s2.trans s3,fun j p' hj hp'=>?_⟩⟩
    by_cases hj':j<i
    ·exact hb j p' hj' hp'
    ·have:j=i:=by lia
     rw[this,hri] at hp'
     cases hp'
     simpa using e
   ·rintro σ H' ⟨hs,hb,v3,v4,rfl⟩
    have hxl:=hI.len
    rw[aa] at hxl
    exact⟨hs,vP fun m p e=>hb m p (by have:=(rD.mp e).1;lia) e,v3,v4,rfl⟩
  rintro σ H1 ⟨s1,hf,v3,v4,rfl⟩
  refine zj (fun σ H'=>H'=upd H1 x (.ins CH dx [("order",.ref o)])/\σ=[some (.ref x),some (.ref o),some (.ref a),v3,v4]) ?_ ?_
  ·repeat (first | rfl' | simp only[wY,zI,yf,vB,vI,zH])
   exact⟨_,_,_,s1 _ _ hx0,TS.cl,TS.no,by decide,rfl⟩
  rintro σ H2 ⟨rfl,rfl⟩
  repeat (first | rfl' | simp only[wY,zI,yf,vB,vI,zH])
  have hax:a≠x:=fun e=>by rw[e,hx0] at hA;cases hA
  refine⟨xs,.inl (SqL.of (by rw[zh hax];exact s1 _ _ hA)),fun q hq=>?_⟩
  have hqx:q≠x:=fun e=>by rw[e,zb] at hq;cases hq
  rw[zh hqx] at hq
  have hqH:H q=none:=by
   cases e:H q with
   | none=>rfl
   | some o'=>rw[s1 _ _ e] at hq;cases hq
  refine⟨CH,dx,_,by rw[zh hqx.symm,zb],TS.cl,TS.nr,by show 1<1000;decide,q2 hf q _ (fun b o' hb e=>?_) zb (by rw[zh hqx,zb]) hqH⟩
  rw[zh hb,zh (fun z=>by rw[z,hqH] at e;cases e),zh hb]
  exact s1 _ _ e
def SysAt(K:rC)(CH:Addr)(H:Hp)(y o q:Addr)(ps:List zB):Prop:=∃ dx xs,H y=some (.ins CH dx [("order",.ref o),("rules",.ref q)])/\H q=some (.lst xs)/\Iss K H (ps.map dR) xs
theorem SysAt.same{K:rC}{CH:Addr}{H H':Hp}{y o q:Addr}{ps:List zB}(h:SysAt K CH H y o q ps)(s:Same H H'):SysAt K CH H' y o q ps:=by
 obtain⟨dx,xs,h1,h2,h3⟩:=h
 exact⟨dx,xs,s _ _ h1,s _ _ h2,Iss.same s _ _ h3⟩
noncomputable def stJ(l:List Nat)(ps:List zB)(q j:Nat):Bool:=((ps[j]?).map fun p=>zx l (q:Int) p.1).getD false
theorem qH{l:List Nat}{ps:List zB}{q j:Nat}{p:zB}(h:ps[j]? = some p):stJ l ps q j=zx l (q:Int) p.1:=by
 unfold stJ
 rw[h]
 rfl
theorem wz{l:List Nat}{ps:List zB}{q j:Nat}(h:stJ l ps q j=true):j<ps.length/\∃ p,ps[j]? = some p/\zx l (q:Int) p.1=true:=by
 unfold stJ at h
 cases e:ps[j]? with
 | none=>rw[e] at h;cases h
 | some p =>
  rw[e] at h
  exact⟨(rD.mp e).1,p,rfl,h⟩
noncomputable def qe(l:List Nat)(ps:List zB)(q i:Nat):List (Nat × Nat):=((az i).filter (stJ l ps q)).map fun j=>(j,q)
noncomputable def yo(l:List Nat)(ps:List zB)(k:Nat):List (Nat × Nat):=(az k).flatMap fun q=>qe l ps q ps.length
theorem Yw(l:List Nat)(ps:List zB)(q i:Nat):qe l ps q (i+1)=qe l ps q i ++ (if stJ l ps q i=true then [(i,q)] else []):=by
 unfold qe
 rw[cE,ft,aE]
 congr 1
 by_cases h:stJ l ps q i=true
 ·rw[if_pos h,eE h]
  rfl
 ·rw[if_neg h,eF h]
  rfl
theorem qL(l:List Nat)(ps:List zB)(k:Nat):yo l ps (k+1)=yo l ps k ++ qe l ps k ps.length:=by
 unfold yo
 rw[cE,bF]
 simp
theorem Y9(l:List Nat)(ps:List zB)(q i:Nat):(qe l ps q i).length<=i:=by
 unfold qe
 rw[aa]
 have:=eR (stJ l ps q) (az i)
 rw[bP] at this
 exact this
theorem WO(l:List Nat)(ps:List zB):∀ k,(yo l ps k).length<=k * ps.length
 | 0=>by simp [yo]
 | k+1=>by
  rw[qL,am,dg]
  have:=WO l ps k
  have:=Y9 l ps k ps.length
  lia
theorem usesN_mem{l:List Nat}{ps:List zB}{q i:Nat}{u:Nat × Nat}:u ∈ qe l ps q i ↔ u.2=q/\u.1<i/\stJ l ps q u.1=true:=by
 unfold qe
 rw[List.mem_map]
 constructor
 ·rintro⟨j,hj,rfl⟩
  rw[List.mem_filter,eS] at hj
  exact⟨rfl,hj.1,hj.2⟩
 ·rintro⟨h1,h2,h3⟩
  exact⟨u.1,rM.mpr ⟨rJ.mpr h2,h3⟩,by rw[<- h1]⟩
theorem usesK_mem{l:List Nat}{ps:List zB}{k:Nat}{u:Nat × Nat}:u ∈ yo l ps k ↔ u.2<k/\stJ l ps u.2 u.1=true:=by
 unfold yo
 rw[eA]
 constructor
 ·rintro⟨q,hq,hu⟩
  obtain⟨h1,h2,h3⟩:=usesN_mem.mp hu
  rw[eS] at hq
  rw[h1]
  exact⟨hq,h3⟩
 ·rintro⟨h1,h2⟩
  exact⟨u.2,rJ.mpr h1,usesN_mem.mpr ⟨rfl,(wz h2).1,h2⟩⟩
def uLt(a b:Nat × Nat):Prop:=a.2<b.2\/(a.2=b.2/\a.1<b.1)
theorem ue(l:List Nat)(ps:List zB)(q:Nat):∀ i,(qe l ps q i).Pairwise uLt
 | 0=>by simp [qe]
 | i+1=>by
  rw[Yw]
  refine rX.mpr ⟨ue l ps q i,?_,fun a ha b hb=>?_⟩
  ·split
   ·exact dm _ _
   ·exact List.Pairwise.nil
  ·obtain⟨h1,h2,_⟩:=usesN_mem.mp ha
   split at hb
   ·rw[rE.mp hb]
    exact .inr ⟨h1,h2⟩
   ·cases hb
theorem xB(l:List Nat)(ps:List zB):∀ k,(yo l ps k).Pairwise uLt
 | 0=>by simp [yo]
 | k+1=>by
  rw[qL]
  refine rX.mpr ⟨xB l ps k,ue l ps k _,fun a ha b hb=>?_⟩
  have h1:=(usesK_mem.mp ha).1
  have h2:=(usesN_mem.mp hb).1
  exact .inl (by lia)
def FirstN(l:List Nat)(ps:List zB)(lo hi n:Nat)(r:Option (Nat × Nat)):Prop :=
 (r=none/\∀ j q,j<n->lo<=q->q<hi->stJ l ps q j=false) \/
 ∃ n0 q0,r=some (n0,q0)/\n0<n/\lo<=q0/\q0<hi/\stJ l ps q0 n0=true/\∀ j q,j<n->lo<=q->stJ l ps q j=true->q0<q\/(q0=q/\n0<=j)
theorem FirstN.uniq{l:List Nat}{ps:List zB}{lo hi n:Nat}{r r':Option (Nat × Nat)}(h:FirstN l ps lo hi n r)(h':FirstN l ps lo hi n r'):r=r':=by
 rcases h with ⟨rfl,h⟩ | ⟨n0,q0,rfl,a1,a2,a3,a4,a5⟩
 ·rcases h' with ⟨rfl,_⟩ | ⟨n0,q0,rfl,a1,a2,a3,a4,a5⟩
  ·rfl
  ·rw[h n0 q0 a1 a2 a3] at a4
   cases a4
 ·rcases h' with ⟨rfl,h⟩ | ⟨n1,q1,rfl,b1,b2,b3,b4,b5⟩
  ·rw[h n0 q0 a1 a2 a3] at a4
   cases a4
  ·have x1:=a5 n1 q1 b1 b2 b4
   have x2:=b5 n0 q0 a1 a2 a4
   have e1:q0=q1:=by lia
   have e2:n0=n1:=by lia
   rw[e1,e2]
theorem qI{l:List Nat}{ps:List zB}{r:Option (Nat × Nat)}(h:FirstN l ps 0 l.length ps.length r):r=(yo l ps l.length).head?:=by
 have hs:=xB l ps l.length
 refine h.uniq ?_
 cases e:yo l ps l.length with
 | nil =>
  refine .inl ⟨rfl,fun j q _ _ hq=>?_⟩
  cases hb:stJ l ps q j with
  | false=>rfl
  | true =>
   have:(j,q) ∈ yo l ps l.length:=usesK_mem.mpr ⟨hq,hb⟩
   rw[e] at this
   cases this
 | cons u us =>
  rw[e] at hs
  have hu:u ∈ yo l ps l.length:=by rw[e];exact aD
  obtain⟨h1,h2⟩:=usesK_mem.mp hu
  refine .inr ⟨u.1,u.2,rfl,(wz h2).1,aP _,h1,h2,fun j q hj _ hb=>?_⟩
  by_cases hq:q<l.length
  ·have:(j,q) ∈ yo l ps l.length:=usesK_mem.mpr ⟨hq,hb⟩
   rw[e] at this
   rcases rH.mp this with e2 | e2
   ·rw[<- e2]
    exact .inr ⟨rfl,ar _⟩
   ·rcases (rY.mp hs).1 _ e2 with h | ⟨h,h'⟩
    ·exact .inl h
    ·exact .inr ⟨h,df h'⟩
  ·exact .inl (by lia)
theorem qh{l p:List Nat}{q:Nat}(hp:p≠[])(h:zx l (q:Int) p=true):q<l.length:=by
 obtain⟨h0,h1,_⟩:=of_decide_eq_true h
 have:0<p.length:=rS.mpr hp
 lia
theorem FirstN.keep{l:List Nat}{ps:List zB}{lo hi n:Nat}{r:Option (Nat × Nat)}{p:zB}(h:FirstN l ps lo hi n r)(hp:ps[n]? = some p)(hn:∀ q:Nat,lo<=q->q<(r.map Prod.snd).getD hi->zx l (q:Int) p.1=false):FirstN l ps lo hi (n+1) r:=by
 rcases h with ⟨rfl,h⟩ | ⟨n0,q0,rfl,a1,a2,a3,a4,a5⟩
 ·refine .inl ⟨rfl,fun j q hj h1 h2=>?_⟩
  by_cases e:j<n
  ·exact h j q e h1 h2
  ·have:j=n:=by lia
   subst this
   rw[qH hp]
   exact hn q h1 h2
 ·refine .inr ⟨n0,q0,rfl,by lia,a2,a3,a4,fun j q hj h1 h2=>?_⟩
  by_cases e:j<n
  ·exact a5 j q e h1 h2
  ·have:j=n:=by lia
   subst this
   rw[qH hp] at h2
   by_cases hq:q<q0
   ·rw[hn q h1 hq] at h2
    cases h2
   ·lia
theorem FirstN.take{l:List Nat}{ps:List zB}{lo hi n k:Nat}{r:Option (Nat × Nat)}{p:zB}(h:FirstN l ps lo hi n r)(hp:ps[n]? = some p)(h1:lo<=k)(h2:k<(r.map Prod.snd).getD hi)(h3:zx l (k:Int) p.1=true)(hn:∀ q:Nat,lo<=q->q<k->zx l (q:Int) p.1=false):FirstN l ps lo hi (n+1) (some (n,k)):=by
 have hk:k<hi/\∀ j q,j<n->lo<=q->stJ l ps q j=true->k<q:=by
  rcases h with ⟨rfl,h⟩ | ⟨n0,q0,rfl,a1,a2,a3,a4,a5⟩
  ·refine⟨h2,fun j q hj hl hb=>?_⟩
   by_cases hq:q<hi
   ·rw[h j q hj hl hq] at hb
    cases hb
   ·have h2':k<hi:=h2
    lia
  ·have h2':k<q0:=h2
   refine⟨by lia,fun j q hj hl hb=>?_⟩
   have:=a5 j q hj hl hb
   lia
 refine .inr ⟨n,k,rfl,by lia,h1,hk.1,by rw[qH hp];exact h3,fun j q hj hl hb=>?_⟩
 by_cases e:j<n
 ·exact .inl (hk.2 j q e hl hb)
 ·have:j=n:=by lia
  subst this
  rw[qH hp] at hb
  by_cases hq:q<k
  ·rw[hn q hl hq] at hb
   cases hb
  ·lia
theorem FirstN.window{l:List Nat}{ps:List zB}{lo mid hi n:Nat}{r:Option (Nat × Nat)}(h0:FirstN l ps lo mid n none)(hm:lo<=mid)(h:FirstN l ps mid hi n r):FirstN l ps lo hi n r:=by
 have h0':∀ j q,j<n->lo<=q->q<mid->stJ l ps q j=false:=by
  rcases h0 with ⟨_,h⟩ | ⟨_,_,h,_⟩
  ·exact h
  ·cases h
 rcases h with ⟨rfl,h⟩ | ⟨n0,q0,rfl,a1,a2,a3,a4,a5⟩
 ·refine .inl ⟨rfl,fun j q hj h1 h2=>?_⟩
  by_cases e:q<mid
  ·exact h0' j q hj h1 e
  ·exact h j q hj (by lia) h2
 ·refine .inr ⟨n0,q0,rfl,a1,by lia,a3,a4,fun j q hj h1 h2=>?_⟩
  by_cases e:q<mid
  ·rw[h0' j q hj h1 e] at h2
   cases h2
  ·exact a5 j q hj (by lia) h2
def NeL(ps:List zB):Prop:=∀ p ∈ ps,p.1≠[]
theorem FirstN.toEnd{l:List Nat}{ps:List zB}{lo hi n:Nat}{r:Option (Nat × Nat)}(hN:NeL ps)(h:FirstN l ps lo hi n r)(hl:r=none->l.length<=hi):FirstN l ps lo l.length n r:=by
 have hlt:∀ j q,stJ l ps q j=true->q<l.length:=fun j q hb=>by
  obtain⟨_,p,hp,hs⟩:=wz hb
  exact qh (hN p (ae hp)) hs
 rcases h with ⟨rfl,h⟩ | ⟨n0,q0,rfl,a1,a2,a3,a4,a5⟩
 ·exact .inl ⟨rfl,fun j q hj h1 h2=>h j q hj h1 (by have:=hl rfl;lia)⟩
 ·exact .inr ⟨n0,q0,rfl,a1,a2,hlt _ _ a4,a4,a5⟩
noncomputable def zA(l:List Nat)(ps:List zB):Option (Nat × Nat):=(yo l ps l.length).head?
theorem ZQ{l:List Nat}{ps:List zB}{r:Option (Nat × Nat)}(h:FirstN l ps 0 l.length ps.length r):r=zA l ps:=qI h
theorem Vp(l:List Nat)(ps:List zB)(hN:NeL ps):FirstN l ps 0 l.length ps.length (zA l ps):=by
 have hs:=xB l ps l.length
 unfold zA
 cases e:yo l ps l.length with
 | nil =>
  refine .inl ⟨rfl,fun j q _ _ hq=>?_⟩
  cases hb:stJ l ps q j with
  | false=>rfl
  | true =>
   have:(j,q) ∈ yo l ps l.length:=usesK_mem.mpr ⟨hq,hb⟩
   rw[e] at this
   cases this
 | cons u us =>
  rw[e] at hs
  have hu:u ∈ yo l ps l.length:=by rw[e];exact aD
  obtain⟨h1,h2⟩:=usesK_mem.mp hu
  refine .inr ⟨u.1,u.2,rfl,(wz h2).1,aP _,h1,h2,fun j q hj _ hb=>?_⟩
  have hq:q<l.length:=by
   obtain⟨_,p,hp,hs⟩:=wz hb
   exact qh (hN p (ae hp)) hs
  have:(j,q) ∈ yo l ps l.length:=usesK_mem.mpr ⟨hq,hb⟩
  rw[e] at this
  rcases rH.mp this with e2 | e2
  ·rw[<- e2]
   exact .inr ⟨rfl,ar _⟩
  ·rcases (rY.mp hs).1 _ e2 with h | ⟨h,h'⟩
   ·exact .inl h
   ·exact .inr ⟨h,df h'⟩
noncomputable def Zw(ps:List zB)(n:Nat):zB:=ps.getD n ([],[])
theorem qc{ps:List zB}{n:Nat}{p:zB}(h:ps[n]? = some p):Zw ps n=p:=by
 unfold Zw
 rw[aj,h]
 rfl
noncomputable def Wq(l:List Nat)(ps:List zB)(u:Nat × Nat):List Nat:=QG l (u.2:Int) (Zw ps u.1).1 (Zw ps u.1).2
noncomputable def Yq(ps:List zB)(l:List Nat):List Nat:=((zA l ps).map (Wq l ps)).getD l
noncomputable def wAt(ps:List zB)(l:List Nat):Nat->List Nat
 | 0=>l
 | j+1=>Yq ps (wAt ps l j)
noncomputable def sAt(ps:List zB)(l:List Nat)(j:Nat):List (Nat × Nat):=(az j).map fun i=>(zA (wAt ps l i) ps).getD (0,0)
theorem Vg(ps:List zB)(l:List Nat)(j:Nat):sAt ps l (j+1)=sAt ps l j ++ [(zA (wAt ps l j) ps).getD (0,0)]:=by
 unfold sAt
 rw[cE,aE]
 rfl
theorem Uz(ps:List zB)(l:List Nat)(j:Nat):(sAt ps l j).length=j:=by
 unfold sAt
 rw[aa,bP]
theorem xX{ps:List zB}{l:List Nat}{j:Nat}{u:Nat × Nat}(h:zA (wAt ps l j) ps=some u):wAt ps l (j+1)=Wq (wAt ps l j) ps u:=by
 show Yq ps (wAt ps l j)=_
 unfold Yq
 rw[h]
 rfl
def QS(ps:List zB)(l:List Nat)(j:Nat):Prop:=∀ i,i<j->zA (wAt ps l i) ps≠none
theorem YG{l:List Nat}{ps:List zB}{n q M lo:Nat}(h:FirstN l ps 0 l.length ps.length (some (n,q)))(hN:NeL ps)(hM:∀ p ∈ ps,p.1.length<=M)(hlo:lo=0\/lo+M<=q+1):FirstN (Wq l ps (n,q)) ps 0 lo ps.length none:=by
 refine .inl ⟨rfl,fun j x hj _ hx=>?_⟩
 rcases h with ⟨h,_⟩ | ⟨n0,q0,e,a1,a2,a3,a4,a5⟩
 ·cases h
 ·injection e with e
  injection e with e1 e2
  subst e1 e2
  cases hb:stJ (Wq l ps (n,q)) ps x j with
  | false=>rfl
  | true =>
   obtain⟨_,p,hp,hs⟩:=wz hb
   have hpm:=hM p (ae hp)
   have hpn:=rS.mpr (hN p (ae hp))
   have hxq:x+p.1.length<=q:=by lia
   obtain⟨s0,s1,s2⟩:=of_decide_eq_true hs
   rw[aL] at s2
   obtain⟨_,p2,hp2,hs2⟩:=wz a4
   obtain⟨t0,t1,t2⟩:=of_decide_eq_true hs2
   have e4:(Wq l ps (n,q)).take q=l.take q:=by
    unfold Wq QG
    rw[aL,bN,List.take_append_of_le_length (by rw[aO];lia),List.take_take,eh]
   have e5:∀ z:List Nat,((z.take q).drop x).take p.1.length=(z.drop x).take p.1.length:=fun z=>by
    rw[List.drop_take,List.take_take]
    congr 1
    lia
   have s3:(l.drop x).take p.1.length=p.1:=by rw[<- e5,<- e4,e5,s2]
   have:stJ l ps x j=true:=by
    rw[qH hp]
    exact decide_eq_true ⟨by lia,by lia,by rw[aL];exact s3⟩
   have:=a5 j x hj (aP _) this
   lia
def UseAt(H:Hp)(r:Option (Nat × Nat))(v:V):Prop:=(r=none/\v=.non)\/∃(n q:Nat) (p:Addr),r=some (n,q)/\v=.ref p/\H p=some (.tup [.int (n:Nat),.int (q:Nat)])
theorem UseAt.same{H H':Hp}{r:Option (Nat × Nat)}{v:V}(h:UseAt H r v)(s:Same H H'):UseAt H' r v:=by
 rcases h with h | ⟨n,q,p,h1,h2,h3⟩
 ·exact .inl h
 ·exact .inr ⟨n,q,p,h1,h2,s _ _ h3⟩
theorem WU{l p:List Nat}{lo hi:Int}{H:Hp}{Q:VK}(h0:0<=lo)(h1:0<=hi)(h:∀ r:Int,((r=-1/\∀ q:Nat,lo<=q->(q:Int)+p.length<=hi->zx l q p=false)\/∃ k:Nat,r=k/\lo<=k/\(k:Int)+p.length<=hi/\zx l k p=true/\∀ q:Nat,lo<=q->q<k->zx l q p=false)->Q (.int r) H):VZ (.str (tx l)) [.str (tx p),.int lo,.int hi] H Q:=by
 refine⟨l,p,lo,hi,rfl,rfl,h0,h1,fun r hr=>h r ?_⟩
 have no:∀ q:Nat,((l.drop q).take p.length≠p\/¬ q+p.length<=l.length)->zx l q p=false:=fun q hq=>decide_eq_false fun⟨_,b,c⟩=>by
  rcases hq with hq | hq
  ·exact hq c
  ·lia
 rcases hr with ⟨rfl,hn⟩ | ⟨k,rfl,k1,k2,k3,k4,hn⟩
 ·refine .inl ⟨rfl,fun q q1 q2=>no q ?_⟩
  by_cases e:q+p.length<=l.length
  ·exact .inl (hn q q1 q2 e)
  ·exact .inr e
 ·exact .inr ⟨k,rfl,k1,k2,decide_eq_true ⟨by lia,by lia,k4⟩,fun q q1 q2=>no q (.inl (hn q q1 q2))⟩
def wc(K:rC):Sp:=fun vs H Q _=>∃(a:Addr) (l:List Nat) (ps:List zB) (st en:Nat),vs=[.ref a,.str (tx l),.int (st:Nat),.int (en:Nat)]/\LsA K H a (ps.map dR)/\NeL ps/\(∀ p ∈ ps,p.1.length<=1000)/\∀(r:Option (Nat × Nat)) (v:V) (H':Hp),Same H H'->UseAt H' r v->FirstN l ps st en ps.length r->Q v H'
theorem Ze{a:Addr}{l:List Nat}{ps:List zB}{st en:Nat}{s e:Int}{H:Hp}{Q:VK}{E:XK}(hs:s=(st:Nat))(he:e=(en:Nat))(hA:LsA K H a (ps.map dR))(hN:NeL ps)(hP:∀ p ∈ ps,p.1.length<=1000)(q:∀(r:Option (Nat × Nat)) (v:V) (H':Hp),Same H H'->UseAt H' r v->FirstN l ps st en ps.length r->Q v H'):wc K [.ref a,.str (tx l),.int s,.int e] H Q E:=by
 subst hs he
 exact⟨a,l,ps,st,en,rfl,hA,hN,hP,q⟩
theorem gb:zm ["rules","word","start","end","found","number","rule","place"] ["rules","word","start","end"] (ze yU):=by nofun
theorem uO{f:Addr}{fd:FuncData}(B:Bt mg)(F:Fun K "first_within" "first_within" yU f fd) : FnOk P w K mg base CX0 1 f fd ["rules","word","start","end"] (wc K):=by
 refine F.ok gb (fun vs H Q E h=>?_) (fun cdv A outer s H vs Q E hr h=>?_)
 ·obtain⟨a,l,ps,st,en,rfl,_⟩:=h
  rfl
 ·obtain⟨a,l,ps,st,en,rfl,hA,hN,hP,q⟩:=h
  refine⟨_,(zg (zk (i:=4) gb.nd rfl (.inl rfl) wD)
   (zg (zZ PassesOwn.never rfl (ZH rfl B.enum (za (pv 0) zc)) (uR (n:=2) rfl (zK (zp (i:=5) gb.nd rfl (.inl rfl)) (zK (zp (i:=6) gb.nd rfl (.inl rfl)) wS)))
    (zn (zk (i:=7) gb.nd rfl (.inl rfl) (yL bx cT cU U7 (pv 1) (za (zV ix_tup (pv 6) zi (fun _ _=>rfl)) (za (pv 2) (za (zv op_add (zv qG (pv 3) zi) (zo zW rfl B.len aB (za (zV ix_tup (pv 6) zi (fun _ _=>rfl)) zc))) zc)))))
    (zd (zP (zE op_ge' (pv 7) zi (zy _))
     (zn (zk (i:=4) gb.nd rfl (.inl rfl) (xN (za (pv 5) (za (pv 7) zc))))
     (zd (zk (i:=3) gb.nd rfl (.inl rfl) (pv 7))))
     zu))))
   (zd (zq (pv 4))))),?_⟩
  have s16:=ye
  obtain⟨xs,hX,hI⟩:=id hA
  have hxl:=hI.len
  rw[aa] at hxl
  have s16:=ye
  refine zj (fun σ H'=>H'=H/\σ=[some (.ref a),some (.str (tx l)),some (.int (st:Nat)),some (.int (en:Nat)),some (.non),none,none,none]) ?_ ?_
  ·rfl'
  rintro σ H1 ⟨rfl,rfl⟩
  refine zj (fun σ H'=>Same H1 H'/\∃(r:Option (Nat × Nat)) (v:V) (v3 v5 v6 v7:Option V),UseAt H' r v/\FirstN l ps st en ps.length r/\σ=[some (.ref a),some (.str (tx l)),some (.int (st:Nat)),v3,some (v),v5,v6,v7]) ?_ ?_
  ·rfl'
   refine⟨⟨_,SqL.of hX⟩,ForEL.by (xs:=xs) (fun i σ H'=>Same H1 H'/\∃(r:Option (Nat × Nat)) (v:V) (v5 v6 v7:Option V),UseAt H' r v/\FirstN l ps st en i r/\σ=[some (.ref a),some (.str (tx l)),some (.int (st:Nat)),some (.int (((r.map Prod.snd).getD en:Nat):Int)),some (v),v5,v6,v7]) ⟨Same.refl _,none,.non,none,none,none,.inl ⟨rfl,rfl⟩,.inl ⟨rfl,fun j q h=>absurd h (cC j)⟩,rfl⟩ (fun i σ H' _ h=>SqL.of (h.1 _ _ hX)) ?_ ?_⟩
   ·rintro i y σ H' p hy ⟨hs,r,v,v5,v6,v7,hu,hF,rfl⟩ hpn
    obtain⟨rl,pr,hri,rfl,hqr⟩:=hI.getR hy
    have hm:=ae hri
    have hne:=rS.mpr (hN rl hm)
    have hrl:=hP rl hm
    have s2:=hs.trans (zf (o:=.tup [.int (i:Nat),.ref pr]) hpn)
    have hq2:=xA s2 hqr
    have hu2:=hu.same (zf (o:=.tup [.int (i:Nat),.ref pr]) hpn)
    rfl'
    refine⟨_,SqT.of zb,rfl,_,_,rfl,_,_,rfl,rfl,_,rfl,_,hq2,_,rfl,_,rfl,_,hq2,_,rfl,_,⟨by rw[yu];lia,rfl⟩,WU (by lia) (by rw[yu];lia) fun z hz=>⟨z,rfl,?_⟩⟩
    rw[yu] at hz
    rcases hz with ⟨rfl,hn⟩ | ⟨k,rfl,k1,k2,k3,hn⟩
    ·rw[if_neg (by decide)]
     exact⟨s2,r,v,hu2,hF.keep hri fun q q1 q2=>hn q (by lia) (by lia),rfl,rfl⟩
    ·rw[if_pos (by lia)]
     refine⟨by lia,fun p2 hp2=>⟨s2.trans (zf hp2),some (i,k),.ref p2,.inr ⟨i,k,p2,rfl,rfl,zb⟩,hF.take hri (by lia) (by lia) k3 fun q q1 q2=>hn q (by lia) q2,rfl,rfl⟩⟩
   ·rintro σ H' ⟨hs,r,v,v5,v6,v7,hu,hF,rfl⟩
    rw[hxl] at hF
    exact⟨hs,r,v,hu,hF,_,_,_,_,rfl⟩
  rintro σ H2 ⟨s2,r,v,v3,v5,v6,v7,hu,hF,rfl⟩
  rfl'
  exact q r v H2 s2 hu hF
structure zaH(mg:Str->Option Value):Prop where
 g:∃ t,mg "WINDOW" = some (.int 128 t)
def vf(K:rC):Sp:=fun vs H Q _=>∃(a:Addr) (l:List Nat) (ps:List zB) (st:Nat),vs=[.ref a,.str (tx l),.int (st:Nat)]/\LsA K H a (ps.map dR)/\NeL ps/\(∀ p ∈ ps,p.1.length<=1000)/\l.length<=100000/\∀(r:Option (Nat × Nat)) (v:V) (H':Hp),Same H H'->UseAt H' r v->FirstN l ps st l.length ps.length r->Q v H'
theorem uW{a:Addr}{l:List Nat}{ps:List zB}{st:Nat}{s:Int}{H:Hp}{Q:VK}{E:XK}(hs:s=(st:Nat))(hA:LsA K H a (ps.map dR))(hN:NeL ps)(hP:∀ p ∈ ps,p.1.length<=1000)(hl:l.length<=100000)(q:∀(r:Option (Nat × Nat)) (v:V) (H':Hp),Same H H'->UseAt H' r v->FirstN l ps st l.length ps.length r->Q v H'):vf K [.ref a,.str (tx l),.int s] H Q E:=by
 subst hs
 exact⟨a,l,ps,st,rfl,hA,hN,hP,hl,q⟩
theorem gG:zm ["rules","word","start","size","found"] ["rules","word","start"] (ze xK):=by nofun
theorem jm{f:Addr}{fd:FuncData}(B:Bt mg)(T:zaH mg)(F:Fun K "first_from" "first_from" xK f fd)(oZ:Df P w K mg base CX0 1 "first_within" ["rules","word","start","end"] [] (wc K)):FnOk P w K mg base CX0 2 f fd ["rules","word","start"] (vf K):=by
 obtain⟨t8,g8⟩:=T.g
 refine F.ok gG (fun vs H Q E h=>?_) (fun cdv A outer s H vs Q E hr h=>?_)
 ·obtain⟨a,l,ps,st,rfl,_⟩:=h
  rfl
 ·obtain⟨a,l,ps,st,rfl,hA,hN,hP,hl,q⟩:=h
  refine⟨_,(zg (zk (i:=3) gG.nd rfl (.inl rfl) (vX (v:=.int 128) rfl g8 ⟨t8,rfl⟩))
   (zg (uA PassesOwn.never (zE op_lt (pv 2) (zo zW rfl B.len aB (za (pv 1) zc)) (zy _))
    (zn (zk (i:=4) gG.nd rfl (.inl rfl) (cl0 oZ hr .nil rfl (za (pv 0) (za (pv 1) (za (pv 2) (za (zv op_add (pv 2) (pv 3)) zc))))))
    (zn (zP (zE op_notN' (pv 4) wD (zy _))
     (zd (zq (pv 4)))
     zu)
    (zn (zk (i:=2) gG.nd rfl (.inl rfl) (zv op_add (pv 2) (pv 3)))
    (zd (zk (i:=3) gG.nd rfl (.inl rfl) (zv op_mul (pv 3) zi)))))))
   (zd (zq wD)))),?_⟩
  have s16:=ye
  have s16:=ye
  refine zj (fun σ H'=>H'=H/\σ=[some (.ref a),some (.str (tx l)),some (.int (st:Nat)),some (.int 128),none]) ?_ ?_
  ·rfl'
  rintro σ H1 ⟨rfl,rfl⟩
  refine zj (fun σ H'=>Same H1 H'/\FirstN l ps st l.length ps.length none) ?_ ?_
  ·unfold kC
   refine⟨fun m σ H'=>∃(s z:Nat) (v4:Option V),m=l.length - s/\st<=s/\1<=z/\Same H1 H'/\FirstN l ps st s ps.length none/\σ=[some (.ref a),some (.str (tx l)),some (.int (s:Nat)),some (.int (z:Nat)),v4],⟨_,st,128,none,rfl,ar _,by decide,Same.refl _,.inl ⟨rfl,fun j q _ h1 h2=>by lia⟩,rfl⟩,?_⟩
   rintro m σ H' ⟨s,z,v4,rfl,hs,hz,sm,hF,rfl⟩
   rfl'
   refine⟨by lia,xx (fun hlt=>?_) fun hge=>⟨sm,hF.toEnd hN fun _=>by lia⟩⟩
   refine⟨fun σ' H''=>∃ v4:Option V,Same H1 H''/\FirstN l ps st (s+z) ps.length none/\σ'=[some (.ref a),some (.str (tx l)),some (.int ((s+z:Nat):Int)),some (.int ((z * 2:Nat):Int)),v4],fun σ' H'' ⟨v4,a1,a2,a3⟩=>⟨l.length - (s+z),by lia,s+z,rfl,by lia,z * 2,by lia,a1,a2,v4,a3⟩,?_⟩
   refine Ze (en:=s+z) rfl (by lia) (hA.same sm) hN hP fun r v H2 s2 hu hF2=>?_
   rcases hu with ⟨rfl,rfl⟩ | ⟨n,qq,p,rfl,rfl,hp⟩
   ·rw[if_neg (fun h=>h rfl)]
    exact⟨.inr ⟨by decide,by decide⟩,some .non,sm.trans s2,hF.window hs hF2,by push_cast;rfl⟩
   ·rw[if_pos (by intro h;cases h)]
    exact q _ _ H2 (sm.trans s2) (.inr ⟨n,qq,p,rfl,rfl,hp⟩) ((hF.window hs hF2).toEnd hN (fun e=>by cases e))
  rintro σ H2 ⟨s2,hF⟩
  rfl'
  exact q none .non H2 s2 (.inl ⟨rfl,rfl⟩) hF
theorem LsA.pushT{H:Hp}{D p:Addr}{ds es:List L3.D}{xs vs:List V}(h1:H D=some (.lst xs))(h2:Iss K H ds xs)(hp:H p=none)(hv:Iss K H es vs)(f:yd ds)(fe:yd es):LsA K (upd (upd H p (.tup vs)) D (.lst (xs ++ [.ref p]))) D (ds ++ [.tup es]):=by
 have e:(upd H p (.tup vs)) D=some (.lst xs):=zf hp _ _ h1
 exact LsA.snoc e (Iss.same (zf hp) _ _ h2) f (by simp only[uj];exact fe) (Is.tup hp hv)
def jn(K:rC)(CH:Addr):Sp:=fun vs H Q _=>∃(y o q:Addr) (ps:List zB) (l:List Nat),vs=[.ref y,.str (tx l)]/\SysAt K CH H y o q ps/\l.length<=1000/\NeL ps/\(∀ p ∈ ps,p.1.length<=1000)/\∀(r:Option (Nat × Nat)) (v:V) (H':Hp),Same H H'->UseAt H' r v->FirstN l ps 0 l.length ps.length r->Q v H'
theorem Vn{CH y o q:Addr}{ps:List zB}{l:List Nat}{H:Hp}{Q:VK}{E:XK}(hy:SysAt K CH H y o q ps)(hl:l.length<=1000)(hN:NeL ps)(hP:∀ p ∈ ps,p.1.length<=1000)(h:∀(r:Option (Nat × Nat)) (v:V) (H':Hp),Same H H'->UseAt H' r v->FirstN l ps 0 l.length ps.length r->Q v H'):jn K CH [.ref y,.str (tx l)] H Q E:=⟨y,o,q,ps,l,rfl,hy,hl,hN,hP,h⟩
theorem wJ:zm ["self","word"] ["self","word"] (ze yc):=by nofun
theorem wU{f CH:Addr}{fd:FuncData}(B:Bt mg)(TS:YN K mg CH)(F:Fun K "first_use" "System.first_use" yc f fd)(iT:Df P w K mg base CX0 2 "first_from" ["rules","word","start"] [] (vf K)):FnOk P w K mg base CX0 3 f fd ["self","word"] (jn K CH):=by
 refine F.ok wJ (fun vs H Q E h=>?_) (fun cdv A outer s H vs Q E hr h=>?_)
 ·obtain⟨y,o,q,ps,l,rfl,_⟩:=h
  rfl
 ·obtain⟨y,o,q,ps,l,rfl,hy,hl,hN,hP,k⟩:=h
  refine⟨_,(zd (zq (cl0 iT hr .nil rfl (za (yG (pv 0) rfl) (za (pv 1) (za zi zc)))))),?_⟩
  have s16:=ye
  rfl'
  obtain⟨dx,xs,h1,h2,h3⟩:=id hy
  exact⟨_,_,_,h1,TS.cl,TS.nr,_,rfl,uW (st:=0) rfl ⟨xs,h2,h3⟩ hN hP (by lia) k⟩
def Zj(K:rC)(CH:Addr):Sp:=fun vs H Q _=>∃(y o q:Addr) (ps:List zB) (l:List Nat),vs=[.ref y,.str (tx l)]/\SysAt K CH H y o q ps/\l.length<=1000/\NeL ps/\(∀ p ∈ ps,p.1.length<=1000)/\∀(H':Hp),Same H H'->Q (.bl (yo l ps l.length).isEmpty) H'
theorem xJ:zm ["self","word"] ["self","word"] (ze zU):=by nofun
theorem xz{f CH:Addr}{fd:FuncData}(B:Bt mg)(TS:YN K mg CH)(F:Fun K "is_shortest" "System.is_shortest" zU f fd)(M_system_first_use:DM P w K mg base CX0 3 CH "first_use" ["self","word"] (jn K CH)):FnOk P w K mg base CX0 4 f fd ["self","word"] (Zj K CH):=by
 refine F.ok xJ (fun vs H Q E h=>?_) (fun cdv A outer s H vs Q E hr h=>?_)
 ·obtain⟨y,o,q,ps,l,rfl,_⟩:=h
  rfl
 ·obtain⟨y,o,q,ps,l,rfl,hy,hl,hN,hP,k⟩:=h
  refine⟨_,(zd (zq (yK op_isN' (me1 M_system_first_use TS.cl hr (pv 0) (za (pv 1) zc)) wD (zy _)))),?_⟩
  have s16:=ye
  rfl'
  obtain⟨dx,xs,h1,h2,h3⟩:=id hy
  refine⟨_,_,h1,rfl,Vn hy hl hN hP fun r v H' s' hu hF=>?_⟩
  have e:=qI hF
  have e2:decide (v=V.non)=(yo l ps l.length).isEmpty:=by
   rcases hu with ⟨rfl,rfl⟩ | ⟨n,qq,p,rfl,rfl,_⟩
   ·rw[rZ.mp e.symm]
    rfl
   ·cases h:yo l ps l.length with
    | nil=>rw[h] at e;cases e
    | cons a b=>rfl
  rw[e2]
  exact k H' s'
structure zaR(K:rC)(mg:Str->Option Value)(C:Addr):Prop where
 xi:XI K C
 ini:ac K (.ref C) "__init__" = some (some (.builtin "ValueError.__init__"))
 g:mg "TooFar" = some (.ref C)
noncomputable def dG(u:Nat × Nat):L3.D:=.tup [.int (u.1:Nat),.int (u.2:Nat),.bl true]
theorem UW(u:Nat × Nat):uj (dG u):=by simp only[dG,uj,yd,and_self]
theorem VO(us:List (Nat × Nat)):yd (us.map dG):=ke fun d h=>by obtain⟨r,_,rfl⟩:=rG.mp h;exact UW r
theorem KD{H:Hp}{n q:Nat}:Iss K H [.int (n:Nat),.int (q:Nat),.bl true] [.int (n:Nat),.int (q:Nat),.bl true]:=by
 simp only[Iss,Is]
 exact⟨_,_,rfl,rfl,_,_,rfl,rfl,_,_,rfl,rfl,rfl⟩
structure Rd(ps:List zB)(l:List Nat)(J:Nat):Prop where
 live:QS ps l J
 len:∀ j,j<=J->(wAt ps l j).length<=1000
 most:J<=10000
def wH(K:rC)(CF:Addr):Sp:=fun vs H Q E=>∃(a:Addr) (l:List Nat) (ps:List zB) (m:Int) (J:Nat),vs=[.ref a,.str (tx l),.int m]/\LsA K H a (ps.map dR)/\NeL ps/\ps.length<=100/\(∀ p ∈ ps,p.1.length<=1000/\p.2.length<=1000)/\Rd ps l J /\
 ((zA (wAt ps l J) ps=none/\(J:Int)<=m/\∀(p S:Addr) (H':Hp),Same H H'->H' p=some (.tup [.ref S,.str (tx (wAt ps l J))])->LsA K H' S ((sAt ps l J).map dG)->H S=none->Q (.ref p) H') \/
  (zA (wAt ps l J) ps≠none/\(J:Int)=m/\∀ H',Same H H'->E (.ref CF) none H'))
theorem YV{a:Addr}{ps:List zB}{σ:L2.St}{H:Hp}{Q:VK}{D:Addr}(hA:LsA K H a (ps.map dR))(hP:∀ p ∈ ps,p.1.length<=1000)(hpl:ps.length<=100)(hD:H D=none)(q:∀ H',Same H H'->H' D=some (.lst ((ps.map fun p=>(p.1.length:Int)).map V.int))->Q (.ref D) H') :
  CompL K a (yN 0) ud (tCB (U4 K) (zN (tOp (QD K) (ya 0) (tC (.int 0))) wQ)) 1 [] σ H Q D:=by
 have s16:=ye
 obtain⟨xs,hX,hI⟩:=hA
 have hxl:=hI.len
 rw[aa] at hxl
 refine CompL.by (xs:=xs) (fun i acc H'=>Same H H'/\H' D=some (.lst acc)/\acc=((ps.take i).map fun p=>(p.1.length:Int)).map V.int) ⟨zf hD,zb,rfl⟩ (fun i acc H' _ h=>SqL.of (h.1 _ _ hX)) ?_ ?_
 ·rintro i x acc H' hx ⟨hs,hH,rfl⟩
  have hil:=(rD.mp hx).1
  obtain⟨r,pr,hri,rfl,hqr⟩:=hI.getR hx
  have hm:=hP r (ae hri)
  simp only[ud]
  rfl'
  refine⟨qk,_,xA hs hqr,_,rfl,_,⟨by rw[yu];lia,rfl⟩,hH,by rw[aa,aa,aO];lia,CNx.mk hil ⟨zF hs hD,zb,?_⟩⟩
  rw[yb hri,aE,aE,yu]
  rfl
 ·rintro acc H' ⟨hs,hH,rfl⟩
  rw[hxl,be] at hH
  exact q H' hs hH
theorem zbp{H:Hp}{rs:List zB}{xs:List V}{i:Nat}{r:zB}(hI:Iss K H (rs.map dR) xs)(hi:rs[i]? = some r):∃ p,atI xs (i:Int)=some (.ref p)/\SqT K H p [.str (tx r.1),.str (tx r.2)]:=by
 have hl:=hI.len
 rw[aa] at hl
 have hil:=(rD.mp hi).1
 obtain⟨v,a1,b1⟩:=vg (xs:=xs) (i:=(i:Int)) (by lia) (by lia)
 obtain⟨r',p,h1,rfl,h3⟩:=hI.getR (j:=i) b1
 rw[hi] at h1
 cases h1
 exact⟨p,a1,h3⟩
theorem iR:zm ["rules","word","most","longest","steps","use","number","place"] ["rules","word","most"] (ze wF):=by nofun
theorem Qd{f CU CF:Addr}{fd:FuncData}{dV:Value}(B:Bt mg)(T:zaR K mg CF)(TU:DNU P w K mg base CU)(F:FunD K "gone" "gone" wF dV f fd)(iT:Df P w K mg base CX0 2 "first_from" ["rules","word","start"] [] (vf K))(rn:Df P w K mg base (CXx P w) 3 "put" ["word","place","old","new"] [] (X7 CU)):FnOk P w K mg base (CXx P w) 4 f fd ["rules","word","most"] (wH K CF):=by
 refine FunD.okX F iR (fun vs H Q E h=>?_) (fun cdv A outer s H vs Q E hr hx h=>?_)
 ·obtain⟨a,l,ps,m,J,rfl,_⟩:=h
  rfl
 ·obtain⟨a,l,ps,m,J,rfl,hA,hN,hpl,hP,hR,hq⟩:=h
  refine⟨_,(zg (zk (i:=3) iR.nd rfl (.inl rfl) (XS (JB rfl) rfl B.max Z8 (za (xU (own:=["rule"]) (caps:=[]) (ix:=[]) (tt:=ud) (te:=(tCB (U4 K) (zN (tOp (QD K) (ya 0) (tC (.int 0))) wQ))) rfl (yJ (sc:=ze wF) rfl (by symm) (by symm) (by symm) rfl (by symm) (by symm) rfl) (yW (pv 0)) (fun _ _ _ _ _ _=>zp (i:=0) (show List.Nodup [_] by decide) rfl (.inl rfl)) (fun _ _ _ _ _ _=>xl) (fun _ _ _ _ _ _=>(zo zW rfl B.len aB (za (zV ix_tup (pv 0) zi (fun _ _=>rfl)) zc)))) zc) (Xi zi VY)))
   (zg (zk (i:=4) iR.nd rfl (.inl rfl) (xu zc))
   (zg (zk (i:=5) iR.nd rfl (.inl rfl) (cl0 iT hr .nil rfl (za (pv 0) (za (pv 1) (za zi zc)))))
   (zg (uA PassesOwn.leaving (zE op_notN' (pv 5) wD (zy _))
    (zg (zP (zE op_ge' (zo zW rfl B.len aB (za (pv 4) zc)) (pv 2) (zy _))
     (zd (z6 hx rfl T.xi.toXC T.ini rfl T.g (za yh zc)))
     zu)
    (zg (zk (i:=6) iR.nd rfl (.inl rfl) (zV ix_tup (pv 5) zi (fun _ _=>rfl)))
    (zg (zk (i:=7) iR.nd rfl (.inl rfl) (zV ix_tup (pv 5) zi (fun _ _=>rfl)))
    (zg (zk (i:=1) iR.nd rfl (.inl rfl) (clP hx rn hr .nil rfl (za (pv 1) (za (pv 7) (za (zV ix_tup (zV ix_list (pv 0) (pv 6) (fun _ _=>rfl)) zi (fun _ _=>rfl)) (za (zV ix_tup (zV ix_list (pv 0) (pv 6) (fun _ _=>rfl)) zi (fun _ _=>rfl)) zc))))))
    (zg (yS (yL aK bh bi z7 (pv 4) (za (xN (za (pv 6) (za (pv 7) (za wx zc)))) zc)))
    (zd (zk (i:=5) iR.nd rfl (.inl rfl) (cl0 iT hr .nil rfl (za (pv 0) (za (pv 1) (za (zo (JE rfl) rfl B.max Z8 (za zi (za (zv op_add (zv qG (pv 7) (pv 3)) zi) zc))) zc))))))))))))
   (zd (zq (xN (za (pv 4) (za (pv 1) zc))))))))),?_⟩
  have s16:=ye
  have s16:=ye
  refine zj (fun σ H'=>Same H H'/\∃ M:Int,(∀ p ∈ ps,(p.1.length:Int)<=M)/\σ=[some (.ref a),some (.str (tx l)),some (.int m),some (.int M),none,none,none,none]) ?_ ?_
  ·rfl'
   simp only[zaK]
   rfl'
   obtain⟨xs,hX,hI⟩:=id hA
   exact⟨⟨_,SqL.of hX⟩,fun D hD=>YV hA (fun p hp=>(hP p hp).1) hpl hD fun H' s' hH=>⟨D,_,0,rfl,rfl,SqL.of hH,fun z _ hz=>⟨s',z,fun p hp=>hz _ (rG.mpr ⟨p,hp,rfl⟩),rfl⟩⟩⟩
  rintro σ H1 ⟨s1,M,hM,rfl⟩
  refine zj (fun σ H'=>Same H H'/\∃ S:Addr,H S=none/\H' S=some (.lst [])/\σ=[some (.ref a),some (.str (tx l)),some (.int m),some (.int M),some (.ref S),none,none,none]) ?_ ?_
  ·rfl'
   exact⟨by lia,fun p hp=>⟨s1.trans (zf hp),p,s1.free hp,zb,rfl⟩⟩
  rintro σ H2 ⟨s2,S,hSn,hS,rfl⟩
  refine zj (fun σ H'=>Same H H'/\H' S=some (.lst [])/\∃ uv:V,UseAt H' (zA l ps) uv/\σ=[some (.ref a),some (.str (tx l)),some (.int m),some (.int M),some (.ref S),some (uv),none,none]) ?_ ?_
  ·rfl'
   exact uW (st:=0) rfl (hA.same s2) hN (fun p hp=>(hP p hp).1) (by have:=hR.len 0 (aP _);exact bu this (by decide)) fun r v H' s' hu hF=>⟨s2.trans s',s' _ _ hS,(by rw[ZQ hF] at hu;exact hu)⟩
  rintro σ H3 ⟨s3,hS3,uv,hu,rfl⟩
  refine zj (fun σ H'=>Same H H'/\zA (wAt ps l J) ps=none/\LsA K H' S ((sAt ps l J).map dG)/\∃ v5 v6 v7,σ=[some (.ref a),some (.str (tx (wAt ps l J))),some (.int m),some (.int M),some (.ref S),v5,v6,v7]) ?_ ?_
  ·unfold kC
   refine⟨fun k σ H'=>∃(j:Nat) (uv:V) (v6 v7:Option V),k=J - j/\j<=J/\Same H H'/\LsA K H' S ((sAt ps l j).map dG)/\UseAt H' (zA (wAt ps l j) ps) uv/\σ=[some (.ref a),some (.str (tx (wAt ps l j))),some (.int m),some (.int M),some (.ref S),some (uv),v6,v7],⟨_,0,uv,none,none,rfl,aP _,s3,⟨[],hS3,by simp only[sAt,List.range_zero,ba,Iss]⟩,hu,rfl⟩,?_⟩
   rintro k σ H' ⟨j,uv,v6,v7,rfl,hj,hs,hL,hu,rfl⟩
   have hlj:=hR.len j hj
   have hRm:=hR.most
   obtain⟨xs,hX,hI⟩:=id hA
   rfl'
   refine xx (fun hne=>?_) fun hne=>?_
   ·rcases hu with ⟨_,h⟩ | ⟨n,q0,p,hf,rfl,hp⟩
    ·exact absurd h hne
    have hF:=Vp (wAt ps l j) ps hN
    rw[hf] at hF
    have hjJ:j<J\/(j=J/\(J:Int)=m/\∀ H',Same H H'->E (.ref CF) none H'):=by
     by_cases e:j=J
     ·subst e
      rcases hq with ⟨h,_⟩ | ⟨_,h1,h2⟩
      ·rw[hf] at h
       cases h
      ·exact .inr ⟨rfl,h1,h2⟩
     ·exact .inl (by lia)
    have hJm:(J:Int)<=m:=by
     rcases hq with ⟨_,h,_⟩ | ⟨_,h,_⟩ <;> lia
    obtain⟨rl,hrl,hst⟩:∃ rl,ps[n]? = some rl/\zx (wAt ps l j) (q0:Int) rl.1=true:=by
     rcases hF with ⟨h,_⟩ | ⟨n0,q1,e,_,_,_,a4,_⟩
     ·cases h
     ·cases e
      exact (wz a4).2
    have hlp:=hP rl (ae hrl)
    have hw:=xX hf
    obtain⟨pr,hai,hqr⟩:=zbp hI hrl
    refine⟨fun σ' H''=>∃(uv:V) (v6 v7:Option V),j<J/\Same H H''/\LsA K H'' S ((sAt ps l (j+1)).map dG)/\UseAt H'' (zA (wAt ps l (j+1)) ps) uv/\σ'=[some (.ref a),some (.str (tx (wAt ps l (j+1)))),some (.int m),some (.int M),some (.ref S),some (uv),v6,v7],fun σ' H'' ⟨uv,v6,v7,a0,a1,a2,a3,a4⟩=>⟨J - (j+1),by lia,j+1,rfl,by lia,a1,a2,uv,a3,v6,v7,a4⟩,?_⟩
    obtain⟨ys,hY,hJ2⟩:=id hL
    have hyl:=hJ2.len
    rw[aa,Uz] at hyl
    refine zj (fun σ' H''=>H''=H'/\j<J/\σ'=[some (.ref a),some (.str (tx (wAt ps l j))),some (.int m),some (.int M),some (.ref S),some (.ref p),v6,v7]) ?_ ?_
    ·rfl'
     refine⟨_,.inl ⟨_,SqL.of hY,rfl⟩,xx (fun hge=>?_) fun hge=>?_⟩
     ·rcases hjJ with h | ⟨_,_,h⟩
      ·lia
      ·exact⟨by lia,h _ hs⟩
     ·rcases hjJ with h | ⟨e,h,_⟩
      ·exact h
      ·lia
    rintro σ' G1 ⟨rfl,hlt,rfl⟩
    refine zj (fun σ' H''=>H''=G1/\σ'=[some (.ref a),some (.str (tx (wAt ps l j))),some (.int m),some (.int M),some (.ref S),some (.ref p),some (.int (n:Nat)),v7]) ?_ ?_
    ·rfl'
     exact⟨_,SqT.of hp,rfl⟩
    rintro σ' G2 ⟨rfl,rfl⟩
    refine zj (fun σ' H''=>H''=G2/\σ'=[some (.ref a),some (.str (tx (wAt ps l j))),some (.int m),some (.int M),some (.ref S),some (.ref p),some (.int (n:Nat)),some (.int (q0:Nat))]) ?_ ?_
    ·rfl'
     exact⟨_,SqT.of hp,rfl⟩
    rintro σ' G3 ⟨rfl,rfl⟩
    refine zj (fun σ' H''=>H''=G3/\σ'=[some (.ref a),some (.str (tx (wAt ps l (j+1)))),some (.int m),some (.int M),some (.ref S),some (.ref p),some (.int (n:Nat)),some (.int (q0:Nat))]) ?_ ?_
    ·rfl'
     have hq2:=xA hs hqr
     exact⟨_,SqL.of (hs _ _ hX),_,hai,_,rfl,_,hq2,_,rfl,_,SqL.of (hs _ _ hX),_,hai,_,rfl,_,hq2,_,rfl,wAt ps l j,rl.1,rl.2,(q0:Nat),rfl,hlj,hlp.1,hlp.2,fun _=>⟨rfl,by rw[hw];unfold Wq;rw[qc hrl]⟩,fun h=>by rw[hst] at h;cases h⟩
    rintro σ' G4 ⟨rfl,rfl⟩
    refine zj (fun σ' H''=>Same H H''/\LsA K H'' S ((sAt ps l (j+1)).map dG)/\σ'=[some (.ref a),some (.str (tx (wAt ps l (j+1)))),some (.int m),some (.int M),some (.ref S),some (.ref p),some (.int (n:Nat)),some (.int (q0:Nat))]) ?_ ?_
    ·rfl'
     refine⟨.inl ⟨_,SqL.of hY⟩,by lia,fun t ht=>⟨_,zf ht _ _ hY,by lia,zF (hs.trans (zf ht)) hSn,?_⟩⟩
     rw[Vg,hf,aE]
     exact LsA.pushT hY hJ2 ht KD (VO _) (by simp only[yd,uj,and_self])
    rintro σ' G5 ⟨s5,hL5,rfl⟩
    have hl1:=hR.len (j+1) hlt
    have hM0:=hM rl (ae hrl)
    rfl'
    refine uW (st:=(if (q0:Int) - M+1 > 0 then (q0:Int) - M+1 else 0).toNat) (by split <;> lia) (hA.same s5) hN (fun p hp=>(hP p hp).1) (bu hl1 (by decide)) fun r v H' s' hu hF2=>⟨hlt,s5.trans s',hL5.same s',?_⟩
    have hb:=YG (M:=M.toNat) (lo:=(if (q0:Int) - M+1 > 0 then (q0:Int) - M+1 else 0).toNat) hF hN (fun p hp=>by have:=hM p hp;lia) (by split <;> lia)
    rw[<- hw] at hb
    rw[ZQ (hb.window (aP _) hF2)] at hu
    exact hu
   ·have hv:uv=.non:=Decidable.not_not.mp hne
    have hf:zA (wAt ps l j) ps=none:=by
     rcases hu with ⟨h,_⟩ | ⟨_,_,_,_,h,_⟩
     ·exact h
     ·rw[hv] at h
      cases h
    have e:j=J:=by
     rcases fq j J with h | h
     ·exact absurd hf (hR.live j h)
     ·lia
    subst e
    exact⟨hs,hf,hL,rfl⟩
  rintro σ H4 ⟨s4,hF,hL,v5,v6,v7,rfl⟩
  rfl'
  rcases hq with ⟨_,_,hq⟩ | ⟨h,_⟩
  ·exact⟨by lia,fun p hp=>hq p S _ (s4.trans (zf hp)) zb (hL.same (zf hp)) hSn⟩
  ·exact absurd hF h
def Zl(K:rC)(CH CF:Addr):Sp:=fun vs H Q E=>∃(y o q:Addr) (l:List Nat) (ps:List zB) (m:Int) (J:Nat),vs=[.ref y,.str (tx l),.int m]/\SysAt K CH H y o q ps/\NeL ps/\ps.length<=100/\(∀ p ∈ ps,p.1.length<=1000/\p.2.length<=1000)/\Rd ps l J /\
 ((zA (wAt ps l J) ps=none/\(J:Int)<=m/\∀(S:Addr) (H':Hp),Same H H'->LsA K H' S ((sAt ps l J).map dG)->H S=none->Q (.ref S) H') \/
  (zA (wAt ps l J) ps≠none/\(J:Int)=m/\∀ H',Same H H'->E (.ref CF) none H'))
theorem qA:zm ["self","word","most"] ["self","word","most"] (ze zG):=by nofun
theorem qt{f CF CH:Addr}{fd:FuncData}{dV:Value}{mw:Tok}(B:Bt mg)(TS:YN K mg CH)(F:FunD K "road" "System.road" zG dV f fd)(pS:Df P w K mg base (CXx P w) 4 "gone" ["rules","word","most"] [] (wH K CF))(DD_gone:Df P w K mg base (CXx P w) 4 "gone" ["rules","word","most"] [.int 4000 mw] (wH K CF)):FnOk P w K mg base (CXx P w) 5 f fd ["self","word","most"] (Zl K CH CF):=by
 refine FunD.okX F qA (fun vs H Q E h=>?_) (fun cdv A outer s H vs Q E hr hx h=>?_)
 ·obtain⟨y,o,q,l,ps,m,J,rfl,_⟩:=h
  rfl
 ·obtain⟨y,o,q,l,ps,m,J,rfl,hy,hN,hpl,hP,hR,hq⟩:=h
  refine⟨_,(zd (zq (zV ix_tup (clP hx pS hr .nil rfl (za (yG (pv 0) rfl) (za (pv 1) (za (pv 2) zc)))) zi (fun _ _=>rfl)))),?_⟩
  have s16:=ye
  rfl'
  obtain⟨dx,xs,h1,h2,h3⟩:=id hy
  refine⟨_,_,_,h1,TS.cl,TS.nr,_,rfl,_,l,ps,m,J,rfl,⟨xs,h2,h3⟩,hN,hpl,hP,hR,?_⟩
  rcases hq with ⟨a1,a2,a3⟩ | h
  ·exact .inl ⟨a1,a2,fun p S H' s' hp hL hS=>⟨_,rfl,_,SqT.of hp,_,rfl,a3 S H' s' hL hS⟩⟩
  ·exact .inr h
def vA(K:rC)(CH:Addr):Sp:=fun vs H Q E=>∃(y o q:Addr) (l:List Nat) (ps:List zB) (J:Nat),vs=[.ref y,.str (tx l)]/\SysAt K CH H y o q ps/\NeL ps/\ps.length<=100/\(∀ p ∈ ps,p.1.length<=1000/\p.2.length<=1000)/\Rd ps l J/\zA (wAt ps l J) ps=none/\J<=4000/\∀(H':Hp),Same H H'->Q (.str (tx (wAt ps l J))) H'
theorem vx:zm ["self","word"] ["self","word"] (ze yn):=by nofun
theorem vE{f CF CH:Addr}{fd:FuncData}{mw:Tok}(B:Bt mg)(TS:YN K mg CH)(F:Fun K "shortest" "System.shortest" yn f fd)(pS:Df P w K mg base (CXx P w) 4 "gone" ["rules","word","most"] [] (wH K CF))(DD_gone:Df P w K mg base (CXx P w) 4 "gone" ["rules","word","most"] [.int 4000 mw] (wH K CF)):FnOk P w K mg base (CXx P w) 5 f fd ["self","word"] (vA K CH):=by
 refine Fun.okX F vx (fun vs H Q E h=>?_) (fun cdv A outer s H vs Q E hr hx h=>?_)
 ·obtain⟨y,o,q,l,ps,J,rfl,_⟩:=h
  rfl
 ·obtain⟨y,o,q,l,ps,J,rfl,hy,hN,hpl,hP,hR,hf,hJ,hq⟩:=h
  refine⟨_,(zd (zq (zV ix_tup (clP (dvs:=[.int 4000]) hx DD_gone hr (.cons ⟨_,rfl⟩ .nil) rfl (za (yG (pv 0) rfl) (za (pv 1) zc))) zi (fun _ _=>rfl)))),?_⟩
  have s16:=ye
  rfl'
  obtain⟨dx,xs,h1,h2,h3⟩:=id hy
  exact⟨_,_,_,h1,TS.cl,TS.nr,_,rfl,_,l,ps,4000,J,rfl,⟨xs,h2,h3⟩,hN,hpl,hP,hR,.inl ⟨hf,by lia,fun p S H' s' hp hL hS=>⟨_,rfl,_,SqT.of hp,_,rfl,hq H' s'⟩⟩⟩
structure UJ(K:rC)(mg:Str->Option Value)(CT:Addr):Prop where
 xi:XI K CT
 ini:ac K (.ref CT) "__init__" = some (some (.builtin "ValueError.__init__"))
 g:mg "TooMany" = some (.ref CT)
theorem Zt{α β:Type}{l:List α}{f g:α->List β}(h:∀ x ∈ l,f x=g x):l.flatMap f=l.flatMap g:=by
 induction l with
 | nil=>rfl
 | cons a r ih=>rw[cS,cS,h a (by simp),ih fun x hx=>h x (by simp [hx])]
structure Gr(l:List Nat)(M L:List (List Nat))(P:List Nat->Nat->Prop):Prop where
 nd:M.Nodup
 nil:[] ∈ M
 cl:∀ u c,u ++ [c] ∈ M->P u c/\(u ++ [c]).tail ∈ M
 dn:∀ u c,P u c->u ∈ M/\c ∈ l/\((u ++ [c]).tail ∈ M->u ++ [c] ∈ M\/u ++ [c] ∈ L)
 lf:∀ w ∈ L,w ∉ M/\∃ u c,w=u ++ [c]/\P u c/\w.tail ∈ M
def J1(P:List Nat->Nat->Prop)(m:List Nat)(c:Nat):List Nat->Nat->Prop:=fun u d=>P u d\/(u=m/\d=c)
theorem Gr.skip{l:List Nat}{M L:List (List Nat)}{P:List Nat->Nat->Prop}{m:List Nat}{c:Nat}(h:Gr l M L P)(hm:m ∈ M)(hc:c ∈ l)(ht:(m ++ [c]).tail ∉ M):Gr l M L (J1 P m c):=by
 refine⟨h.nd,h.nil,fun u d hu=>⟨.inl (h.cl u d hu).1,(h.cl u d hu).2⟩,fun u d hp=>?_,fun w hw=>?_⟩
 ·rcases hp with hp | ⟨rfl,rfl⟩
  ·exact h.dn u d hp
  ·exact⟨hm,hc,fun t=>absurd t ht⟩
 ·obtain⟨a,u,d,e,p,t⟩:=h.lf w hw
  exact⟨a,u,d,e,.inl p,t⟩
theorem Gr.left{l:List Nat}{M L:List (List Nat)}{P:List Nat->Nat->Prop}{m:List Nat}{c:Nat}(h:Gr l M L P)(hm:m ∈ M)(hc:c ∈ l)(hp:¬ P m c)(ht:(m ++ [c]).tail ∈ M):Gr l M (L ++ [m ++ [c]]) (J1 P m c):=by
 have hn:m ++ [c] ∉ M:=fun e=>hp (h.cl m c e).1
 refine⟨h.nd,h.nil,fun u d hu=>⟨.inl (h.cl u d hu).1,(h.cl u d hu).2⟩,fun u d hq=>?_,fun w hw=>?_⟩
 ·rcases hq with hq | ⟨rfl,rfl⟩
  ·obtain⟨a,b,k⟩:=h.dn u d hq
   exact⟨a,b,fun t=>(k t).imp id (bf _)⟩
  ·exact⟨hm,hc,fun _=>.inr (by simp)⟩
 ·rcases rF.mp hw with hw | hw
  ·obtain⟨a,u,d,e,p,t⟩:=h.lf w hw
   exact⟨a,u,d,e,.inl p,t⟩
  ·rw[rE.mp hw]
   exact⟨hn,m,c,rfl,.inr ⟨rfl,rfl⟩,ht⟩
noncomputable def ch(M:List (List Nat))(l m:List Nat):List (List Nat):=(l.filter fun c=>decide (m ++ [c] ∈ M)).map fun c=>m ++ [c]
theorem KG{M M':List (List Nat)}{l m:List Nat}(h:∀ c ∈ l,(m ++ [c] ∈ M ↔ m ++ [c] ∈ M')):ch M l m=ch M' l m:=by
 unfold ch
 congr 1
 refine List.filter_congr fun c hc=>?_
 simp only[h c hc]
theorem Uq{M:List (List Nat)}{l l' m:List Nat}:ch M (l ++ l') m=ch M l m ++ ch M l' m:=by simp [ch]
theorem V0{M:List (List Nat)}{m:List Nat}{c:Nat}:ch M [c] m=if m ++ [c] ∈ M then [m ++ [c]] else []:=by
 unfold ch
 by_cases h:m ++ [c] ∈ M <;> simp [h]
theorem xL{α:Type}{l:List α}{i:Nat}{c:α}(h:l[i]? = some c):l.take (i+1)=l.take i ++ [c]:=by
 rw[List.take_add_one,h]
 rfl
structure Gw(l:List Nat)(M L:List (List Nat))(i:Nat)(m:List Nat)(j:Nat):Prop where
 at_:M[i]? = some m
 gr:Gr l M L fun u c=>(u ∈ M.take i/\c ∈ l)\/(u=m/\c ∈ l.take j)
 sq:M=[]::((M.take i).flatMap (ch M l) ++ ch M (l.take j) m)
 srt:∀(a b:Nat) (u v:List Nat),a<=b->M[a]? = some u->M[b]? = some v->u.length<=v.length
 mx:∀ w ∈ M,w.length<=m.length+1
 ln:∀(a:Nat) (w:List Nat),M[a]? = some w->w.length<=a
 ll:L.length<=i * l.length+j
theorem ZT{α:Type}{M:List α}{i:Nat}{m:α}(nd:M.Nodup)(h:M[i]? = some m):m ∉ M.take i:=fun e=>by
 obtain⟨k,hk⟩:=rO.mp e
 have hki:=(rD.mp hk).1
 rw[aO] at hki
 rw[fu] at hk
 split at hk
 ·have:=(List.getElem?_inj (i:=k) (j:=i) (by lia) nd).mp (by rw[hk,h])
  lia
 ·cases hk
theorem Gr.congr{l:List Nat}{M L:List (List Nat)}{P Q:List Nat->Nat->Prop}(h:Gr l M L P)(e:∀ u c,P u c ↔ Q u c):Gr l M L Q:=by
 have:P=Q:=by
  funext u c
  exact propext (e u c)
 exact this ▸ h
section
variable{l:List Nat}{M L:List (List Nat)}{i j c:Nat}{m:List Nat}
theorem Gw.np(h:Gw l M L i m j)(lnd:l.Nodup)(hc:l[j]? = some c):¬ ((m ∈ M.take i/\c ∈ l)\/(m=m/\c ∈ l.take j)):=fun e=>by
 rcases e with e | e
 ·exact ZT h.gr.nd h.at_ e.1
 ·exact ZT lnd hc e.2
theorem Gw.pl(h:Gw l M L i m j):∀ u d,((u ∈ M.take i/\d ∈ l)\/(u=m/\d ∈ l.take j))->u.length<=m.length:=fun u d e=>by
 rcases e with ⟨e,_⟩ | ⟨rfl,_⟩
 ·obtain⟨k,hk⟩:=rO.mp e
  have hki:=(rD.mp hk).1
  rw[aO] at hki
  rw[fu] at hk
  split at hk
  ·exact h.srt k i u m (by lia) hk h.at_
  ·cases hk
 ·exact ar _
theorem Gw.pe(hc:l[j]? = some c):∀ u d,J1 (fun u c=>(u ∈ M.take i/\c ∈ l)\/(u=m/\c ∈ l.take j)) m c u d ↔ ((u ∈ M.take i/\d ∈ l)\/(u=m/\d ∈ l.take (j+1))):=fun u d=>by
 unfold J1
 rw[xL hc,List.mem_append,dZ]
 constructor
 ·rintro ((h | ⟨h,k⟩) | ⟨h,k⟩)
  ·exact .inl h
  ·exact .inr ⟨h,.inl k⟩
  ·exact .inr ⟨h,.inr k⟩
 ·rintro (h | ⟨h,k | k⟩)
  ·exact .inl (.inl h)
  ·exact .inl (.inr ⟨h,k⟩)
  ·exact .inr ⟨h,k⟩
theorem Gw.skip(h:Gw l M L i m j)(lnd:l.Nodup)(hc:l[j]? = some c)(ht:(m ++ [c]).tail ∉ M):Gw l M L i m (j+1):=by
 have hn:m ++ [c] ∉ M:=fun e=>ht (h.gr.cl m c e).2
 refine⟨h.at_,(h.gr.skip (ae h.at_) (ae hc) ht).congr (Gw.pe hc),?_,h.srt,h.mx,h.ln,by have:=h.ll;lia⟩
 rw[xL hc,Uq,V0,if_neg hn,aX]
 exact h.sq
theorem Gw.left(h:Gw l M L i m j)(lnd:l.Nodup)(hc:l[j]? = some c)(ht:(m ++ [c]).tail ∈ M):Gw l M (L ++ [m ++ [c]]) i m (j+1):=by
 have hn:m ++ [c] ∉ M:=fun e=>h.np lnd hc (h.gr.cl m c e).1
 refine⟨h.at_,(h.gr.left (ae h.at_) (ae hc) (h.np lnd hc) ht).congr (Gw.pe hc),?_,h.srt,h.mx,h.ln,by have:=h.ll;simp;lia⟩
 rw[xL hc,Uq,V0,if_neg hn,aX]
 exact h.sq
structure Gb(l:List Nat)(M L:List (List Nat))(i:Nat):Prop where
 le:i<=M.length
 gr:Gr l M L fun u c=>u ∈ M.take i/\c ∈ l
 sq:M=[]::(M.take i).flatMap (ch M l)
 srt:∀(a b:Nat) (u v:List Nat),a<=b->M[a]? = some u->M[b]? = some v->u.length<=v.length
 mx:∀(m:List Nat),M[i]? = some m->∀ w ∈ M,w.length<=m.length+1
 ln:∀(a:Nat) (w:List Nat),M[a]? = some w->w.length<=a
 ll:L.length<=i * l.length
theorem Gb.go(h:Gb l M L i)(hm:M[i]? = some m):Gw l M L i m 0:=by
 refine⟨hm,h.gr.congr fun u c=>?_,?_,h.srt,h.mx m hm,h.ln,h.ll⟩
 ·simp
 ·have:ch M (l.take 0) m=[]:=by simp [ch]
  rw[this,aX]
  exact h.sq
theorem Gw.back(h:Gw l M L i m l.length):Gb l M L (i+1):=by
 have hi:=(rD.mp h.at_).1
 refine⟨hi,h.gr.congr fun u c=>?_,?_,h.srt,fun m' hm' w hw=>?_,h.ln,by rw[dg];exact h.ll⟩
 ·rw[be,xL h.at_,List.mem_append,dZ]
  constructor
  ·rintro (⟨a,b⟩ | ⟨a,b⟩)
   ·exact⟨.inl a,b⟩
   ·exact⟨.inr a,b⟩
  ·rintro⟨a | a,b⟩
   ·exact .inl ⟨a,b⟩
   ·exact .inr ⟨a,b⟩
 ·rw[xL h.at_,bF,dz]
  have:=h.sq
  rw[be] at this
  exact this
 ·have:=h.srt i (i+1) m m' (by lia) h.at_ hm'
  have:=h.mx w hw
  lia
end
structure Fam(l:List Nat)(M L:List (List Nat)):Prop where
 nil:[] ∈ M
 cl:∀ u c,u ++ [c] ∈ M->u ∈ M/\c ∈ l/\(u ++ [c]).tail ∈ M
 al:∀ u c,u ∈ M->c ∈ l->(u ++ [c]).tail ∈ M->u ++ [c] ∈ M\/u ++ [c] ∈ L
 lf:∀ w ∈ L,w ∉ M/\∃ u c,w=u ++ [c]/\u ∈ M/\c ∈ l
 sq:M=[]::M.flatMap (ch M l)
 ln:∀ w ∈ M,w.length<M.length
 nd:M.Nodup
section
variable{l:List Nat}{M L:List (List Nat)}
theorem Fam.tl(h:Fam l M L){w:List Nat}(hw:w ∈ M):w.tail ∈ M:=by
 rcases bZ w with rfl | ⟨u,c,e⟩
 ·exact h.nil
 ·rw[cb] at e
  subst e
  exact (h.cl u c hw).2.2
theorem Fam.dr(h:Fam l M L){w:List Nat}(hw:w ∈ M):∀ n,w.drop n ∈ M
 | 0=>hw
 | n+1=>by
  have:=h.tl (Fam.dr h hw n)
  rwa [List.tail_drop] at this
theorem Fam.inl(h:Fam l M L):∀(n:Nat) {w:List Nat},w.length=n->w ∈ M->∀ c ∈ w,c ∈ l
 | 0,w,hl,_,c,hc=>by rw[rP.mp hl] at hc;simp at hc
 | n+1,w,hl,hw,c,hc=>by
  rcases bZ w with rfl | ⟨u,d,e⟩
  ·simp at hl
  ·rw[cb] at e
   subst e
   obtain⟨h1,h2,_⟩:=h.cl u d hw
   rcases rF.mp hc with k | k
   ·exact Fam.inl h n (by simpa using hl) h1 c k
   ·rw[rE.mp k]
    exact h2
theorem Fam.key(h:Fam l M L):∀(n:Nat) {m:List Nat} {c:Nat},m.length=n->m ∈ M->c ∈ l->(∀ x ∈ L,∀ a b,m ++ [c]≠a ++ x ++ b)->m ++ [c] ∈ M
 | n,m,c,hl,hm,hc,hx=>by
  have fin:(m ++ [c]).tail ∈ M->m ++ [c] ∈ M:=fun ht=>by
   rcases h.al m c hm hc ht with k | k
   ·exact k
   ·exact absurd (by simp) (hx _ k [] [])
  cases m with
  | nil=>exact fin h.nil
  | cons d m' =>
   cases n with
   | zero=>simp at hl
   | succ n =>
    refine fin ?_
    have hm':m' ∈ M:=h.tl hm
    show m' ++ [c] ∈ M
    refine Fam.key h n (by simpa using hl) hm' hc fun x hL a b e=>hx x hL (d::a) b ?_
    show d::(m' ++ [c])=d::(a ++ x ++ b)
    rw[e]
theorem Fam.some(h:Fam l M L){a:Nat}(ha:a ∈ l):L≠[]:=fun e=>by
 subst e
 have all:∀ k,ak k a ∈ M:=fun k=>by
  induction k with
  | zero=>exact h.nil
  | succ k ih =>
   have e1:ak (k+1) a=ak k a ++ [a]:=eX
   have e2:(ak k a ++ [a]).tail=ak k a:=by rw[<- e1];simp [aU]
   rw[e1]
   rcases h.al _ a ih ha (by rw[e2];exact ih) with k | k
   ·exact k
   ·simp at k
 have:=h.ln _ (all M.length)
 simp at this
end
noncomputable def yF(S:List Nat->Bool)(l:List Nat)(ws:List (List Nat)):List (List Nat):=ws.flatMap fun w=>(l.filter fun c=>S (w ++ [c])).map fun c=>w ++ [c]
noncomputable def swF(S:List Nat->Bool)(l:List Nat)(n:Nat):Nat->List (List Nat)->List (List Nat)->Option (List (List Nat))
 | 0,_,_=>none
 | f+1,ws,lv=>if lv=[] then some ws else if n<(ws ++ lv).length then none else swF S l n f (ws ++ lv) (yF S l lv)
theorem Vf{M R:List (List Nat)}{l:List Nat}(h:R=R.flatMap (ch M l)):R=[]:=by
 have no:∀(n:Nat) (w:List Nat),w.length=n->w ∈ R->False:=fun n=>by
  induction n with
  | zero =>
   intro w hl hw
   rw[h] at hw
   obtain⟨u,_,hu⟩:=rQ.mp hw
   obtain⟨c,_,e⟩:=rG.mp hu
   rw[<- e] at hl
   simp at hl
  | succ n ih =>
   intro w hl hw
   rw[h] at hw
   obtain⟨u,hu',hu⟩:=rQ.mp hw
   obtain⟨c,_,e⟩:=rG.mp hu
   rw[<- e] at hl
   exact ih u (by simpa using hl) hu'
 cases R with
 | nil=>rfl
 | cons w r=>exact (no _ w rfl (by simp)).elim
theorem X5{S:List Nat->Bool}{l:List Nat}{M lv:List (List Nat)}(h:∀ m ∈ lv,∀ c ∈ l,S (m ++ [c])=decide (m ++ [c] ∈ M)):yF S l lv=lv.flatMap (ch M l):=by
 refine Zt fun m hm=>?_
 unfold ch
 congr 1
 exact List.filter_congr fun c hc=>h m hm c hc
theorem XJ{l:List Nat}{M L:List (List Nat)}{S:List Nat->Bool}(hF:Fam l M L)(hS:∀ m ∈ M,∀ c ∈ l,S (m ++ [c])=decide (m ++ [c] ∈ M))(n:Nat) :
  ∀(f:Nat) (ws lv R:List (List Nat)),M=ws ++ lv ++ R->ws ++ lv=[]::ws.flatMap (ch M l)->n+2<=f+ws.length->ws.length<=n->swF S l n f ws lv=if n<M.length then none else some M
 | 0,ws,lv,R,_,_,hf,hn=>by lia
 | f+1,ws,lv,R,h1,h2,hf,hn=>by
  unfold swF
  by_cases he:lv=[]
  ·subst he
   rw[if_pos rfl]
   rw[aX] at h1 h2
   have e:=hF.sq
   rw[h1,bF,<- bp] at e
   rw[show []::List.flatMap (ch (ws ++ R) l) ws=ws by rw[<- h1];exact h2.symm] at e
   have hR:R=[]:=Vf (M:=ws ++ R) (l:=l) (List.append_cancel_left e)
   rw[hR,aX] at h1
   rw[h1,if_neg (by lia)]
  ·rw[if_neg he]
   have hlen:1<=lv.length:=by
    cases lv with
    | nil=>exact absurd rfl he
    | cons a b=>simp
   by_cases hl:n<(ws ++ lv).length
   ·rw[if_pos hl,if_pos]
    rw[h1,am]
    lia
   ·rw[if_neg hl]
    have hsub:∀ m ∈ lv,m ∈ M:=fun m hm=>by rw[h1];simp [hm]
    rw[X5 (M:=M) fun m hm c hc=>hS m (hsub m hm) c hc]
    refine XJ hF hS n f (ws ++ lv) (lv.flatMap (ch M l)) (R.flatMap (ch M l)) ?_ ?_ (by rw[am];lia) (by lia)
    ·have e:=hF.sq
     conv at e=>rhs;rw[h1]
     rw[bF,bF,<- bp,<- bp] at e
     rw[show []::List.flatMap (ch (ws ++ lv ++ R) l) ws=ws ++ lv by rw[<- h1];exact h2.symm] at e
     rw[<- h1] at e
     exact e
    ·rw[bF,<- bp,<- h2]
theorem UD{l:List Nat}{M L:List (List Nat)}{S:List Nat->Bool}(hF:Fam l M L)(hS:∀ m ∈ M,∀ c ∈ l,S (m ++ [c])=decide (m ++ [c] ∈ M))(n:Nat):swF S l n (n+2) [] [[]]=if n<M.length then none else some M:=by
 refine XJ hF hS n (n+2) [] [[]] (M.flatMap (ch M l)) ?_ ?_ (by simp) (by simp)
 ·exact hF.sq
 ·simp
noncomputable def Sh(ps:List zB)(w:List Nat):Bool:=(yo w ps w.length).isEmpty
noncomputable abbrev tW(ws:List (List Nat)):List V:=ws.map fun w=>V.str (tx w)
noncomputable def jp(S:List Nat->Bool)(l w:List Nat):List (List Nat):=(l.filter fun c=>S (w ++ [c])).map fun c=>w ++ [c]
theorem Zb{S:List Nat->Bool}{l:List Nat}{ws:List (List Nat)}{i:Nat}{w:List Nat}(h:ws[i]? = some w):yF S l (ws.take (i+1))=yF S l (ws.take i) ++ jp S l w:=by
 unfold yF
 rw[yb h,bF,dz]
 rfl
theorem qN{S:List Nat->Bool}{l w:List Nat}{j c:Nat}(h:l[j]? = some c):jp S (l.take (j+1)) w=jp S (l.take j) w ++ if S (w ++ [c])=true then [w ++ [c]] else []:=by
 unfold jp
 rw[yb h,ft,aE]
 congr 1
 by_cases e:S (w ++ [c])=true
 ·simp [e]
 ·simp [e]
theorem j6(S:List Nat->Bool)(l w:List Nat):(jp S l w).length<=l.length:=by
 unfold jp
 rw[aa]
 exact eR _ _
theorem vQ(S:List Nat->Bool)(l:List Nat):∀ ws:List (List Nat),(yF S l ws).length<=ws.length * l.length
 | []=>by simp [yF]
 | w::ws=>by
  have:=vQ S l ws
  have:=j6 S l w
  have e:yF S l (w::ws)=jp S l w ++ yF S l ws:=rfl
  rw[e,am,aI,dg]
  lia
theorem WE{S:List Nat->Bool}{l:List Nat}{ws:List (List Nat)}{n:Nat}(h:∀ w ∈ ws,w.length<=n):∀ w ∈ yF S l ws,w.length<=n+1:=fun w hw=>by
 obtain⟨u,hu,hw⟩:=rQ.mp hw
 obtain⟨c,_,rfl⟩:=rG.mp hw
 have:=h u hu
 simp
 exact this
def WK(K:rC)(CO CR CW CH:Addr):Sp:=fun vs H Q _=>∃(y o q W:Addr) (ps:List zB) (k:Nat) (l:List Nat) (ns:List Int) (ws:List (List Nat)),vs=[.ref y,.ref W]/\SysAt K CH H y o q ps/\OrdAt CO CR CW H o k l ns/\l.length<=6/\NeL ps/\(∀ p ∈ ps,p.1.length<=1000)/\H W=some (.lst (tW ws))/\ws.length<=1000/\(∀ w ∈ ws,w.length<=100)/\∀(D:Addr) (H':Hp),Same H H'->H' D=some (.lst (tW (yF (Sh ps) l ws)))->Q (.ref D) H'
theorem gk:zm ["system","words","longer","word","letter"] ["system","words"] (ze z8):=by nofun
theorem wv{f CO CR CW CH:Addr}{fd:FuncData}(B:Bt mg)(TO:TOrd K mg CO CR CW)(TS:YN K mg CH)(F:Fun K "one_letter_longer" "one_letter_longer" z8 f fd)(M_system_is_shortest:DM P w K mg base CX0 4 CH "is_shortest" ["self","word"] (Zj K CH)):FnOk P w K mg base CX0 5 f fd ["system","words"] (WK K CO CR CW CH):=by
 refine F.ok gk (fun vs H Q E h=>?_) (fun cdv A outer s H vs Q E hr h=>?_)
 ·obtain⟨y,o,q,W,ps,k,l,ns,ws,rfl,_⟩:=h
  rfl
 ·obtain⟨y,o,q,W,ps,k,l,ns,ws,rfl,hy,ho,l6,hN,hP,hW,hwl,hw1,k'⟩:=h
  refine⟨_,(zg (zk (i:=2) gk.nd rfl (.inl rfl) (xu zc))
   (zg (zZ PassesOwn.never rfl (yW (pv 1)) (zp (i:=3) gk.nd rfl (.inl rfl))
    (zd (zZ PassesOwn.never rfl (vz (yG (yG (pv 0) rfl) rfl)) (zp (i:=4) gk.nd rfl (.inl rfl))
     (zd (zP (vb (me1 M_system_is_shortest TS.cl hr (pv 0) (za (zv zL (pv 3) (pv 4)) zc)) (fun _=>rfl))
      (zd (yS (yL aK bh bi z7 (pv 2) (za (zv zL (pv 3) (pv 4)) zc))))
      zu)))))
   (zd (zq (pv 2))))),?_⟩
  have s16:=ye
  refine zj (fun σ H'=>∃ D:Addr,H D=none/\Same H H'/\H' D=some (.lst [])/\σ=[some (.ref y),some (.ref W),some (.ref D),none,none]) ?_ ?_
  ·rfl'
   exact⟨by lia,fun D hD=>⟨D,hD,zf hD,zb,rfl⟩⟩
  rintro σ H1 ⟨D,hD,s1,hD1,rfl⟩
  refine zj (fun σ H'=>Same H H'/\H' D=some (.lst (tW (yF (Sh ps) l ws)))/\∃ v3 v4,σ=[some (.ref y),some (.ref W),some (.ref D),v3,v4]) ?_ ?_
  ·rfl'
   refine⟨⟨_,SqL.of (s1 _ _ hW)⟩,ForL.by (xs:=tW ws) (fun i σ H'=>Same H H'/\H' D=some (.lst (tW (yF (Sh ps) l (ws.take i))))/\∃ v3 v4,σ=[some (.ref y),some (.ref W),some (.ref D),v3,v4]) ⟨s1,hD1,_,_,rfl⟩ (fun i σ H' _ h=>SqL.of (h.1 _ _ hW)) ?_ ?_⟩
   ·rintro i x σ H' hx ⟨hs,hH,v3,v4,rfl⟩
    have hi:=(rD.mp hx).1
    rw[aa] at hi
    rw[au] at hx
    obtain⟨w,hw,rfl⟩:=rK.mp hx
    have hwl1:=hw1 w (ae hw)
    have hlen:=vQ (Sh ps) l (ws.take i)
    have hlen2:(ws.take i).length * l.length<=1000 * 6:=dk (by rw[aO];lia) l6
    obtain⟨dx,xs,h1,h2,h3⟩:=hy.same hs
    obtain⟨C,dy,fs,hf,ho1,_,hlk⟩:=(ho.same hs).fam
    have hC:Cls K C/\NoAttr K C "letters":=by
     rcases hf with rfl | rfl | rfl
     ·exact⟨TO.cO,TO.lO⟩
     ·exact⟨TO.cR,TO.lR⟩
     ·exact⟨TO.cW,TO.lW⟩
    rfl'
    refine⟨_,_,_,h1,TS.cl,TS.no,_,rfl,_,rfl,_,_,_,ho1,hC.1,hC.2,_,hlk,_,rfl,ForS.by (fun j σ H''=>Same H H''/\H'' D=some (.lst (tW (yF (Sh ps) l (ws.take i) ++ jp (Sh ps) (l.take j) w)))/\∃ v4,σ=[some (.ref y),some (.ref W),some (.ref D),some (.str (tx w)),v4]) ⟨hs,by rw[show jp (Sh ps) (l.take 0) w=[] from rfl,aX];exact hH,_,rfl⟩ ?_ ?_⟩
    ·rintro j c σ H'' hc ⟨hs2,hH2,v4,rfl⟩
     obtain⟨dx,xs,h1,h2,h3⟩:=hy.same hs2
     have hpl:=j6 (Sh ps) (l.take j) w
     rw[aO] at hpl
     rfl'
     refine⟨_,_,h1,rfl,by lia,y,o,q,ps,w ++ [c],rfl,hy.same hs2,by simp only[am,aI,db];lia,hN,hP,fun H3 s3=>⟨_,rfl,xx (fun hb=>⟨.inl ⟨_,SqL.of (s3 _ _ hH2)⟩,by lia,_,s3 _ _ hH2,by rw[aa,am];lia,zF (hs2.trans s3) hD,?_⟩) fun hb=>⟨hs2.trans s3,?_⟩⟩⟩
     ·have hb':Sh ps (w ++ [c])=true:=hb
      rw[zb,qN hc,if_pos hb',<- bN]
      simp [tW]
     ·have hb':¬ Sh ps (w ++ [c])=true:=hb
      rw[qN hc,if_neg hb',aX]
      exact s3 _ _ hH2
    ·rintro σ H'' ⟨hs2,hH2,v4,rfl⟩
     rw[be,<- Zb hw] at hH2
     exact⟨hs2,hH2,_,_,rfl⟩
   ·rintro σ H' ⟨hs,hH,v3,v4,rfl⟩
    rw[aa,be] at hH
    exact⟨hs,hH,_,_,rfl⟩
  rintro σ H2 ⟨s2,hD2,v3,v4,rfl⟩
  rfl'
  exact k' D H2 s2 hD2
def kL(K:rC)(CO CR CW CM CH:Addr):Sp:=fun vs H Q E=>∃(y o q:Addr) (ps:List zB) (k:Nat) (l:List Nat) (ns:List Int) (n:Nat),vs=[.ref y,.int (n:Nat)]/\SysAt K CH H y o q ps/\OrdAt CO CR CW H o k l ns/\l.length<=6/\NeL ps/\(∀ p ∈ ps,p.1.length<=1000)/\n<=50/\(swF (Sh ps) l n (n+2) [] [[]]=none->∀ H',Same H H'->E (.ref CM) none H')/\∀ ws,swF (Sh ps) l n (n+2) [] [[]]=some ws->∀(D:Addr) (H':Hp),Same H H'->H D=none->H' D=some (.lst (tW ws))->Q (.ref D) H'
theorem UT{H H':Hp}{a:Addr}(s:Same H H')(h:H' a=none):H a=none:=s.free h
def SwI(ps:List zB)(l:List Nat)(n:Nat)(R:Option (List (List Nat)))(H:Hp)(y:Addr)(f:Nat)(σ:L2.St)(H':Hp):Prop:=∃(D E':Addr) (ws lv:List (List Nat)),Same H H'/\H D=none/\H' D=some (.lst (tW ws))/\H' E'=some (.lst (tW lv))/\swF (Sh ps) l n f ws lv=R/\n+2<=f+ws.length/\ws.length<=n/\lv.length<=301/\(∀ w ∈ lv,w.length<=ws.length)/\σ=[some (.ref y),some (.int (n:Nat)),some (.ref D),some (.ref E')]
def SwE(n:Nat)(R:Option (List (List Nat)))(H:Hp)(y:Addr)(σ:L2.St)(H':Hp):Prop:=∃(D:Addr) (ws:List (List Nat)) (v3:Option V),Same H H'/\H D=none/\H' D=some (.lst (tW ws))/\R=some ws/\σ=[some (.ref y),some (.int (n:Nat)),some (.ref D),v3]
theorem gh:zm ["system","most","words","level"] ["system","most"] (ze zw):=by nofun
theorem vN{f CO CR CW CM CH:Addr}{fd:FuncData}{dV:Value}(B:Bt mg)(TM:UJ K mg CM)(F:FunD K "shortest_words" "shortest_words" zw dV f fd)(nG:Df P w K mg base CX0 5 "one_letter_longer" ["system","words"] [] (WK K CO CR CW CH)):FnOk P w K mg base (CXx P w) 6 f fd ["system","most"] (kL K CO CR CW CM CH):=by
 refine FunD.okX F gh (fun vs H Q E h=>?_) (fun cdv A outer s H vs Q E hr hx h=>?_)
 ·obtain⟨y,o,q,ps,k,l,ns,n,rfl,_⟩:=h
  rfl
 ·obtain⟨y,o,q,ps,k,l,ns,n,rfl,hy,ho,l6,hN,hP,hn,q1,q2⟩:=h
  refine⟨_,(zg (zk (i:=2) gh.nd rfl (.inl rfl) (xu zc))
   (zg (zk (i:=3) gh.nd rfl (.inl rfl) (xu (za yh zc)))
   (zg (uA PassesOwn.leaving (zE ZB (zo zW rfl B.len aB (za (pv 3) zc)) zi (zy _))
    (zn (zk (i:=2) gh.nd rfl (.inl rfl) (zv zL (pv 2) (pv 3)))
    (zn (zP (zE ZB (zo zW rfl B.len aB (za (pv 2) zc)) (pv 1) (zy _))
     (zd (z6 hx rfl TM.xi.toXC TM.ini rfl TM.g (za yh zc)))
     zu)
    (zd (zk (i:=3) gh.nd rfl (.inl rfl) (cl0 nG hr .nil rfl (za (pv 0) (za (pv 3) zc))))))))
   (zd (zq (pv 2)))))),?_⟩
  have s16:=ye
  generalize hR:swF (Sh ps) l n (n+2) [] [[]]=R at q1 q2
  refine zj (fun σ H'=>∃ D:Addr,H D=none/\Same H H'/\H' D=some (.lst (tW []))/\σ=[some (.ref y),some (.int (n:Nat)),some (.ref D),none]) ?_ ?_
  ·rfl'
   exact⟨by lia,fun D hD=>⟨D,hD,zf hD,zb,rfl⟩⟩
  rintro σ H1 ⟨D,hD,s1,hD1,rfl⟩
  refine zj (SwI ps l n R H y (n+2)) ?_ ?_
  ·rfl'
   exact⟨by lia,fun E' hE=>⟨D,E',[],[[]],s1.trans (zf hE),hD,zf hE _ _ hD1,zb,hR,by simp,by simp,by simp,fun w hw=>by rw[rE.mp hw];exact ar _,rfl⟩⟩
  rintro σ H2 hI2
  refine zj (SwE n R H y) ?_ ?_
  ·unfold kC
   refine⟨SwI ps l n R H y,⟨n+2,hI2⟩,?_⟩
   rintro f σ H' ⟨D,E',ws,lv,hs,hD,hDw,hEl,hF,hf,hwn,hl3,hlw,rfl⟩
   obtain⟨f,rfl⟩:∃ f',f=f'+1:=⟨f - 1,by lia⟩
   unfold swF at hF
   rfl'
   refine⟨_,.inl ⟨_,SqL.of hEl,rfl⟩,xx (fun h0=>?_) fun h0=>?_⟩
   ·rw[aa] at h0
    have hne:lv≠[]:=fun e=>by rw[e] at h0;simp at h0
    rw[if_neg hne] at hF
    refine⟨SwI ps l n R H y f,fun σ' H' h=>⟨f,by lia,h⟩,_,hDw,_,hEl,by rw[aa,aa];lia,fun p hp=>⟨_,.inl ⟨_,SqL.of zb,rfl⟩,?_⟩⟩
    have ew:tW ws ++ tW lv=tW (ws ++ lv):=by simp [tW]
    have sp:=zf (o:=.lst (tW (ws ++ lv))) hp
    rw[ew,aa]
    refine xx (fun h1=>⟨by lia,q1 ?_ _ (hs.trans sp)⟩) fun h1=>?_
    ·rw[if_pos (by lia)] at hF
     exact hF.symm
    ·rw[if_neg (by lia)] at hF
     have hl6:=vQ (Sh ps) l lv
     have hl50:lv.length<=n:=by rw[am] at h1;lia
     have hl7:lv.length * l.length<=50 * 6:=dk (by lia) l6
     refine⟨y,o,q,E',ps,k,l,ns,lv,rfl,(hy.same hs).same sp,(ho.same hs).same sp,l6,hN,hP,sp _ _ hEl,by lia,fun w hw=>by have:=hlw w hw;lia,fun E2 H3 s3 hE2=>⟨p,E2,ws ++ lv,yF (Sh ps) l lv,(hs.trans sp).trans s3,UT hs hp,s3 _ _ zb,hE2,hF,by rw[am];lia,by lia,by lia,fun w hw=>?_,rfl⟩⟩
     have:=WE hlw w hw
     rw[am]
     lia
   ·rw[aa] at h0
    have hne:lv=[]:=rP.mp (by lia)
    rw[if_pos hne] at hF
    exact⟨D,ws,_,hs,hD,hDw,hF.symm,rfl⟩
  rintro σ H3 ⟨D,ws,v3,s3,hD3,hW3,hRw,rfl⟩
  rfl'
  exact q2 ws hRw D H3 s3 hD3 hW3
def ZA(K:rC):List V->Hp->VK->Prop:=fun xs H Q=>∃ p ys,xs=[.ref p]/\(SqL K H p ys\/SqT K H p ys)/\∀ l,H l=none->Q (.ref l) (upd H l (.lst ys))
structure TabAt(H:Hp)(t:Addr)(rs:List Addr)(tab:List (List Int)):Prop where
 top:H t=some (.lst (rs.map V.ref))
 len:rs.length=tab.length
 row:∀(i:Nat) (r:Addr) (x:List Int),rs[i]? = some r->tab[i]? = some x->H r=some (.lst (x.map V.int))
theorem TabAt.same{H H':Hp}{t:Addr}{rs:List Addr}{tab:List (List Int)}(h:TabAt H t rs tab)(e:Same H H'):TabAt H' t rs tab:=⟨e _ _ h.top,h.len,fun i r x h1 h2=>e _ _ (h.row i r x h1 h2)⟩
noncomputable abbrev Yj(x:List Int):L3.D:=.lst (x.map L3.D.int)
theorem Xl{H:Hp}:∀{rs:List Addr} {tab:List (List Int)},rs.length=tab.length->(∀(i:Nat) (r:Addr) (x:List Int),rs[i]? = some r->tab[i]? = some x->H r=some (.lst (x.map V.int)))->Iss K H (tab.map Yj) (rs.map V.ref)
 | [],[],_,_=>by simp only[ba,Iss]
 | r::rs,x::tab,hl,h=>by
  simp only[ax,Iss]
  refine⟨_,_,rfl,?_,Xl (by simpa using hl) fun i r' x' h1 h2=>h (i+1) r' x' h1 h2⟩
  simp only[Yj,Is]
  exact⟨r,_,rfl,SqL.of (h 0 r x rfl rfl),Iss.ints x⟩
theorem TabAt.is{H:Hp}{t:Addr}{rs:List Addr}{tab:List (List Int)}(h:TabAt H t rs tab):Is K H (.lst (tab.map Yj)) (.ref t):=by
 simp only[Is]
 exact⟨t,_,rfl,SqL.of h.top,Xl h.len h.row⟩
theorem YW(tab:List (List Int)):va (tab.map Yj)<=1:=X8 fun d h=>by
 obtain⟨r,_,rfl⟩:=rG.mp h
 simp only[Yj,dpD,jD]
 lia
structure zY(l:List Nat)(tab:List (List Int)):Prop where
 lo:1<=tab.length
 hi:tab.length<=8
 wd:∀ x ∈ tab,x.length=l.length
 rm:∀ x ∈ tab,∀ n ∈ x,0<=n/\n<(tab.length:Int)
theorem TabAt.get{H:Hp}{t:Addr}{rs:List Addr}{tab:List (List Int)}(h:TabAt H t rs tab){i:Int}(h0:0<=i)(h1:i<(tab.length:Int)):∃ r x,atI (rs.map V.ref) i=some (.ref r)/\tab[i.toNat]? = some x/\H r=some (.lst (x.map V.int)):=by
 have hl:=h.len
 obtain⟨v,e1,e2⟩:=vg (xs:=rs.map V.ref) h0 (by rw[aa];lia)
 rw[au] at e2
 obtain⟨r,hr,rfl⟩:=rK.mp e2
 have hx:tab[i.toNat]? = some (tab[i.toNat]'(by lia)):=ag (by lia)
 exact⟨r,_,e1,hx,h.row _ _ _ hr hx⟩
theorem Yu{H:Hp}{t:Addr}{rs:List Addr}{tab:List (List Int)}{σ:L2.St}{Q:VK}{D:Addr}{g:TG}(hg:g=yN 0)(h:TabAt H t rs tab)(hb:tab.length<=1000)(hD:H D=none)(q:∀(rs':List Addr) (H':Hp),Same H H'->TabAt H' D rs' tab->(∀ r ∈ D::rs',H r=none)->D ∉ rs'->Q (.ref D) H') :
  CompL K t g ud (tCB (ZA K) (zN (ya 0) wQ)) 1 [] σ H Q D:=by
 have s16:=ye
 have hl:=h.len
 subst hg
 refine CompL.by (xs:=rs.map V.ref) (fun i acc H'=>∃ rs':List Addr,acc=rs'.map V.ref/\rs'.length=i/\Same H H'/\H' D=some (.lst acc)/\(∀ r ∈ rs',H r=none/\r≠D)/\∀(j:Nat) (r:Addr) (x:List Int),rs'[j]? = some r->tab[j]? = some x->H' r=some (.lst (x.map V.int))) ⟨[],rfl,rfl,zf hD,zb,fun r h=>(nomatch h),fun j r x h=>by simp at h⟩ (fun i acc H' _ h'=>by obtain⟨_,_,_,hs,_⟩:=h';exact SqL.of (hs _ _ h.top)) ?_ ?_
 ·rintro i v acc H' hv ⟨rs',rfl,hi,hs,hH,hf,hr⟩
  rw[au] at hv
  obtain⟨r,hr0,rfl⟩:=rK.mp hv
  have hil:=(rD.mp hr0).1
  have hx:tab[i]? = some (tab[i]'(by lia)):=ag (by lia)
  generalize tab[i]'(by lia)=x at hx
  have hrow:=hs _ _ (h.row i r x hr0 hx)
  simp only[ud]
  rfl'
  simp only[ZA]
  rfl'
  refine⟨qk,_,.inl (SqL.of hrow),fun p hp=>⟨zf hp _ _ hH,by rw[aa];lia,CNx.mk (by rw[aa];lia) ⟨rs' ++ [p],by rw[aE];rfl,by rw[am,hi];rfl,zF (hs.trans (zf hp)) hD,zb,?_,?_⟩⟩⟩
  ·intro r' hr'
   rcases rF.mp hr' with h' | h'
   ·exact hf r' h'
   ·rw[rE.mp h']
    refine⟨?_,fun e=>by rw[e] at hp;rw[hp] at hH;cases hH⟩
    cases e:H p with
    | none=>rfl
    | some o=>have:=hs _ _ e;rw[hp] at this;cases this
  ·intro j r' x' h1 h2
   by_cases hj:j<i
   ·rw[bc (by lia)] at h1
    have hm:=hf r' (ae h1)
    rw[zh hm.2]
    exact zf hp _ _ (hr j r' x' h1 h2)
   ·rw[bo (by lia)] at h1
    have hj0:j=i:=by
     have:=(rD.mp h1).1
     simp at this
     lia
    subst hj0
    rw[hi,fv] at h1
    cases h1
    rw[hx] at h2
    cases h2
    rw[zh (fun e=>by rw[e] at hp;rw[hp] at hH;cases hH)]
    exact zb
 ·rintro acc H' ⟨rs',rfl,hi,hs,hH,hf,hr⟩
  rw[aa] at hi
  exact q rs' H' hs ⟨hH,by lia,hr⟩ (fun r hr'=>by
   rcases rH.mp hr' with rfl | h'
   ·exact hD
   ·exact (hf r h').1) fun h'=>(hf D h').2 rfl
theorem Y1{H:Hp}{t:Addr}{rs:List Addr}{tab:List (List Int)}{σ:L2.St}{Q:VK}{D:Addr}{g:TG}(hg:g=yN 0)(h:TabAt H t rs tab)(hb:tab.length<=1000)(hD:H D=none)(q:∀(rs':List Addr) (H':Hp),Same H H'->TabAt H' D rs' tab->(∀ r ∈ D::rs',H r=none)->Q (.ref D) H') :
  CompL K t g ud (tCB (ZA K) (zN (ya 0) wQ)) 1 [] σ H Q D :=
 Yu hg h hb hD fun rs' H' s' t' f' _=>q rs' H' s' t' f'
structure Jo(K:rC)(mg:Str->Option Value)(C:Addr):Prop where
 xi:XI K C
 ini:ac K (.ref C) "__init__" = some (some (.builtin "ValueError.__init__"))
 g:mg "NoWorld" = some (.ref C)
 most:∃ t,mg "MOST_ROOMS" = some (.int 8 t)
def wP:Sp:=fun vs H Q _=>∃(l:List Nat) (a:Addr) (rs:List Addr) (tab:List (List Int)),vs=[.str (tx l),.ref a]/\l.length<=6/\TabAt H a rs tab/\zY l tab/\∀(t:Addr) (rs':List Addr) (H':Hp),Same H H'->TabAt H' t rs' tab->(∀ r ∈ t::rs',H r=none)->Q (.ref t) H'
theorem ni:zm ["letters","table","row","room"] ["letters","table"] (ze wu):=by nofun
theorem Zh{f CQ:Addr}{fd:FuncData}(B:Bt mg)(TNw:Jo K mg CQ)(F:Fun K "table_of" "table_of" wu f fd) : FnOk P w K mg base (CXx P w) 1 f fd ["letters","table"] wP:=by
 obtain⟨t6,g6⟩:=TNw.most
 refine Fun.okX F ni (fun vs H Q E h=>?_) (fun cdv A outer s H vs Q E hr hx h=>?_)
 ·obtain⟨l,a,rs,tab,rfl,_⟩:=h
  rfl
 ·obtain⟨l,a,rs,tab,rfl,hl6,hT,hG,q⟩:=h
  refine⟨_,(zg (zP (yA (vF xC xC zi (zo zW rfl B.len aB (za (pv 1) zc)) (vX (v:=.int 8) rfl g6 ⟨t6,rfl⟩)))
    (zd (z6 hx rfl TNw.xi.toXC TNw.ini rfl TNw.g (za yh zc)))
    zu)
   (zg (zZ PassesOwn.leaving rfl (yW (pv 1)) (zp (i:=2) ni.nd rfl (.inl rfl))
    (zn (zP (zE Yk (zo zW rfl B.len aB (za (pv 2) zc)) (zo zW rfl B.len aB (za (pv 0) zc)) (zy _))
     (zd (z6 hx rfl TNw.xi.toXC TNw.ini rfl TNw.g (za yh zc)))
     zu)
    (zd (zZ PassesOwn.leaving rfl (yW (pv 2)) (zp (i:=3) ni.nd rfl (.inl rfl))
     (zd (zP (yA (vF xC WN zi (pv 3) (zo zW rfl B.len aB (za (pv 1) zc))))
      (zd (z6 hx rfl TNw.xi.toXC TNw.ini rfl TNw.g (za yh zc)))
      zu))))))
   (zd (zq (xU (own:=["row"]) (caps:=[]) (ix:=[]) (tt:=ud) (te:=(tCB (ZA K) (zN (ya 0) wQ))) rfl (yJ (sc:=ze wu) rfl (by symm) (by symm) (by symm) rfl (by symm) (by symm) rfl) (yW (pv 1)) (fun _ _ _ _ _ _=>zp (i:=0) (show List.Nodup [_] by decide) rfl (.inl rfl)) (fun _ _ _ _ _ _=>xl) (fun _ _ _ _ _ _=>(ve xO rfl B.list PySem.Pv.boot_list (za (pv 0) zc)))))))),?_⟩
  have s16:=ye
  have hlen:=hT.len
  have hlo:=hG.lo
  have hhi:=hG.hi
  refine zj (fun σ H'=>H'=H/\σ=[some (.str (tx l)),some (.ref a),none,none]) ?_ ?_
  ·repeat (first | rfl' | simp only[wY,zI,yf,vB,vI,zH])
   exact⟨_,.inl ⟨_,SqL.of hT.top,rfl⟩,xx (fun _=>xx (fun h=>absurd (by rw[aa];lia) h) fun _=>trivial) fun h=>absurd (by rw[aa];lia) h⟩
  rintro σ H1 ⟨rfl,rfl⟩
  refine zj (fun σ H'=>H'=H1/\∃ v2 v3,σ=[some (.str (tx l)),some (.ref a),v2,v3]) ?_ ?_
  ·repeat (first | rfl' | simp only[wY,zI,yf,vB,vI,zH])
   refine⟨⟨_,SqL.of hT.top⟩,ForL.by (xs:=rs.map V.ref) (fun i σ H'=>H'=H1/\∃ v2 v3,σ=[some (.str (tx l)),some (.ref a),v2,v3]) ⟨rfl,none,none,rfl⟩ (fun i σ H' _ h=>by rw[h.1];exact SqL.of hT.top) ?_ fun σ H' h=>h⟩
   rintro i y σ H' hy ⟨rfl,v2,v3,rfl⟩
   rw[au] at hy
   obtain⟨r,hr,rfl⟩:=rK.mp hy
   have hil:=(rD.mp hr).1
   have hx:tab[i]? = some (tab[i]'(by lia)):=ag (by lia)
   generalize tab[i]'(by lia)=x at hx
   have hrow:=hT.row i r x hr hx
   have hmx:=ae hx
   have hw:=hG.wd x hmx
   repeat (first | rfl' | simp only[wY,zI,yf,vB,vI,zH])
   refine⟨_,.inl ⟨_,SqL.of hrow,rfl⟩,by lia,xx (fun h=>absurd (by rw[aa];lia) h) fun _=>⟨⟨_,SqL.of hrow⟩,ForL.by (xs:=x.map V.int) (fun i σ H''=>H''=H'/\∃ v2 v3,σ=[some (.str (tx l)),some (.ref a),v2,v3]) ⟨rfl,_,_,rfl⟩ (fun i σ H'' _ h=>by rw[h.1];exact SqL.of hrow) ?_ fun σ H' h=>h⟩⟩
   rintro j y σ H'' hy ⟨rfl,v2,v3,rfl⟩
   rw[au] at hy
   obtain⟨n,hn,rfl⟩:=rK.mp hy
   obtain⟨n1,n2⟩:=hG.rm x hmx n (ae hn)
   repeat (first | rfl' | simp only[wY,zI,yf,vB,vI,zH])
   exact xx (fun _=>⟨_,.inl ⟨_,SqL.of hT.top,rfl⟩,xx (fun h=>absurd (by rw[aa];lia) h) fun _=>trivial⟩) fun h=>absurd n1 h
  rintro σ H2 ⟨rfl,v2,v3,rfl⟩
  repeat (first | rfl' | simp only[wY,zI,yf,vB,vI,zH])
  exact⟨⟨_,SqL.of hT.top⟩,fun D hD=>Y1 rfl hT (by lia) hD fun rs' H' s' t' f'=>q D rs' H' s' t' f'⟩
structure Xp(K:rC)(mg:Str->Option Value)(CV:Addr):Prop where
 cl:Cls K CV
 g:mg "World" = some (.ref CV)
 nl:NoAttr K CV "letters"
 nt:NoAttr K CV "table"
def WorAt(CV:Addr)(H:Hp)(o:Addr)(l:List Nat)(t:Addr)(rs:List Addr)(tab:List (List Int)):Prop:=∃ dx,H o=some (.ins CV dx [("letters",.str (tx l)),("table",.ref t)])/\TabAt H t rs tab
theorem WorAt.same{CV:Addr}{H H':Hp}{o t:Addr}{l:List Nat}{rs:List Addr}{tab:List (List Int)}(h:WorAt CV H o l t rs tab)(e:Same H H'):WorAt CV H' o l t rs tab:=by
 obtain⟨dx,h1,h2⟩:=h
 exact⟨dx,e _ _ h1,h2.same e⟩
theorem TabAt.updI{H:Hp}{p C dx t:Addr}{fs gs:List (Str × V)}{rs:List Addr}{tab:List (List Int)}(hp:H p=some (.ins C dx fs))(h:TabAt H t rs tab):TabAt (upd H p (.ins C dx gs)) t rs tab:=by
 refine⟨?_,h.len,fun i r x h1 h2=>?_⟩
 ·rw[zh (fun e=>by have:=h.top;rw[e,hp] at this;cases this)]
  exact h.top
 ·have h3:=h.row i r x h1 h2
  rw[zh (fun e=>by rw[e,hp] at h3;cases h3)]
  exact h3
def vo(CV:Addr):Sp:=fun vs H Q _=>∃(x dx a:Addr) (l:List Nat) (rs:List Addr) (tab:List (List Int)),vs=[.ref x,.str (tx l),.ref a]/\vm l=true/\TabAt H a rs tab/\zY l tab/\H x=some (.ins CV dx []) /\
 ∀(t:Addr) (rs':List Addr) (H':Hp),(∀ b o,b≠x->H b=some o->H' b=some o)->(∀ r ∈ t::rs',H r=none)->WorAt CV H' x l t rs' tab->Q .non H'
theorem jk:zm ["self","letters","table"] ["self","letters","table"] (ze xP):=by nofun
theorem qS{f C CV:Addr}{fd:FuncData}(B:Bt mg)(CLw:Xp K mg CV)(F:Fun K "__init__" "World.__init__" xP f fd)(mz:Df P w K mg base (CXx P w) 2 "letters_of" ["text"] [] (yC C))(pQ:Df P w K mg base (CXx P w) 1 "table_of" ["letters","table"] [] wP):FnOk P w K mg base (CXx P w) 4 f fd ["self","letters","table"] (vo CV):=by
 refine Fun.okX F jk (fun vs H Q E h=>?_) (fun cdv A outer s H vs Q E hr hx h=>?_)
 ·obtain⟨x,dx,a,l,rs,tab,rfl,_⟩:=h
  rfl
 ·obtain⟨x,dx,a,l,rs,tab,rfl,hg,hT,hG,hX,q⟩:=h
  refine⟨_,(zg (qP (pv 0) (clP hx mz hr .nil rfl (za (pv 1) zc)) rfl)
   (zd (qP (pv 0) (clP hx pQ hr .nil rfl (za (pv 1) (za (pv 2) zc))) rfl))),?_⟩
  have s16:=ye
  have hg':=of_decide_eq_true hg
  refine zj (fun σ H'=>H'=upd H x (.ins CV dx [("letters",.str (tx l))])/\σ=[some (.ref x),some (.str (tx l)),some (.ref a)]) ?_ ?_
  ·repeat (first | rfl' | simp only[wY,zI,yf,vB,vI,zH])
   exact⟨l,rfl,by lia,fun _=>⟨_,_,_,hX,CLw.cl,CLw.nl,by decide,rfl⟩,fun e=>by rw[hg] at e;cases e⟩
  rintro σ H1 ⟨rfl,rfl⟩
  repeat (first | rfl' | simp only[wY,zI,yf,vB,vI,zH])
  refine⟨l,a,rs,tab,rfl,by lia,hT.updI hX,hG,fun t rs' H' s' t' f'=>?_⟩
  have hX2:=s' _ _ (zb (H:=H) (a:=x) (o:=.ins CV dx [("letters",.str (tx l))]))
  have fr:∀ r ∈ t::rs',H r=none/\r≠x:=fun r hr'=>by
   have h1:=f' r hr'
   have h2:r≠x:=fun e=>by rw[e,zb] at h1;cases h1
   rw[zh h2] at h1
   exact⟨h1,h2⟩
  exact⟨_,_,_,hX2,CLw.cl,CLw.nt,by show 1<1000;decide,q t rs' _ (fun b o hb e=>by rw[zh hb];exact s' _ _ (by rw[zh hb];exact e)) (fun r hr'=>(fr r hr').1) ⟨dx,zb,t'.updI hX2⟩⟩
theorem Xj{CV a:Addr}{l:List Nat}{rs:List Addr}{tab:List (List Int)}{H:Hp}{R:Addr->Hp->Prop}{E:XK}(hg:vm l=true)(hT:TabAt H a rs tab)(hG:zY l tab)(q:∀(x t:Addr) (rs':List Addr) (H':Hp),Same H H'->H x=none->(∀ r ∈ t::rs',H r=none)->WorAt CV H' x l t rs' tab->R x H') :
  ∀ x dx,H x=none->H dx=none->dx≠x->vo CV [.ref x,.str (tx l),.ref a] (upd (upd H dx (.own x)) x (.ins CV dx [])) (fun v H2=>v=.non/\R x H2) E:=by
 intro x dx hx hdx hne
 have sd:=zf (o:=.own x) hdx
 have hx1:(upd H dx (.own x)) x=none:=by rw[zh hne.symm];exact hx
 have sx:=sd.trans (zf (o:=.ins CV dx []) hx1)
 refine⟨x,dx,a,l,rs,tab,rfl,hg,hT.same sx,hG,zb,fun t rs' H' k f hc=>⟨rfl,q x t rs' H' (fun b o e=>k b o (zr e hx) (sx b o e)) hx (fun r hr=>?_) hc⟩⟩
 cases e:H r with
 | none=>rfl
 | some o=>have:=sx _ _ e;rw[f r hr] at this;cases this
def vj(CV:Addr):Sp:=fun vs H Q _=>∃(o t:Addr) (l:List Nat) (rs:List Addr) (tab:List (List Int)),vs=[.ref o]/\WorAt CV H o l t rs tab/\Q (.int (tab.length:Nat)) H
theorem qz:zm ["self"] ["self"] (ze xj):=by nofun
theorem qo{f CV:Addr}{fd:FuncData}(B:Bt mg)(CLw:Xp K mg CV)(F:Fun K "rooms" "World.rooms" xj f fd) : FnOk P w K mg base CX0 1 f fd ["self"] (vj CV):=by
 refine F.ok qz (fun vs H Q E h=>?_) (fun cdv A outer s H vs Q E hr h=>?_)
 ·obtain⟨o,t,l,rs,tab,rfl,_⟩:=h
  rfl
 ·obtain⟨o,t,l,rs,tab,rfl,hW,q⟩:=h
  refine⟨_,(zd (zq (zo zW rfl B.len aB (za (yG (pv 0) rfl) zc)))),?_⟩
  have s16:=ye
  rfl'
  obtain⟨dx,ho,hT⟩:=hW
  exact⟨_,_,_,ho,CLw.cl,CLw.nt,_,rfl,_,.inl ⟨_,SqL.of hT.top,rfl⟩,by rw[aa,hT.len];exact q⟩
theorem jZ{CV o t:Addr}{l:List Nat}{rs:List Addr}{tab:List (List Int)}{H:Hp}{Q:VK}{E:XK}(h:WorAt CV H o l t rs tab)(q:Q (.int (tab.length:Nat)) H):vj CV [.ref o] H Q E:=⟨o,t,l,rs,tab,rfl,h,q⟩
noncomputable def ww(l:List Nat)(tab:List (List Int))(r:Int)(c:Nat):Int:=(tab.getD r.toNat []).getD (l.idxOf c) 0
noncomputable def wE(l:List Nat)(tab:List (List Int))(r:Int)(w:List Nat):Int:=w.foldl (ww l tab) r
theorem jz{l:List Nat}{tab:List (List Int)}(hG:zY l tab){r:Int}(h0:0<=r)(h1:r<(tab.length:Int)){c:Nat}(hc:c ∈ l):0<=ww l tab r c/\ww l tab r c<(tab.length:Int):=by
 have hx:tab[r.toNat]? = some (tab[r.toNat]'(by lia)):=ag (by lia)
 generalize tab[r.toNat]'(by lia)=x at hx
 have hm:=ae hx
 have hi:=aC hc
 rw[<- hG.wd x hm] at hi
 have hn:x[l.idxOf c]? = some x[l.idxOf c]:=ag hi
 unfold ww
 rw[aj (l:=tab),hx,dC,aj,hn,dC]
 exact hG.rm x hm _ (ae hn)
theorem uF{l:List Nat}{tab:List (List Int)}(hG:zY l tab):∀{w:List Nat} {r:Int},0<=r->r<(tab.length:Int)->(∀ c ∈ w,c ∈ l)->0<=wE l tab r w/\wE l tab r w<(tab.length:Int)
 | [],r,h0,h1,_=>⟨h0,h1⟩
 | c::w,r,h0,h1,hw=>by
  obtain⟨a,b⟩:=jz hG h0 h1 (hw c (by simp))
  exact uF hG (w:=w) a b fun x hx=>hw x (by simp [hx])
theorem kd{l:List Nat}{tab:List (List Int)}{r:Int}{w:List Nat}{i c:Nat}(h:w[i]? = some c):wE l tab r (w.take (i+1))=ww l tab (wE l tab r (w.take i)) c:=by
 unfold wE
 rw[yb h,List.foldl_append]
 rfl
theorem V7{l:List Nat}{tab:List (List Int)}(hG:zY l tab){r:Int}{x:List Int}(hx:tab[r.toNat]? = some x){c:Nat}(hc:c ∈ l):atI (x.map V.int) ((l.idxOf c:Nat):Int)=some (.int (ww l tab r c)):=by
 have hm:=ae hx
 have hi:=aC hc
 rw[<- hG.wd x hm] at hi
 have hn:x[l.idxOf c]? = some x[l.idxOf c]:=ag hi
 refine ji ?_
 unfold ww
 rw[au,hn,aj (l:=tab),hx,dC,aj,hn]
 rfl
def uQ(CV:Addr):Sp:=fun vs H Q _=>∃(o t:Addr) (l:List Nat) (rs:List Addr) (tab:List (List Int)) (r:Int) (w:List Nat),vs=[.ref o,.int r,.str (tx w)]/\WorAt CV H o l t rs tab/\zY l tab/\0<=r/\r<(tab.length:Int)/\(∀ c ∈ w,c ∈ l)/\Q (.int (wE l tab r w)) H
theorem mB:zm ["self","room","word","letter"] ["self","room","word"] (ze wX):=by nofun
theorem kD{f CV:Addr}{fd:FuncData}(B:Bt mg)(CLw:Xp K mg CV)(F:Fun K "led" "World.led" wX f fd) : FnOk P w K mg base CX0 1 f fd ["self","room","word"] (uQ CV):=by
 refine F.ok mB (fun vs H Q E h=>?_) (fun cdv A outer s H vs Q E hr h=>?_)
 ·obtain⟨o,t,l,rs,tab,r,w,rfl,_⟩:=h
  rfl
 ·obtain⟨o,t,l,rs,tab,r,w,rfl,hW,hG,h0,h1,hw,q⟩:=h
  refine⟨_,(zn (zZ PassesOwn.never rfl (vz (pv 2)) (zp (i:=3) mB.nd rfl (.inl rfl))
    (zd (zk (i:=1) mB.nd rfl (.inl rfl) (zV ix_list (zV ix_list (yG (pv 0) rfl) (pv 1) (fun _ _=>rfl)) (yL bx eO eP Xu (yG (pv 0) rfl) (za (pv 3) zc)) (fun _ _=>rfl)))))
   (zd (zq (pv 1)))),?_⟩
  have s16:=ye
  rfl'
  obtain⟨dx,ho,hT⟩:=hW
  refine ForS.by (fun i σ H'=>H'=H/\∃ v3,σ=[some (.ref o),some (.int (wE l tab r (w.take i))),some (.str (tx w)),v3]) ⟨rfl,none,rfl⟩ ?_ ?_
  ·rintro i c σ H' hc ⟨rfl,v3,rfl⟩
   have hcl:=hw c (ae hc)
   obtain⟨a,b⟩:=uF hG (w:=w.take i) h0 h1 fun x hx=>hw x (cj hx)
   obtain⟨r',x,e1,e2,e3⟩:=hT.get a b
   repeat (first | rfl' | simp only[wY,zI,yf,vB,vI,zH])
   exact⟨_,_,_,ho,CLw.cl,CLw.nt,_,rfl,_,rfl,_,SqL.of hT.top,_,e1,_,_,_,ho,CLw.cl,CLw.nl,_,rfl,trivial,_,rfl,_,Yc hcl,_,rfl,_,SqL.of e3,by rw[kd hc];exact V7 hG e2 hcl⟩
  ·rintro σ H' ⟨rfl,v3,rfl⟩
   rfl'
   rw[be]
   exact q
theorem jl{CV o t:Addr}{l:List Nat}{rs:List Addr}{tab:List (List Int)}{r:Int}{w:List Nat}{H:Hp}{Q:VK}{E:XK}(h:WorAt CV H o l t rs tab)(hG:zY l tab)(h0:0<=r)(h1:r<(tab.length:Int))(hw:∀ c ∈ w,c ∈ l)(q:Q (.int (wE l tab r w)) H):uQ CV [.ref o,.int r,.str (tx w)] H Q E:=⟨o,t,l,rs,tab,r,w,rfl,h,hG,h0,h1,hw,q⟩
noncomputable def xv(l:List Nat)(tab:List (List Int))(u v:List Nat):Option Nat:=(az tab.length).find? fun r=>decide (wE l tab (r:Int) u≠wE l tab (r:Int) v)
noncomputable def vO:Option Nat->V
 | none=>.non
 | some r=>.int (r:Nat)
theorem j5{l:List Nat}{tab:List (List Int)}{u v:List Nat}{r:Nat}(h1:r<tab.length)(h2:wE l tab (r:Int) u≠wE l tab (r:Int) v)(h3:∀ j:Nat,j<r->wE l tab (j:Int) u=wE l tab (j:Int) v):xv l tab u v=some r:=by
 unfold xv
 rw[List.find?_eq_some_iff_getElem]
 refine⟨by simpa using h2,r,by simpa using h1,by simp,fun j hj=>?_⟩
 simpa using h3 j hj
theorem jR{l:List Nat}{tab:List (List Int)}{u v:List Nat}(h:∀ j:Nat,j<tab.length->wE l tab (j:Int) u=wE l tab (j:Int) v):xv l tab u v=none:=by
 unfold xv
 rw[fw]
 intro j hj
 simpa using h j (by simpa using hj)
def xb(CV:Addr):Sp:=fun vs H Q _=>∃(o t:Addr) (l:List Nat) (rs:List Addr) (tab:List (List Int)) (u v:List Nat),vs=[.ref o,.str (tx u),.str (tx v)]/\WorAt CV H o l t rs tab/\zY l tab/\(∀ c ∈ u,c ∈ l)/\(∀ c ∈ v,c ∈ l)/\Q (vO (xv l tab u v)) H
theorem uL{CV o t:Addr}{l:List Nat}{rs:List Addr}{tab:List (List Int)}{u v:List Nat}{H:Hp}{Q:VK}{E:XK}(h:WorAt CV H o l t rs tab)(hG:zY l tab)(hu:∀ c ∈ u,c ∈ l)(hv:∀ c ∈ v,c ∈ l)(q:Q (vO (xv l tab u v)) H):xb CV [.ref o,.str (tx u),.str (tx v)] H Q E:=⟨o,t,l,rs,tab,u,v,rfl,h,hG,hu,hv,q⟩
theorem mZ:zm ["self","one","other","room"] ["self","one","other"] (ze yX):=by nofun
theorem uC{f CV:Addr}{fd:FuncData}(B:Bt mg)(CL:Xp K mg CV)(F:Fun K "parted" "World.parted" yX f fd)(M_world_rooms:DM P w K mg base CX0 1 CV "rooms" ["self"] (vj CV))(M_world_led:DM P w K mg base CX0 1 CV "led" ["self","room","word"] (uQ CV)):FnOk P w K mg base CX0 2 f fd ["self","one","other"] (xb CV):=by
 refine F.ok mZ (fun vs H Q E h=>?_) (fun cdv A outer s H vs Q E hr h=>?_)
 ·obtain⟨o,t,l,rs,tab,u,v,rfl,_⟩:=h
  rfl
 ·obtain⟨o,t,l,rs,tab,u,v,rfl,hW,hG,hu,hv,q⟩:=h
  refine⟨_,(zn (zZ PassesOwn.never rfl (yv rfl B.range (za (me0 M_world_rooms CL.cl hr (pv 0)) zc)) (zp (i:=3) mZ.nd rfl (.inl rfl))
    (zd (zP (zE Yk (me1 M_world_led CL.cl hr (pv 0) (za (pv 3) (za (pv 1) zc))) (me1 M_world_led CL.cl hr (pv 0) (za (pv 3) (za (pv 2) zc))) (zy _))
     (zd (zq (pv 3)))
     zu)))
   (zd (zq wD))),?_⟩
  have s16:=ye
  rfl'
  obtain⟨dx,ho,hT⟩:=id hW
  have hhi:=hG.hi
  refine⟨_,_,ho,rfl,jZ hW ?_⟩
  refine⟨_,rfl,by lia,by lia,ForR.by (fun i σ H'=>H'=H/\(∀ j:Nat,j<i->wE l tab (j:Int) u=wE l tab (j:Int) v)/\∃ v3,σ=[some (.ref o),some (.str (tx u)),some (.str (tx v)),v3]) ⟨rfl,fun j h=>absurd h (cC j),none,rfl⟩ ?_ ?_⟩
  ·rintro i σ H' hi ⟨rfl,hb,v3,rfl⟩
   have hi':i<tab.length:=by lia
   have e0:(0:Int)+(i:Int)=(i:Int):=by lia
   repeat (first | rfl' | simp only[wY,zI,yf,vB,vI,zH])
   refine⟨_,_,ho,rfl,jl hW hG (by lia) (by lia) hu ⟨_,_,ho,rfl,jl hW hG (by lia) (by lia) hv ?_⟩⟩
   rw[e0]
   repeat (first | rfl' | simp only[wY,zI,yf,vB,vI,zH])
   refine xx (fun h=>?_) fun h j hj=>?_
   ·rw[j5 hi' h hb] at q
    exact q
   ·by_cases hj':j<i
    ·exact hb j hj'
    ·have:j=i:=by lia
     rw[this]
     exact Decidable.not_not.mp h
  ·rintro σ H' ⟨rfl,hb,v3,rfl⟩
   repeat (first | rfl' | simp only[wY,zI,yf,vB,vI,zH])
   rw[jR fun j hj=>hb j (by lia)] at q
   exact q
def xM(K:rC)(CV:Addr):Sp:=fun vs H Q _=>∃(o t p:Addr) (l:List Nat) (rs:List Addr) (tab:List (List Int)) (u v:List Nat),vs=[.ref o,.ref p]/\SqT K H p [.str (tx u),.str (tx v)]/\WorAt CV H o l t rs tab/\zY l tab/\(∀ c ∈ u,c ∈ l)/\(∀ c ∈ v,c ∈ l)/\Q (.bl (decide (xv l tab u v=none))) H
theorem qJ{CV o t p:Addr}{l:List Nat}{rs:List Addr}{tab:List (List Int)}{u v:List Nat}{H:Hp}{Q:VK}{E:XK}(hp:SqT K H p [.str (tx u),.str (tx v)])(h:WorAt CV H o l t rs tab)(hG:zY l tab)(hu:∀ c ∈ u,c ∈ l)(hv:∀ c ∈ v,c ∈ l)(q:Q (.bl (decide (xv l tab u v=none))) H):xM K CV [.ref o,.ref p] H Q E:=⟨o,t,p,l,rs,tab,u,v,rfl,hp,h,hG,hu,hv,q⟩
theorem qp:zm ["self","pact"] ["self","pact"] (ze xt):=by nofun
theorem qr{f CV:Addr}{fd:FuncData}(B:Bt mg)(CL:Xp K mg CV)(F:Fun K "holds" "World.holds" xt f fd)(M_world_parted:DM P w K mg base CX0 2 CV "parted" ["self","one","other"] (xb CV)):FnOk P w K mg base CX0 3 f fd ["self","pact"] (xM K CV):=by
 refine F.ok qp (fun vs H Q E h=>?_) (fun cdv A outer s H vs Q E hr h=>?_)
 ·obtain⟨o,t,p,l,rs,tab,u,v,rfl,_⟩:=h
  rfl
 ·obtain⟨o,t,p,l,rs,tab,u,v,rfl,hp,hW,hG,hu,hv,q⟩:=h
  refine⟨_,(zd (zq (yK op_isN' (me1 M_world_parted CL.cl hr (pv 0) (za (zV ix_tup (pv 1) zi (fun _ _=>rfl)) (za (zV ix_tup (pv 1) zi (fun _ _=>rfl)) zc))) wD (zy _)))),?_⟩
  have s16:=ye
  rfl'
  obtain⟨dx,ho,hT⟩:=id hW
  refine⟨_,_,ho,rfl,_,hp,_,rfl,_,hp,_,rfl,uL hW hG hu hv ?_⟩
  have e:decide (vO (xv l tab u v)=V.non)=decide (xv l tab u v=none):=by
   cases xv l tab u v with
   | none=>rfl
   | some r=>rfl
  rw[e]
  exact q
def xw(ps:List zB)(v:List Nat):Prop:=∃ J,J<=4000/\Rd ps v J/\zA (wAt ps v J) ps=none
noncomputable def YK(ps:List zB)(v:List Nat):List Nat:=wAt ps v 4000
theorem Zs{ps:List zB}{v:List Nat}{J:Nat}(h:zA (wAt ps v J) ps=none):∀ d,wAt ps v (J+d)=wAt ps v J
 | 0=>rfl
 | d+1=>by
  show Yq ps (wAt ps v (J+d))=_
  rw[Zs h d]
  unfold Yq
  rw[h]
  rfl
theorem WR{ps:List zB}{v:List Nat}{J:Nat}(hJ:J<=4000)(h:zA (wAt ps v J) ps=none):YK ps v=wAt ps v J:=by
 have:=Zs h (4000 - J)
 rw[show J+(4000 - J)=4000 by lia] at this
 exact this
noncomputable def kz(ps:List zB)(l:List Nat)(ws:List (List Nat))(w:List Nat):List Int:=l.map fun c=>((ws.idxOf (YK ps (w ++ [c])):Nat):Int)
def vc(K:rC)(CO CR CW CH:Addr):Sp:=fun vs H Q _=>∃(y o q Wd:Addr) (ps:List zB) (k:Nat) (l:List Nat) (ns:List Int) (ws:List (List Nat)) (w:List Nat),vs=[.ref y,.ref Wd,.str (tx w)]/\SysAt K CH H y o q ps/\OrdAt CO CR CW H o k l ns/\l.length<=6/\NeL ps/\ps.length<=100/\(∀ p ∈ ps,p.1.length<=1000/\p.2.length<=1000)/\H Wd=some (.lst (tW ws))/\w.length<=100/\(∀ c ∈ l,xw ps (w ++ [c])/\YK ps (w ++ [c]) ∈ ws)/\∀(D:Addr) (H':Hp),Same H H'->H D=none->H' D=some (.lst ((kz ps l ws w).map V.int))->Q (.ref D) H'
theorem X2:zm ["system","words","word"] ["system","words","word"] (ze uo):=by nofun
theorem Xv{f CO CR CW CH:Addr}{fd:FuncData}(B:Bt mg)(TO:TOrd K mg CO CR CW)(TS:YN K mg CH)(F:Fun K "row_of" "row_of" uo f fd)(M_system_shortest:DM P w K mg base (CXx P w) 5 CH "shortest" ["self","word"] (vA K CH)):FnOk P w K mg base CX0 6 f fd ["system","words","word"] (vc K CO CR CW CH):=by
 refine F.ok X2 (fun vs H Q E h=>?_) (fun cdv A outer s H vs Q E hr h=>?_)
 ·obtain⟨y,o,q,Wd,ps,k,l,ns,ws,w,rfl,_⟩:=h
  rfl
 ·obtain⟨y,o,q,Wd,ps,k,l,ns,ws,w,rfl,hy,ho,l6,hN,hpl,hP,hW,hwl,hE,kq⟩:=h
  refine⟨_,(zd (zq (xU (own:=["letter"]) (caps:=["words","system","word"]) (ix:=[1,0,2]) (tt:=ud) (te:=(tBM K "list" (QW K) (ya 1) (zN (qx CH "shortest" (vA K CH) [] E0 (ya 2) (zN (tOp YA (ya 3) (ya 0)) wQ)) wQ))) rfl (yJ (sc:=ze uo) rfl (by symm) (by symm) (by symm) rfl (by symm) (by symm) rfl) (vz (yG (yG (pv 0) rfl) rfl)) (fun _ _ _ _ _ _=>zp (i:=0) (show List.Nodup [_,_,_,_] by decide) rfl (.inl rfl)) (fun _ _ _ _ _ _=>xl) (fun _ _ _ _ _ _=>(yL aK bL bM ZD (pv 1) (za (zaV xe0 M_system_shortest TS.cl hr (pv 2) (za (zv zL (pv 3) (pv 0)) zc)) zc)))))),?_⟩
  have s16:=ye
  obtain⟨dx,xs,h1,h2,h3⟩:=id hy
  obtain⟨C,dy,fs,hf,ho1,_,hlk⟩:=ho.fam
  have hC:Cls K C/\NoAttr K C "letters":=by
   rcases hf with rfl | rfl | rfl
   ·exact⟨TO.cO,TO.lO⟩
   ·exact⟨TO.cR,TO.lR⟩
   ·exact⟨TO.cW,TO.lW⟩
  rfl'
  refine⟨_,_,_,h1,TS.cl,TS.no,_,rfl,_,rfl,_,_,_,ho1,hC.1,hC.2,_,hlk,_,rfl,fun D hD=>CompS.by (fun i acc H'=>Same H H'/\H' D=some (.lst acc)/\acc=(kz ps (l.take i) ws w).map V.int) ⟨zf hD,zb,rfl⟩ ?_ ?_⟩
  ·rintro i c acc H' hc ⟨hs,hH,rfl⟩
   have hil:=(rD.mp hc).1
   obtain⟨⟨J,hJ,hR,hJe⟩,hfm⟩:=hE c (ae hc)
   obtain⟨dx,xs,g1,g2,g3⟩:=hy.same hs
   simp only[ud]
   rfl'
   have ef:=WR hJ hJe
   refine⟨qk,.inl ⟨_,SqL.of (hs _ _ hW)⟩,_,_,g1,rfl,by lia,y,o,q,w ++ [c],ps,J,rfl,hy.same hs,hN,hpl,hP,hR,hJe,hJ,fun H5 s5=>⟨Wd,ws,wAt ps (w ++ [c]) J,rfl,rfl,SqL.of (s5 _ _ (hs _ _ hW)),by rw[<- ef];exact hfm,s5 _ _ hH,by rw[aa,kz,aa,aO];lia,CNx.mk hil ⟨zF (hs.trans s5) hD,zb,?_⟩⟩⟩
   unfold kz
   rw[yb hc,aE,aE,<- ef]
   rfl
  ·rintro acc H' ⟨hs,hH,rfl⟩
   rw[be] at hH
   exact kq D H' hs hD hH
theorem KZ{X:Cx}{E:XK}{k j:Nat}{C:Addr}{ps:List Str}{sp:Sp}{e:Expr}{es:List Expr}{t:TA}{pos p:Pos}{x:Str}(hx:XE X E)(D:DMk X.prog X.w X.K X.mg X.base (CXx X.prog X.w) k C ps sp)(hr:Room j X.A)(hg:Gl X x)(hm:X.mg x=some (.ref C))(ha:PA X (e::es) t)(hdb:(x == ("__debug__" : Str))=false:=by decide)(he:rA (e::es) X.env=(false,eval e X.env)::rA es X.env:=by rfl)
  (hpl:(backTo pos (rA es X.env)).any (·.1)=false:=by rfl) (hj:k+1<=j:=by decide):PE X (.Call (.Name x p) (e::es) [] pos) (VQ C sp [] E t):=by
 obtain⟨f,fd,M,F,hb⟩:=D.ex
 exact Y7 M F (hr.mono hj) hg hm hb .nil (jt hx) ha hdb he hpl
theorem WW{CO CR CW CH:Addr}{H:Hp}{y o q Wd D:Addr}{ps:List zB}{k:Nat}{l:List Nat}{ns:List Int}{ws:List (List Nat)}{σ:L2.St}{Q:VK}{g:TG}(hg:g=yN 0)(hσ:uI σ 1 [0,1]=[none,some (.ref y),some (.ref Wd)])(hy:SysAt K CH H y o q ps)(ho:OrdAt CO CR CW H o k l ns)(l6:l.length<=6)(hN:NeL ps)(hpl:ps.length<=100)(hP:∀ p ∈ ps,p.1.length<=1000/\p.2.length<=1000)(hW:H Wd=some (.lst (tW ws)))(hwl:ws.length<=100)(hwn:∀ w ∈ ws,w.length<=100)(hE:∀ w ∈ ws,∀ c ∈ l,xw ps (w ++ [c])/\YK ps (w ++ [c]) ∈ ws)(hD:H D=none)
  (q':∀(rs:List Addr) (H':Hp),Same H H'->TabAt H' D rs (ws.map (kz ps l ws))->Q (.ref D) H') :
  CompL K Wd g ud (je (vc K CO CR CW CH) [] E0 (zN (ya 1) (zN (ya 2) (zN (ya 0) wQ)))) 1 [0,1] σ H Q D:=by
 have s16:=ye
 subst hg
 refine CompL.by (xs:=tW ws) (fun i acc H'=>∃ rs:List Addr,acc=rs.map V.ref/\rs.length=i/\Same H H'/\H' D=some (.lst acc)/\(∀ r ∈ rs,r≠D)/\∀(j:Nat) (r:Addr) (w:List Nat),rs[j]? = some r->ws[j]? = some w->H' r=some (.lst ((kz ps l ws w).map V.int))) ⟨[],rfl,rfl,zf hD,zb,fun r h=>(nomatch h),fun j r w h=>by simp at h⟩ (fun i acc H' _ h=>by obtain⟨_,_,_,hs,_⟩:=h;exact SqL.of (hs _ _ hW)) ?_ ?_
 ·rintro i v acc H' hv ⟨rs,rfl,hi,hs,hH,hf,hr⟩
  rw[au] at hv
  obtain⟨w,hw0,rfl⟩:=rK.mp hv
  have hil:=(rD.mp hw0).1
  have hwm:=ae hw0
  rw[hσ]
  simp only[ud]
  rfl'
  refine⟨qk,y,o,q,Wd,ps,k,l,ns,ws,w,rfl,hy.same hs,ho.same hs,l6,hN,hpl,hP,hs _ _ hW,hwn w hwm,hE w hwm,fun p H5 s5 hp hp5=>⟨s5 _ _ hH,by rw[aa];lia,CNx.mk (by rw[aa];exact hil) ⟨rs ++ [p],by rw[aE];rfl,by rw[am,hi];rfl,zF (hs.trans s5) hD,zb,?_,?_⟩⟩⟩
  ·intro r' hr'
   rcases rF.mp hr' with h' | h'
   ·exact hf r' h'
   ·rw[rE.mp h']
    exact fun e=>by rw[e,hH] at hp;cases hp
  ·intro j r' x' h1 h2
   by_cases hj:j<i
   ·rw[bc (by lia)] at h1
    rw[zh (hf r' (ae h1))]
    exact s5 _ _ (hr j r' x' h1 h2)
   ·rw[bo (by lia)] at h1
    have hj0:j=i:=by
     have:=(rD.mp h1).1
     simp at this
     lia
    subst hj0
    rw[hi,fv] at h1
    cases h1
    rw[hw0] at h2
    cases h2
    rw[zh (fun e=>by rw[e,hH] at hp;cases hp)]
    exact hp5
 ·rintro acc H' ⟨rs,rfl,hi,hs,hH,hf,hr⟩
  rw[aa] at hi
  refine q' rs H' hs ⟨hH,by rw[aa];exact hi,fun j r x h1 h2=>?_⟩
  rw[au] at h2
  obtain⟨w,hw,rfl⟩:=rK.mp h2
  exact hr j r w h1 hw
def XW(K:rC)(CO CR CW CM CH CV:Addr):Sp:=fun vs H Q E=>∃(y o q:Addr) (ps:List zB) (k:Nat) (l:List Nat) (ns:List Int),vs=[.ref y]/\SysAt K CH H y o q ps/\OrdAt CO CR CW H o k l ns/\vm l=true/\NeL ps/\ps.length<=100/\(∀ p ∈ ps,p.1.length<=1000/\p.2.length<=1000)/\(swF (Sh ps) l 8 10 [] [[]]=none->∀ H',Same H H'->E (.ref CM) none H')/\∀ ws,swF (Sh ps) l 8 10 [] [[]]=some ws->1<=ws.length/\ws.length<=8/\(∀ w ∈ ws,w.length<=100)/\(∀ w ∈ ws,∀ c ∈ l,xw ps (w ++ [c])/\YK ps (w ++ [c]) ∈ ws)/\∀(x t:Addr) (rs:List Addr) (H':Hp),Same H H'->WorAt CV H' x l t rs (ws.map (kz ps l ws))->Q (.ref x) H'
theorem oz:zm ["system","words"] ["system"] (ze wm):=by nofun
theorem kW{f CO CR CW CM CH CV:Addr}{fd:FuncData}{gc:Tok}(B:Bt mg)(TO:TOrd K mg CO CR CW)(TS:YN K mg CH)(CLw:Xp K mg CV)(F:Fun K "world_of" "world_of" wm f fd)(mC:Df P w K mg base (CXx P w) 6 "shortest_words" ["system","most"] [] (kL K CO CR CW CM CH))(DD_shortest_words:Df P w K mg base (CXx P w) 6 "shortest_words" ["system","most"] [.int 8 gc] (kL K CO CR CW CM CH))(pW:Df P w K mg base CX0 6 "row_of" ["system","words","word"] [] (vc K CO CR CW CH))(M_world_init:DMk P w K mg base (CXx P w) 4 CV ["self","letters","table"] (vo CV)):FnOk P w K mg base (CXx P w) 7 f fd ["system"] (XW K CO CR CW CM CH CV):=by
 refine Fun.okX F oz (fun vs H Q E h=>?_) (fun cdv A outer s H vs Q E hr hx h=>?_)
 ·obtain⟨y,o,q,ps,k,l,ns,rfl,_⟩:=h
  rfl
 ·obtain⟨y,o,q,ps,k,l,ns,rfl,hy,ho,hg,hN,hpl,hP,q1,q2⟩:=h
  refine⟨_,(zg (zk (i:=1) oz.nd rfl (Or.inr rfl) (clP (dvs:=[.int 8]) hx DD_shortest_words hr (.cons ⟨_,rfl⟩ .nil) rfl (za (pv 0) zc)))
   (zd (zq (KZ hx M_world_init hr rfl CLw.g (za (yG (yG (pv 0) rfl) rfl) (za (xU (own:=["word"]) (caps:=["system","words"]) (ix:=[0,1]) (tt:=ud) (te:=(je (vc K CO CR CW CH) [] E0 (zN (ya 1) (zN (ya 2) (zN (ya 0) wQ))))) rfl (yJ (sc:=ze wm) rfl (by symm) (by symm) (by symm) rfl (by symm) (by symm) rfl) (yW (pv 1)) (fun _ _ _ _ _ _=>zp (i:=0) (show List.Nodup [_,_,_] by decide) rfl (.inl rfl)) (fun _ _ _ _ _ _=>xl) (fun _ _ _ _ _ _=>(cl0 pW hr .nil rfl (za (pv 1) (za (pv 2) (za (pv 0) zc)))))) zc)))))),?_⟩
  have s16:=ye
  obtain⟨l1,l6,lsm,lnd⟩:=of_decide_eq_true hg
  refine zj (fun σ H'=>∃(Wd:Addr) (ws:List (List Nat)),swF (Sh ps) l 8 10 [] [[]]=some ws/\Same H H'/\H' Wd=some (.lst (tW ws))/\σ=[some (.ref y),some (.ref Wd)]) ?_ ?_
  ·rfl'
   refine⟨y,o,q,ps,k,l,ns,8,rfl,hy,ho,l6,hN,fun p hp=>(hP p hp).1,by decide,q1,fun ws hws D H' s' hD hW=>?_⟩
   exact⟨D,ws,hws,s',hW,rfl⟩
  rintro σ H1 ⟨Wd,ws,hws,s1,hW,rfl⟩
  obtain⟨w1,w8,wn,hE,q3⟩:=q2 ws hws
  obtain⟨dx,xs,h1,h2,h3⟩:=hy.same s1
  obtain⟨C,dy,fs,hf,ho1,_,hlk⟩:=(ho.same s1).fam
  have hC:Cls K C/\NoAttr K C "letters":=by
   rcases hf with rfl | rfl | rfl
   ·exact⟨TO.cO,TO.lO⟩
   ·exact⟨TO.cR,TO.lR⟩
   ·exact⟨TO.cW,TO.lW⟩
  have hGT:zY l (ws.map (kz ps l ws)):=by
   refine⟨by rw[aa];lia,by rw[aa];lia,fun x hx=>?_,fun x hx n hn=>?_⟩
   ·obtain⟨w,_,rfl⟩:=rG.mp hx
    exact aa ..
   ·obtain⟨w,hw,rfl⟩:=rG.mp hx
    obtain⟨c,hc,rfl⟩:=rG.mp hn
    have:=aC (hE w hw c hc).2
    rw[aa]
    lia
  rfl'
  refine⟨_,_,_,h1,TS.cl,TS.no,_,rfl,_,rfl,_,_,_,ho1,hC.1,hC.2,_,hlk,⟨_,SqL.of hW⟩,fun D hD=>WW rfl rfl (hy.same s1) (ho.same s1) l6 hN hpl hP hW (by lia) wn hE hD fun rs H' s' hT=>Xj hg hT hGT fun x t' rs'' H'' s'' _ _ hW'=>q3 x t' rs'' H'' (s1.trans (s'.trans s'')) hW'⟩
noncomputable def yk(ns:List Int)(k:Int):Int:=ns.getD k.toNat 0
def wf(K:rC):Sp:=fun vs H Q _=>∃ a ns k,vs=[.ref a,.int k]/\SqL K H a (ns.map V.int)/\0<=k/\Q (.int (yk ns k)) H
theorem Yv:zm ["_law_script","_law_k"] ["_law_script","_law_k"] (ze uS):=by nofun
theorem YD{f:Addr}{fd:FuncData}(B:Bt mg)(F:Fun K "_law_cell_at" "_law_cell_at" uS f fd):FnOk P w K mg base CX0 1 f fd ["_law_script","_law_k"] (wf K):=by
 refine F.ok Yv (fun vs H Q E h=>?_) (fun cdv A outer s H vs Q E hr h=>?_)
 ·obtain⟨a,ns,k,rfl,_⟩:=h
  rfl
 ·obtain⟨a,ns,k,rfl,hS,hk,q⟩:=h
  refine⟨_,(zn (zP (zE WN (pv 1) (zo zW rfl B.len aB (za (pv 0) zc)) (zy _))
    (zd (zq (zV kB (pv 0) (pv 1) (fun _ _=>rfl))))
    zu)
   (zd (zq zi))),?_⟩
  rfl'
  refine⟨_,.inl ⟨_,hS,rfl⟩,xx (fun c=>?_) (fun c=>?_)⟩
  ·obtain⟨v,h1,h2⟩:=vg hk c
   refine .inl ⟨_,hS,_,h1,?_⟩
   rw[au] at h2
   unfold yk at q
   rw[aj] at q
   cases e:ns[k.toNat]? with
   | none=>rw[e] at h2;cases h2
   | some z=>rw[e] at h2 q;cases h2;exact q
  ·rw[aa] at c
   unfold yk at q
   rw[aj,cD (by lia)] at q
   exact q
theorem wo{a:Addr}{ns:List Int}{k:Int}{H:Hp}{Q:VK}{E:XK}(hS:SqL K H a (ns.map V.int))(hk:0<=k)(h:Q (.int (yk ns k)) H):wf K [.ref a,.int k] H Q E:=⟨a,ns,k,rfl,hS,hk,h⟩
structure LS where
 left:List Nat
 num:Int
 found:List Nat
noncomputable def LS.step(s:LS):LS:=⟨s.left.take (s.num % (s.left.length:Int)).toNat ++ s.left.drop ((s.num % (s.left.length:Int)).toNat+1),s.num / 26,s.found ++ [s.left.getD (s.num % (s.left.length:Int)).toNat 0]⟩
noncomputable def stL(c:Int):Nat->LS
 | 0=>⟨kX,c * 48271 % 308915776,[]⟩
 | i+1=>(stL c i).step
noncomputable def QF(c:Int)(m:Nat):List Nat:=(stL c m).found
theorem Xc(c:Int):∀ i:Nat,i<=20->(stL c i).found.length=i/\((stL c i).found ++ (stL c i).left).Perm kX/\(stL c i).left.length+i=26
 | 0,_=>⟨rfl,.refl _,rfl⟩
 | i+1,h=>by
  obtain⟨h1,h2,h3⟩:=Xc c i (by lia)
  show ((stL c i).step.found.length=i+1/\((stL c i).step.found ++ (stL c i).step.left).Perm kX/\(stL c i).step.left.length+(i+1)=26)
  generalize stL c i=s at *
  have b0:=bt s.num (b:=(s.left.length:Int)) (by lia)
  have b1:=aY s.num (b:=(s.left.length:Int)) (by lia)
  unfold LS.step
  generalize hz:(s.num % (s.left.length:Int)).toNat=z at *
  have zl:z<s.left.length:=by lia
  have e:s.left[z]? = some (s.left.getD z 0):=by rw[aj,ag zl];rfl
  refine⟨by simp [h1],?_,by simp only[am,aO,bJ];lia⟩
  show (s.found ++ [s.left.getD z 0] ++ (s.left.take z ++ s.left.drop (z+1))).Perm kX
  rw[bN]
  exact ((Wu e).append_left s.found).trans h2
theorem XB(c:Int){m:Nat}(h:m<=6)(h1:1<=m):vm (QF c m)=true/\(QF c m).length=m:=by
 obtain⟨a,b,_⟩:=Xc c m (by lia)
 have hnd:((stL c m).found ++ (stL c m).left).Nodup:=b.nodup_iff.mpr (by decide)
 have ha:(QF c m).length=m:=a
 refine⟨decide_eq_true ⟨by lia,by lia,fun x hx=>?_,(List.nodup_append.mp hnd).1⟩,ha⟩
 have hx':x ∈ kX:=b.mem_iff.mp (bf _ hx)
 exact (by decide:∀ c ∈ kX,97<=c/\c<=122) x hx'
def wk:Sp:=fun vs H Q _=>∃(c:Int) (m:Nat),vs=[.int c,.int (m:Nat)]/\m<=6/\Q (.str (tx (QF c m))) H
theorem Zp{c:Int}{m:Nat}{H:Hp}{Q:VK}{E:XK}(h:m<=6)(q:Q (.str (tx (QF c m))) H):wk [.int c,.int (m:Nat)] H Q E:=⟨c,m,rfl,h,q⟩
theorem gm:zm ["_law_cell","_law_many","_law_left","_law_number","_law_found","_law_k","_law_at"] ["_law_cell","_law_many"] (ze uP):=by nofun
theorem Yp{f:Addr}{fd:FuncData}(B:Bt mg)(F:Fun K "_law_letters" "_law_letters" uP f fd) : FnOk P w K mg base CX0 1 f fd ["_law_cell","_law_many"] wk:=by
 refine F.ok gm (fun vs H Q E h=>?_) (fun cdv A outer s H vs Q E hr h=>?_)
 ·obtain⟨c,m,rfl,_⟩:=h
  rfl
 ·obtain⟨c,m,rfl,h1,q⟩:=h
  refine⟨_,(zn (zk (i:=2) gm.nd rfl (.inl rfl) yh)
   (zn (zk (i:=3) gm.nd rfl (.inl rfl) (zv yj (zv qT (pv 0) zi) zi))
   (zn (zk (i:=4) gm.nd rfl (.inl rfl) yh)
   (zn (zZ PassesOwn.never rfl (yv rfl B.range (za (pv 1) zc)) (zp (i:=5) gm.nd rfl (.inl rfl))
    (zn (zk (i:=6) gm.nd rfl (.inl rfl) (zv yj (pv 3) (zo zW rfl B.len aB (za (pv 2) zc))))
    (zn (zk (i:=3) gm.nd rfl (.inl rfl) (zv xq (pv 3) zi))
    (zn (zk (i:=4) gm.nd rfl (.inl rfl) (zv zL (pv 4) (zV kB (pv 2) (pv 6) (fun _ _=>rfl))))
    (zd (zk (i:=2) gm.nd rfl (.inl rfl) (zv zL (yq uT (pv 2) xI (yw (pv 6))) (yq uT (pv 2) (yw (zv zL (pv 6) zi)) xI))))))))
   (zd (zq (pv 4))))))),?_⟩
  have s16:=ye
  rfl'
  refine⟨.inr ⟨by decide,by decide⟩,by decide,by lia,by lia,ForR.by (fun i σ H'=>H'=H/\∃(v5 v6:Option V),σ=[some (.int c),some (.int (m:Nat)),some (.str (tx (stL c i).left)),some (.int (stL c i).num),some (.str (tx (stL c i).found)),v5,v6]) ⟨rfl,none,none,by rw[YM];rfl⟩ ?_ ?_⟩
  ·rintro i σ H' hi ⟨rfl,v5,v6,rfl⟩
   obtain⟨hf,hp,hl⟩:=Xc c i (by lia)
   rw[show stL c (i+1)=(stL c i).step from rfl]
   generalize stL c i=s at *
   have hm0:=bt s.num (b:=(s.left.length:Int)) (by lia)
   have hm1:=aY s.num (b:=(s.left.length:Int)) (by lia)
   obtain⟨v,e1,e2⟩:=vg hm0 hm1
   have hc1:=uH s.left none (some (s.num % (s.left.length:Int)))
   have hc2:=uH s.left (some (s.num % (s.left.length:Int)+1)) none
   rfl'
   refine⟨by lia,by lia,⟨by decide,by decide⟩,by lia,v,e1,by lia,by lia,by lia,by lia,?_,rfl,?_⟩
   ·rw[Wo _ hm0,jg _ (by lia)]
    have e3:(s.num % (s.left.length:Int)+1).toNat=(s.num % (s.left.length:Int)).toNat+1:=by lia
    rw[e3]
    rfl
   ·show s.found ++ [v]=s.found ++ [s.left.getD _ 0]
    rw[aj,e2]
    rfl
  ·rintro σ H' ⟨rfl,v5,v6,rfl⟩
   rfl'
   rw[aL]
   exact q
noncomputable def Uu(k:Int)(ls:List Nat)(ns:List Int)(w:List Nat):Int:=(w.map fun c=>if k=2 then ns.getD (ls.idxOf c) 0 else 1).sum
theorem Vw{k:Int}{ls:List Nat}{ns:List Int}{w:List Nat}(h:k≠2):Uu k ls ns w=(w.length:Int):=by
 unfold Uu
 induction w with
 | nil=>rfl
 | cons c w ih =>
  rw[ax,aV,ih,if_neg h,aI]
  lia
theorem uN{ls:List Nat}{ns:List Int}(f g:Nat->Int):((ls.zip ns).map fun p=>(f p.1+g p.1) * p.2).sum=((ls.zip ns).map fun p=>f p.1 * p.2).sum+((ls.zip ns).map fun p=>g p.1 * p.2).sum:=by
 induction ls.zip ns with
 | nil=>rfl
 | cons p r ih =>
  rw[ax,ax,ax,aV,aV,aV,ih,Int.add_mul]
  lia
theorem Xs:∀{ls:List Nat} {ns:List Int} {c:Nat},ls.Nodup->ns.length=ls.length->c ∈ ls->((ls.zip ns).map fun p=>(if p.1=c then (1:Int) else 0) * p.2).sum=ns.getD (ls.idxOf c) 0
 | [],ns,c,_,_,hc=>(nomatch hc)
 | d::ls,[],c,_,hl,_=>by cases hl
 | d::ls,n::ns,c,hn,hl,hc=>by
  rw[dY,ax,aV]
  have hnd:=rN.mp hn
  by_cases h:d=c
  ·subst h
   have h0:∀(l:List Nat) (m:List Int),d ∉ l->((l.zip m).map fun p=>(if p.1=d then (1:Int) else 0) * p.2).sum=0:=by
    intro l
    induction l with
    | nil=>intro m _;rfl
    | cons x l ih =>
     intro m hx
     cases m with
     | nil=>rfl
     | cons y m =>
      rw[dY,ax,aV,ih m (fun q=>hx (aw _ q)),if_neg (show ¬ x=d from fun e=>hx (by rw[e];exact aD))]
      lia
   rw[h0 ls ns hnd.1,if_pos rfl,List.idxOf_cons_self]
   simp
  ·have hc':c ∈ ls:=by
    rcases rH.mp hc with e | e
    ·exact absurd e.symm h
    ·exact e
   rw[Xs hnd.2 (by simpa using hl) hc',if_neg h,eK,show (d == c)=false by simpa using h]
   simp
theorem Yg{ls:List Nat}{ns:List Int}(hn:ls.Nodup)(hl:ns.length=ls.length):∀{w:List Nat},(∀ x ∈ w,x ∈ ls)->Uu 2 ls ns w=Vm ls ns w
 | [],_=>by
  have h0:∀ r:List (Nat × Int),(r.map fun p=>((([]:List Nat).count p.1:Nat):Int) * p.2).sum=0:=by
   intro r
   induction r with
   | nil=>rfl
   | cons p r ih=>rw[ax,aV,ih];simp
  exact (h0 _).symm
 | c::w,h=>by
  have ih:=Yg hn hl (w:=w) fun x hx=>h x (aw _ hx)
  have e1:Uu 2 ls ns (c::w)=ns.getD (ls.idxOf c) 0+Uu 2 ls ns w:=by
   unfold Uu
   rw[ax,aV,if_pos rfl]
  rw[e1,ih,<- Xs hn hl (h c aD)]
  unfold Vm
  rw[<- uN (fun x=>if x=c then 1 else 0) (fun x=>(w.count x:Int))]
  refine congrArg List.sum (bR fun p _=>?_)
  rw[List.count_cons]
  by_cases e:c=p.1
  ·rw[if_pos e.symm,if_pos (by simpa using e)]
   simp [Int.add_comm]
  ·rw[if_neg (fun z=>e z.symm),if_neg (by simpa using e)]
   simp
noncomputable def wt(k:Nat)(ns:List Int)(i:Int):Int:=if k=2 then ns.getD i.toNat 0 else 1
theorem vM{g:Int->Int}:∀{x:List Int},(∀ i ∈ x,0<g i)->0<=(x.map g).sum
 | [],_=>by simp
 | a::x,h=>by
  have h1:=h a aD
  have h2:=vM (x:=x) fun i hi=>h i (aw _ hi)
  rw[ax,aV]
  lia
theorem vG:∀{x y:List Int},x≠y->ltI x y=!ltI y x
 | [],[],h=>absurd rfl h
 | [],_::_,_=>rfl
 | _::_,[],_=>rfl
 | a::x,b::y,h=>by
  rw[ltI,ltI]
  by_cases e:a=b
  ·rw[if_pos e,if_pos e.symm]
   exact vG fun q=>h (by rw[e,q])
  ·rw[if_neg e,if_neg fun q=>e q.symm]
   by_cases c:a<b
   ·rw[decide_eq_true c,decide_eq_false (by lia)]
    rfl
   ·rw[decide_eq_false c,decide_eq_true (by lia)]
    rfl
theorem uZ:∀{x y z:List Int},ltI x y=true->ltI y z=true->ltI x z=true
 | [],[],_,h,_=>by cases h
 | [],_::_,[],_,h=>by cases h
 | [],_::_,_::_,_,_=>rfl
 | _::_,[],_,h,_=>by cases h
 | _::_,_::_,[],_,h=>by cases h
 | a::x,b::y,c::z,h1,h2=>by
  rw[ltI] at h1 h2 ⊢
  by_cases e:a=b
  ·subst e
   rw[if_pos rfl] at h1
   by_cases f:a=c
   ·rw[if_pos f] at h2 ⊢
    exact uZ h1 h2
   ·rw[if_neg f] at h2 ⊢
    exact h2
  ·rw[if_neg e] at h1
   have h1':=of_decide_eq_true h1
   by_cases f:b=c
   ·subst f
    rw[if_neg e]
    exact h1
   ·rw[if_neg f] at h2
    have h2':=of_decide_eq_true h2
    rw[if_neg (by lia)]
    exact decide_eq_true (by lia)
theorem uY:∀(c x y:List Int),ltI (c ++ x) (c ++ y)=ltI x y
 | [],_,_=>rfl
 | a::c,x,y=>by
  rw[bp,bp,ltI,if_pos rfl]
  exact uY c x y
theorem ZK{g:Int->Int}{c:List Int}:∀{x y:List Int},(∀ i ∈ x,0<g i)->(∀ i ∈ y,0<g i)->(x.map g).sum=(y.map g).sum->ltI (x ++ c) (y ++ c)=ltI x y
 | [],[],_,_,_=>yD c
 | [],b::y,_,hy,h=>by
  have h1:=hy b aD
  have h2:=vM (x:=y) fun i hi=>hy i (aw _ hi)
  rw[ax,aV,ba,dI] at h
  lia
 | a::x,[],hx,_,h=>by
  have h1:=hx a aD
  have h2:=vM (x:=x) fun i hi=>hx i (aw _ hi)
  rw[ax,aV,ba,dI] at h
  lia
 | a::x,b::y,hx,hy,h=>by
  rw[bp,bp,ltI,ltI]
  by_cases e:a=b
  ·rw[if_pos e,if_pos e]
   rw[ax,aV,ax,aV,e] at h
   exact ZK (fun i hi=>hx i (aw _ hi)) (fun i hi=>hy i (aw _ hi)) (by lia)
  ·rw[if_neg e,if_neg e]
section
variable{k:Nat}{l:List Nat}{ns:List Int}{t u v:List Nat}
theorem VF(a b:List Nat):Vm l ns (a ++ b)=Vm l ns a+Vm l ns b:=by
 unfold Vm
 rw[<- uN (fun x=>(a.count x:Int)) (fun x=>(b.count x:Int))]
 refine congrArg List.sum (bR fun p _=>?_)
 rw[List.count_append]
 simp
theorem xY(a b:List Nat):zt k l ns (a ++ b)=zt k l ns a+zt k l ns b:=by
 unfold zt
 by_cases h:k=2
 ·rw[if_pos h,if_pos h,if_pos h,VF]
 ·rw[if_neg h,if_neg h,if_neg h,am]
  lia
theorem xg(G:OG l ns k):∀{w:List Nat},(∀ c ∈ w,c ∈ l)->zt k l ns w=((vk l w).map (wt k ns)).sum:=by
 intro w hm
 have hn:l.Nodup:=(of_decide_eq_true G.g).2.2.2
 have e:((vk l w).map (wt k ns)).sum=Uu (k:Int) l ns w:=by
  unfold vk Uu
  rw[dH]
  refine congrArg List.sum (bR fun c _=>?_)
  show wt k ns _=_
  unfold wt
  by_cases h:k=2
  ·rw[if_pos h,if_pos (by lia),aL]
  ·rw[if_neg h,if_neg (by lia)]
 rw[e]
 unfold zt
 by_cases h:k=2
 ·rw[if_pos h,h]
  exact (Yg hn G.nl hm).symm
 ·rw[if_neg h,Vw (by lia)]
theorem Uk(G:OG l ns k)(hm:∀ c ∈ u,c ∈ l):∀ i ∈ vk l u,0<wt k ns i:=by
 intro i hi
 obtain⟨c,hc,rfl⟩:=rG.mp hi
 have hlt:=aC (hm c hc)
 have hl:=G.nl
 unfold wt
 split
 ·rw[aL,aj,ag (by lia)]
  have:=(G.nb _ (dD (l:=ns) (n:=l.idxOf c) (by lia))).1
  show 0<ns[l.idxOf c]
  lia
 ·decide
theorem ZO:∀{u v:List Nat},(∀ c ∈ u,c ∈ l)->(∀ c ∈ v,c ∈ l)->vk l u=vk l v->u=v
 | [],[],_,_,_=>rfl
 | [],_::_,_,_,h=>by cases h
 | _::_,[],_,_,h=>by cases h
 | a::u,b::v,hu,hv,h=>by
  unfold vk at h
  rw[ax,ax] at h
  injection h with h1 h2
  have h3:l.idxOf a=l.idxOf b:=by lia
  have ha:=bq (aC (hu a aD))
  have hb:=bq (aC (hv b aD))
  have:a=b:=by
   rw[<- ha,<- hb]
   simp only[h3]
  rw[this,ZO (fun c hc=>hu c (aw _ hc)) (fun c hc=>hv c (aw _ hc)) h2]
theorem uf:zS k l ns u u=false:=by
 unfold zS
 rw[if_pos rfl,yD]
theorem wV(h1:zS k l ns t u=true)(h2:zS k l ns u v=true):zS k l ns t v=true:=by
 unfold zS at h1 h2 ⊢
 generalize zt k l ns t=a at *
 generalize zt k l ns u=b at *
 generalize zt k l ns v=c at *
 by_cases e:a=b
 ·subst e
  rw[if_pos rfl] at h1
  by_cases f:a=c
  ·rw[if_pos f] at h2 ⊢
   exact uZ h1 h2
  ·rw[if_neg f] at h2 ⊢
   exact h2
 ·rw[if_neg e] at h1
  have h1':=of_decide_eq_true h1
  by_cases f:b=c
  ·subst f
   rw[if_neg e]
   exact h1
  ·rw[if_neg f] at h2
   have h2':=of_decide_eq_true h2
   rw[if_neg (by lia)]
   exact decide_eq_true (by lia)
theorem yB(a b:List Nat):vk l (a ++ b)=vk l a ++ vk l b:=aE
theorem jP(G:OG l ns k)(hu:∀ c ∈ u,c ∈ l)(hv:∀ c ∈ v,c ∈ l)(e:zt k l ns u=zt k l ns v)(c:List Int):ltI (vk l u ++ c) (vk l v ++ c)=ltI (vk l u) (vk l v):=by
 rw[xg G hu,xg G hv] at e
 exact ZK (Uk G hu) (Uk G hv) e
theorem qF(G:OG l ns k)(hu:∀ c ∈ u,c ∈ l):zt k l ns u.reverse=zt k l ns u:=by
 rw[xg G hu,xg G fun c hc=>hu c (rT.mp hc)]
 unfold vk
 rw[List.map_reverse,List.map_reverse,List.sum_reverse]
theorem vD(G:OG l ns k)(ht:∀ c ∈ t,c ∈ l)(hu:∀ c ∈ u,c ∈ l)(hv:∀ c ∈ v,c ∈ l):zS k l ns (t ++ u) (t ++ v)=zS k l ns u v/\zS k l ns (u ++ t) (v ++ t)=zS k l ns u v:=by
 have hur:∀ c ∈ u.reverse,c ∈ l:=fun c hc=>hu c (rT.mp hc)
 have hvr:∀ c ∈ v.reverse,c ∈ l:=fun c hc=>hv c (rT.mp hc)
 unfold zS
 rw[xY,xY,xY,xY]
 by_cases e:zt k l ns u=zt k l ns v
 ·rw[if_pos (by lia),if_pos e,if_pos (by lia)]
  unfold qi yH
  by_cases f:k=1
  ·simp only[if_pos f,List.reverse_append,yB]
   exact⟨jP G hur hvr (by rw[qF G hu,qF G hv,e]) _,uY _ _ _⟩
  ·simp only[if_neg f,yB]
   exact⟨uY _ _ _,jP G hu hv e _⟩
 ·rw[if_neg (by lia),if_neg e,if_neg (by lia)]
  exact⟨by congr 1;exact propext (by lia),by congr 1;exact propext (by lia)⟩
end
def jB(K:rC)(CO CR CW:Addr):Sp:=fun vs H Q _=>∃(z:Int) (l:List Nat) (D:Addr) (ws:List Int),vs=[.int z,.str (tx l),.ref D]/\0<=z/\z<3/\vm l=true/\H D=some (.lst (ws.map V.int))/\ws.length=l.length/\(∀ n ∈ ws,1<=n/\n<=1000000)/\∀(o:Addr) (H':Hp),Same H H'->OrdAt CO CR CW H' o z.toNat l ws->Q (.ref o) H'
theorem W5:zm ["_law_kind","_law_letters_here","_law_weights"] ["_law_kind","_law_letters_here","_law_weights"] (ze Zq):=by nofun
theorem VE{f CO CR CW:Addr}{fd:FuncData}(B:Bt mg)(T:TWS P w K mg base CO CR CW)(F:Fun K "_law_order" "_law_order" Zq f fd) : FnOk P w K mg base CX0 6 f fd ["_law_kind","_law_letters_here","_law_weights"] (jB K CO CR CW):=by
 refine F.ok W5 (fun vs H Q E h=>?_) (fun cdv A outer s H vs Q E hr h=>?_)
 ·obtain⟨z,l,D,ws,rfl,_⟩:=h
  rfl
 ·obtain⟨z,l,D,ws,rfl,z0,z3,hg,hD,hwl,hwb,q⟩:=h
  refine⟨_,(zn (zP (zE kK (pv 0) zi (zy _))
    (zd (zq (mkC T.mR hr rfl T.gR (za (pv 1) zc))))
    zu)
   (zn (zP (zE kK (pv 0) zi (zy _))
    (zd (zq (KZ xe0 T.mW hr rfl T.gW (za (pv 1) (za (ve xO rfl B.list PySem.Pv.boot_list (za (pv 2) zc)) zc)))))
    zu)
   (zd (zq (mkC T.mO hr rfl T.gO (za (pv 1) zc)))))),?_⟩
  have s16:=ye
  repeat (first | rfl' | simp only[wY,zI,yf,vB,vI,zH])
  refine xx (fun h1=>?_) fun h1=>xx (fun h2=>?_) fun h2=>?_
  ·intro x dx hx hdx hne
   have sd:=zf (o:=.own x) hdx
   refine⟨x,CR,dx,l,rfl,hg,T.cR,T.lR,zb,rfl,q x _ (fun b o' e=>?_) ⟨dx,.inr (.inl ⟨by rw[h1];rfl,zb⟩)⟩⟩
   rw[zh (zr e hx),zh (zr e hx)]
   exact sd _ _ e
  ·refine⟨_,.inl (SqL.of hD),fun E1 hE=>?_⟩
   have se:=zf (o:=.lst (ws.map V.int)) hE
   intro x dx hx hdx hne
   have sd:=zf (o:=.own x) hdx
   have k1:∀ b o',(upd H E1 (.lst (ws.map V.int))) b=some o'->(upd (upd (upd H E1 (.lst (ws.map V.int))) dx (.own x)) x (.ins CW dx [])) b=some o':=fun b o' e=>by
    rw[zh (zr e hx)]
    exact sd _ _ e
   exact⟨x,dx,E1,l,ws,rfl,hg,SqL.of (k1 _ _ zb),hwl,hwb,zb,fun w H' hw hwx kp ht hx'=>⟨rfl,q x _ (fun b o' e=>kp b o' (zr (se _ _ e) hx) (k1 b o' (se _ _ e))) ⟨dx,.inr (.inr ⟨by lia,hwl,w,hx',ht⟩)⟩⟩⟩
  ·intro x dx hx hdx hne
   have sd:=zf (o:=.own x) hdx
   refine⟨x,CO,dx,l,rfl,hg,T.cO,T.lO,zb,rfl,q x _ (fun b o' e=>?_) ⟨dx,.inl ⟨by lia,zb⟩⟩⟩
   rw[zh (zr e hx),zh (zr e hx)]
   exact sd _ _ e
theorem ym{α:Type}[DecidableEq α]:∀{xs ys:List α},xs.Nodup->(∀ x ∈ xs,x ∈ ys)->xs.length<=ys.length
 | [],_,_,_=>aP _
 | x::xs,ys,hn,hs=>by
  have hx:=hs x aD
  obtain⟨h1,h2⟩:=rN.mp hn
  have:=ym (ys:=ys.erase x) h2 fun y hy=>(List.mem_erase_of_ne fun e=>h1 (by rw[<- e];exact hy)).mpr (hs y (aw _ hy))
  rw[List.length_erase_of_mem hx] at this
  have h0:=bT hx
  rw[aI]
  lia
theorem jd{w o:List Nat}{q:Nat}(h:zx w (q:Int) o=true):w.take q ++ o ++ w.drop (q+o.length)=w:=by
 unfold zx at h
 obtain⟨_,_,e⟩:=of_decide_eq_true h
 rw[aL] at e
 calc w.take q ++ o ++ w.drop (q+o.length)=w.take q ++ ((w.drop q).take o.length ++ (w.drop q).drop o.length):=by rw[e,List.drop_drop,bN]
  _=w.take q ++ w.drop q:=by rw[bW]
  _=w:=bW q w
theorem ZJ{w:List Nat}{ps:List zB}{u:Nat × Nat}(h:zA w ps=some u):∃ p,ps[u.1]? = some p/\zx w (u.2:Int) p.1=true:=by
 unfold zA at h
 have hm:u ∈ yo w ps w.length:=List.mem_of_mem_head? h
 obtain⟨_,h2⟩:=usesK_mem.mp hm
 obtain⟨_,p,hp,hs⟩:=wz h2
 exact⟨p,hp,hs⟩
theorem Yb{k:Nat}{l:List Nat}{ns:List Int}{ps:List zB}{w:List Nat}{u:Nat × Nat}(G:OG l ns k)(hp:∀ p ∈ ps,zS k l ns p.2 p.1=true/\(∀ c ∈ p.1,c ∈ l)/\∀ c ∈ p.2,c ∈ l)(hw:∀ c ∈ w,c ∈ l)(h:zA w ps=some u):zS k l ns (Wq w ps u) w=true/\∀ c ∈ Wq w ps u,c ∈ l:=by
 obtain⟨p,h1,h2⟩:=ZJ h
 have e1:=jd h2
 obtain⟨p1,p2,p3⟩:=hp p (ae h1)
 unfold Wq QG
 rw[qc h1,aL]
 have ha:∀ c ∈ w.take u.2,c ∈ l:=fun c hc=>hw c (cj hc)
 have hb:∀ c ∈ w.drop (u.2+p.1.length),c ∈ l:=fun c hc=>hw c (cY hc)
 generalize w.take u.2=a at *
 generalize w.drop (u.2+p.1.length)=b at *
 rw[<- e1]
 have ap:∀ x:List Nat,(∀ c ∈ x,c ∈ l)->∀ c ∈ a ++ x,c ∈ l:=fun x hx c hc=>(rF.mp hc).elim (ha c) (hx c)
 refine⟨?_,fun c hc=>(rF.mp hc).elim (ap p.2 p3 c) (hb c)⟩
 rw[(vD G hb (ap p.2 p3) (ap p.1 p2)).2,(vD G ha p3 p2).1]
 exact p1
section
variable{k:Nat}{l:List Nat}{ns:List Int}{ps:List zB}{w:List Nat}
theorem qC(G:OG l ns k)(hp:∀ p ∈ ps,zS k l ns p.2 p.1=true/\(∀ c ∈ p.1,c ∈ l)/\∀ c ∈ p.2,c ∈ l)(hw:∀ c ∈ w,c ∈ l):∀ j,∀ c ∈ wAt ps w j,c ∈ l
 | 0=>hw
 | j+1=>by
  have ih:=qC G hp hw j
  cases e:zA (wAt ps w j) ps with
  | none =>
   show ∀ c ∈ Yq ps (wAt ps w j),c ∈ l
   unfold Yq
   rw[e]
   exact ih
  | some u =>
   rw[xX e]
   exact (Yb G hp ih e).2
theorem Qz(G:OG l ns k)(hp:∀ p ∈ ps,zS k l ns p.2 p.1=true/\(∀ c ∈ p.1,c ∈ l)/\∀ c ∈ p.2,c ∈ l)(hw:∀ c ∈ w,c ∈ l):∀ j,wAt ps w j=w\/zS k l ns (wAt ps w j) w=true
 | 0=>.inl rfl
 | j+1=>by
  have ih:=Qz G hp hw j
  have hm:=qC G hp hw j
  cases e:zA (wAt ps w j) ps with
  | none =>
   show Yq ps (wAt ps w j)=w\/zS k l ns (Yq ps (wAt ps w j)) w=true
   unfold Yq
   rw[e]
   exact ih
  | some u =>
   rw[xX e]
   have h:=(Yb G hp hm e).1
   rcases ih with h' | h'
   ·rw[h'] at h ⊢
    exact .inr h
   ·exact .inr (wV h h')
theorem ZP(G:OG l ns k)(hp:∀ p ∈ ps,zS k l ns p.2 p.1=true/\(∀ c ∈ p.1,c ∈ l)/\∀ c ∈ p.2,c ∈ l)(hw:∀ c ∈ w,c ∈ l){i:Nat}:∀{d:Nat},QS ps w (i+d+1)->zS k l ns (wAt ps w (i+d+1)) (wAt ps w i)=true
 | 0,h=>by
  cases e:zA (wAt ps w i) ps with
  | none=>exact absurd e (h i (by lia))
  | some u =>
   rw[Nat.add_zero,xX e]
   exact (Yb G hp (qC G hp hw i) e).1
 | d+1,h=>by
  have ih:=ZP G hp hw (i:=i) (d:=d) fun m hm=>h m (by lia)
  cases e:zA (wAt ps w (i+(d+1))) ps with
  | none=>exact absurd e (h _ (by lia))
  | some u =>
   rw[xX e]
   exact wV (Yb G hp (qC G hp hw _) e).1 ih
theorem Xo(G:OG l ns k)(hp:∀ p ∈ ps,zS k l ns p.2 p.1=true/\(∀ c ∈ p.1,c ∈ l)/\∀ c ∈ p.2,c ∈ l)(hw:∀ c ∈ w,c ∈ l){Ws:List (List Nat)}(hin:∀ v,(∀ c ∈ v,c ∈ l)->(v=w\/zS k l ns v w=true)->v ∈ Ws):∃ J,J<Ws.length/\QS ps w J/\zA (wAt ps w J) ps=none:=by
 have live:∀ N,(∃ J,J<N/\QS ps w J/\zA (wAt ps w J) ps=none)\/QS ps w N:=fun N=>by
  induction N with
  | zero=>exact .inr fun i hi=>absurd hi (cC i)
  | succ N ih =>
   rcases ih with ⟨J,h1,h2,h3⟩ | h
   ·exact .inl ⟨J,by lia,h2,h3⟩
   ·cases e:zA (wAt ps w N) ps with
    | none=>exact .inl ⟨N,by lia,h,e⟩
    | some u =>
     refine .inr fun i hi=>?_
     by_cases hi':i<N
     ·exact h i hi'
     ·have:i=N:=by lia
      rw[this,e]
      exact fun z=>by cases z
 rcases live Ws.length with h | h
 ·exact h
 ·have hn:((az (Ws.length+1)).map (wAt ps w)).Nodup:=by
   rw[bw,bO]
   refine List.Pairwise.imp_of_mem (fun {i j} hi hj hij e=>?_) cP
   rw[eS] at hi hj
   have:=ZP G hp hw (i:=i) (d:=j - i - 1) fun m hm=>h m (by lia)
   rw[show i+(j - i - 1)+1=j by lia,<- e,uf] at this
   cases this
  have:=ym hn (ys:=Ws) fun v hv=>by
   obtain⟨i,_,rfl⟩:=rG.mp hv
   exact hin _ (qC G hp hw i) (Qz G hp hw i)
  rw[aa,bP] at this
  lia
end
noncomputable def wlF(l:List Nat)(f:Nat->Nat):Nat->Nat->List (List Nat)
 | 0,_=>[[]]
 | n+1,W=>[]::l.flatMap fun c=>if f c<=W then (wlF l f n (W - f c)).map (c::·) else []
noncomputable def JX(fs:List Nat):Nat->Nat->Nat
 | 0,_=>1
 | n+1,W=>1+(fs.map fun x=>if x<=W then JX fs n (W - x) else 0).sum
theorem Xw(l:List Nat)(f:Nat->Nat):∀ n W,(wlF l f n W).length=JX (l.map f) n W
 | 0,_=>rfl
 | n+1,W=>by
  unfold wlF JX
  rw[aI,List.length_flatMap,dH,fm]
  congr 2
  refine bR fun c _=>?_
  show (if f c<=W then (wlF l f n (W - f c)).map (c::·) else []).length=_
  by_cases h:f c<=W
  ·rw[if_pos h,aa,Xw l f n]
   exact (if_pos h).symm
  ·rw[if_neg h]
   exact (if_neg h).symm
theorem WP{l:List Nat}{f:Nat->Nat}:∀{n W:Nat} {v:List Nat},(∀ c ∈ v,c ∈ l)->v.length<=n->(v.map f).sum<=W->v ∈ wlF l f n W
 | 0,W,v,_,hl,_=>by
  rw[rP.mp (Nat.le_zero.mp hl)]
  exact rE.mpr rfl
 | n+1,W,[],_,_,_=>aD
 | n+1,W,c::v,hv,hl,hs=>by
  rw[ax,aV] at hs
  refine aw _ (rQ.mpr ⟨c,hv c aD,?_⟩)
  rw[if_pos (by lia)]
  exact rG.mpr ⟨v,WP (fun d hd=>hv d (aw _ hd)) (by simpa using hl) (by lia),rfl⟩
noncomputable abbrev Wd:=List Nat
def InW(l w:Wd):Prop:=∀ c ∈ w,c ∈ l
noncomputable def mkB(b:Bool)(w:Wd)(c:Nat):Wd:=if b then c::w else w ++ [c]
theorem yY{b:Bool}{l w:Wd}{c:Nat}(h:InW l w)(hc:c ∈ l):InW l (mkB b w c):=fun x hx=>by
 unfold mkB at hx
 split at hx
 ·rcases rH.mp hx with rfl | hx
  ·exact hc
  ·exact h x hx
 ·rcases rF.mp hx with hx | hx
  ·exact h x hx
  ·rw[rE.mp hx];exact hc
structure ur(b:Bool)(l:Wd)(lt:Wd->Wd->Prop):Prop where
 irr:∀ u,¬ lt u u
 tr:∀{u v w:Wd},lt u v->lt v w->lt u w
 up:∀{u v:Wd} {c d:Nat},InW l u->InW l v->c ∈ l->d ∈ l->lt u v->lt (mkB b u c) (mkB b v d)
 nx:∀{u:Wd} {i j c d:Nat},InW l u->l[i]? = some c->l[j]? = some d->i<j->lt (mkB b u c) (mkB b u d)
 nil:∀{u:Wd} {c:Nat},InW l u->c ∈ l->lt [] (mkB b u c)
 cp:∀{p u v q:Wd},InW l p->InW l u->InW l v->InW l q->lt u v->lt (p ++ u ++ q) (p ++ v ++ q)
def Bef(a k i j:Nat):Prop:=a<i\/(a=i/\k<j)
structure Bfs(b:Bool)(l:Wd)(lt:Wd->Wd->Prop)(way:Wd->List Int)(W:List Wd)(R:List (Wd × Wd))(i j:Nat):Prop where
 w0:W[0]? = some []
 inl:∀ w ∈ W,InW l w
 asc:∀{a c:Nat} {u v:Wd},a<c->W[a]? = some u->W[c]? = some v->lt u v
 dif:∀{a c:Nat} {u v:Wd},W[a]? = some u->W[c]? = some v->way u=way v->a=c
 done:∀{a k:Nat} {u:Wd} {c:Nat},W[a]? = some u->l[k]? = some c->Bef a k i j->∃ w,w ∈ W/\way w=way (mkB b u c)/\(w=mkB b u c\/(lt w (mkB b u c)/\(mkB b u c,w) ∈ R))
 from_:∀ w ∈ W,w=[]\/∃(a k:Nat) (u:Wd) (c:Nat),W[a]? = some u/\l[k]? = some c/\Bef a k i j/\w=mkB b u c
 rul:∀ r ∈ R,InW l r.1/\r.2 ∈ W/\way r.2=way r.1/\lt r.2 r.1/\r.1≠[]/\r.1.length<=W.length
 cnt:W.length+R.length=1+i * l.length+j
 ln:∀{a:Nat} {w:Wd},W[a]? = some w->w.length<=a
section
variable{b:Bool}{l:Wd}{lt:Wd->Wd->Prop}{way:Wd->List Int}{W:List Wd}{R:List (Wd × Wd)}{i j:Nat}
theorem Jy(u:Wd)(c:Nat):mkB b u c≠[]:=by
 unfold mkB
 split <;> simp
theorem mkB_len'{b:Bool}{u:Wd}{c:Nat}:(mkB b u c).length=u.length+1:=by
 unfold mkB
 split <;> simp
theorem zbi:Bfs b l lt way [[]] [] 0 0:=by
 refine⟨rfl,fun w h c hc=>?_,fun {a c u v} h h1 h2=>?_,fun {a c u v} h1 h2 _=>?_,fun {a k u c} _ _ h=>?_,fun w h=>.inl (rE.mp h),fun r h=>(nomatch h),by simp,fun {a w} h=>by rw[rE.mp (ae h)];exact aP _⟩
 ·rw[rE.mp h] at hc;exact (nomatch hc)
 ·have:=(rD.mp h2).1
  simp at this
  lia
 ·have:=(rD.mp h1).1
  have:=(rD.mp h2).1
  simp at *
  lia
 ·unfold Bef at h;lia
theorem Bfs.fresh(O:ur b l lt)(h:Bfs b l lt way W R i j){u:Wd}{c:Nat}(hu:W[i]? = some u)(hc:l[j]? = some c):∀ w ∈ W,lt w (mkB b u c):=fun w hw=>by
 have hul:=h.inl u (ae hu)
 rcases h.from_ w hw with rfl | ⟨a,k,u',c',h1,h2,h3,rfl⟩
 ·exact O.nil hul (ae hc)
 ·rcases h3 with h3 | ⟨rfl,h3⟩
  ·exact O.up (h.inl u' (ae h1)) hul (ae h2) (ae hc) (h.asc h3 h1 hu)
  ·rw[hu] at h1
   cases h1
   exact O.nx hul h2 hc h3
theorem Bef.succ{a k:Nat}(h:Bef a k i (j+1)):Bef a k i j\/(a=i/\k=j):=by
 unfold Bef at *
 lia
theorem Bef.up{a k:Nat}(h:Bef a k i j):Bef a k i (j+1):=by
 unfold Bef at *
 lia
theorem Bfs.old(O:ur b l lt)(h:Bfs b l lt way W R i j){u w:Wd}{c:Nat}(hu:W[i]? = some u)(hc:l[j]? = some c)(hw:w ∈ W)(he:way w=way (mkB b u c)):Bfs b l lt way W (R ++ [(mkB b u c,w)]) i (j+1):=by
 have hlt:=h.fresh O hu hc w hw
 refine⟨h.w0,h.inl,h.asc,h.dif,fun {a k u' c'} h1 h2 h3=>?_,fun x hx=>?_,fun r hr=>?_,?_,h.ln⟩
 ·rcases h3.succ with h3 | ⟨rfl,rfl⟩
  ·obtain⟨x,a1,a2,a3⟩:=h.done h1 h2 h3
   exact⟨x,a1,a2,a3.imp id fun⟨p,q⟩=>⟨p,bf _ q⟩⟩
  ·rw[hu] at h1
   rw[hc] at h2
   cases h1
   cases h2
   exact⟨w,hw,he,.inr ⟨hlt,by simp⟩⟩
 ·rcases h.from_ x hx with e | ⟨a,k,u',c',h1,h2,h3,e⟩
  ·exact .inl e
  ·exact .inr ⟨a,k,u',c',h1,h2,h3.up,e⟩
 ·rcases rF.mp hr with hr | hr
  ·exact h.rul r hr
  ·rw[rE.mp hr]
   exact⟨yY (h.inl u (ae hu)) (ae hc),hw,he,hlt,Jy _ _,by rw[mkB_len'];have:=h.ln hu;have:=(rD.mp hu).1;lia⟩
 ·have:=h.cnt
  rw[am,cz]
  lia
theorem Bfs.new(O:ur b l lt)(h:Bfs b l lt way W R i j){u:Wd}{c:Nat}(hu:W[i]? = some u)(hc:l[j]? = some c)(hw:∀ w ∈ W,way w≠way (mkB b u c)):Bfs b l lt way (W ++ [mkB b u c]) R i (j+1):=by
 have hlt:=h.fresh O hu hc
 have lft:∀{a:Nat} {x:Wd},W[a]? = some x->(W ++ [mkB b u c])[a]? = some x:=fun {a x} e=>by
  rw[bc (rD.mp e).1];exact e
 have cas:∀{a:Nat} {x:Wd},(W ++ [mkB b u c])[a]? = some x->W[a]? = some x\/(a=W.length/\x=mkB b u c):=fun {a x} e=>by
  by_cases ha:a<W.length
  ·rw[bc ha] at e;exact .inl e
  ·have:=(rD.mp e).1
   rw[am,cz] at this
   have ea:a=W.length:=by lia
   subst ea
   rw[bo (ar _)] at e
   simp at e
   exact .inr ⟨rfl,e.symm⟩
 have hi:=(rD.mp hu).1
 have hi':Bef i j i (j+1):=by unfold Bef;lia
 refine⟨lft h.w0,fun w hw'=>?_,fun {a d x y} h1 h2 h3=>?_,fun {a d x y} h1 h2 h3=>?_,fun {a k x d} h1 h2 h3=>?_,fun x hx=>?_,fun r hr=>?_,?_,fun {a w} ha=>?_⟩
 ·rcases rF.mp hw' with q | q
  ·exact h.inl w q
  ·rw[rE.mp q]
   exact yY (h.inl u (ae hu)) (ae hc)
 ·rcases cas h2 with q | ⟨q,rfl⟩ <;> rcases cas h3 with q' | ⟨q',rfl⟩
  ·exact h.asc h1 q q'
  ·exact hlt x (ae q)
  ·have:=(rD.mp q').1
   lia
  ·lia
 ·rcases cas h1 with q | ⟨q,rfl⟩ <;> rcases cas h2 with q' | ⟨q',rfl⟩
  ·exact h.dif q q' h3
  ·exact absurd h3 (hw x (ae q))
  ·exact absurd h3.symm (hw y (ae q'))
  ·lia
 ·rcases cas h1 with q | ⟨q,rfl⟩
  ·rcases h3.succ with h3 | ⟨rfl,rfl⟩
   ·obtain⟨x',a1,a2,a3⟩:=h.done q h2 h3
    exact⟨x',bf _ a1,a2,a3⟩
   ·rw[hu] at q
    rw[hc] at h2
    cases q
    cases h2
    exact⟨_,by simp,rfl,.inl rfl⟩
  ·exfalso
   unfold Bef at h3
   lia
 ·rcases rF.mp hx with q | q
  ·rcases h.from_ x q with e | ⟨a,k,u',c',h1,h2,h3,e⟩
   ·exact .inl e
   ·exact .inr ⟨a,k,u',c',lft h1,h2,h3.up,e⟩
  ·exact .inr ⟨i,j,u,c,lft hu,hc,hi',rE.mp q⟩
 ·obtain⟨a1,a2,a3,a4,a5,a6⟩:=h.rul r hr
  exact⟨a1,bf _ a2,a3,a4,a5,by rw[am];lia⟩
 ·have:=h.cnt
  rw[am,cz]
  lia
 ·rcases cas ha with q | ⟨rfl,rfl⟩
  ·exact h.ln q
  ·rw[mkB_len']
   have:=h.ln hu
   lia
theorem Bfs.row(h:Bfs b l lt way W R i l.length):Bfs b l lt way W R (i+1) 0:=by
 have key:∀{a k c:Nat},l[k]? = some c->Bef a k (i+1) 0->Bef a k i l.length:=fun {a k c} hk hb=>by
  have:=(rD.mp hk).1
  unfold Bef at *
  lia
 refine⟨h.w0,h.inl,h.asc,h.dif,fun h1 h2 h3=>h.done h1 h2 (key h2 h3),fun x hx=>?_,h.rul,by have:=h.cnt;rw[dg];lia,h.ln⟩
 rcases h.from_ x hx with e | ⟨a,k,u',c',h1,h2,h3,e⟩
 ·exact .inl e
 ·refine .inr ⟨a,k,u',c',h1,h2,?_,e⟩
  unfold Bef at *
  lia
end
structure Lst(b:Bool)(l:Wd)(lt:Wd->Wd->Prop)(way:Wd->List Int)(W:List Wd)(R:List (Wd × Wd)):Prop where
 nil:[] ∈ W
 inl:∀ w ∈ W,InW l w
 asc:∀{a c:Nat} {u v:Wd},a<c->W[a]? = some u->W[c]? = some v->lt u v
 dif:∀{u v:Wd},u ∈ W->v ∈ W->way u=way v->u=v
 nd:W.Nodup
 done:∀{u:Wd} {c:Nat},u ∈ W->c ∈ l->∃ w,w ∈ W/\way w=way (mkB b u c)/\(w=mkB b u c\/(lt w (mkB b u c)/\(mkB b u c,w) ∈ R))
 rul:∀ r ∈ R,InW l r.1/\r.2 ∈ W/\way r.2=way r.1/\lt r.2 r.1/\r.1≠[]/\r.1.length<=W.length
 cnt:W.length+R.length=1+W.length * l.length
 ln:∀ w ∈ W,w.length<W.length
theorem Bfs.lst{b:Bool}{l:Wd}{lt:Wd->Wd->Prop}{way:Wd->List Int}{W:List Wd}{R:List (Wd × Wd)}{i:Nat}(O:ur b l lt)(h:Bfs b l lt way W R i 0)(hi:i=W.length):Lst b l lt way W R:=by
 subst hi
 refine⟨ae h.w0,h.inl,h.asc,fun {u v} hu hv e=>?_,?_,fun {u c} hu hc=>?_,h.rul,by have:=h.cnt;lia,fun w hw=>?_⟩
 ·obtain⟨a,ha⟩:=rO.mp hu
  obtain⟨c,hc⟩:=rO.mp hv
  have:=h.dif ha hc e
  subst this
  rw[ha] at hc
  exact Option.some.inj hc
 ·rw[bw,cH]
  intro a c ha hc hac e
  have:=h.asc hac (ag ha) (ag hc)
  rw[e] at this
  exact O.irr _ this
 ·obtain⟨a,ha⟩:=rO.mp hu
  obtain⟨k,hk⟩:=rO.mp hc
  exact h.done ha hk (.inl (rD.mp ha).1)
 ·obtain⟨a,ha⟩:=rO.mp hw
  have:=h.ln ha
  have:=(rD.mp ha).1
  lia
structure Act(l:Wd)(way:Wd->List Int):Prop where
 cp:∀{p u v q:Wd},InW l p->InW l u->InW l v->InW l q->way u=way v->way (p ++ u ++ q)=way (p ++ v ++ q)
theorem xa{l u v:Wd}(h1:InW l u)(h2:InW l v):InW l (u ++ v):=fun c hc=>(rF.mp hc).elim (h1 c) (h2 c)
theorem Act.mk'{l:Wd}{way:Wd->List Int}(A:Act l way){b:Bool}{u v:Wd}{c:Nat}(hu:InW l u)(hv:InW l v)(hc:c ∈ l)(e:way u=way v):way (mkB b u c)=way (mkB b v c):=by
 have h1:InW l [c]:=fun x hx=>by rw[rE.mp hx];exact hc
 have h0:InW l []:=fun x hx=>(nomatch hx)
 unfold mkB
 split
 ·have:=A.cp h1 hu hv h0 e
  simpa using this
 ·have:=A.cp h0 hu hv h1 e
  simpa using this
theorem jf{b:Bool}{l:Wd}{P:Wd->Prop}(h0:P [])(hs:∀ u c,InW l u->c ∈ l->P u->P (mkB b u c)):∀(n:Nat) (w:Wd),w.length=n->InW l w->P w
 | 0,w,h,_=>by rw[rP.mp h];exact h0
 | n+1,w,h,hw=>by
  cases b with
  | true =>
   cases w with
   | nil=>exact h0
   | cons c u =>
    have hu:InW l u:=fun x hx=>hw x (aw _ hx)
    exact hs u c hu (hw c aD) (jf h0 hs n u (by simpa using h) hu)
  | false =>
   rcases bZ w with e | ⟨u,c,e⟩
   ·rw[e];exact h0
   ·rw[cb] at e
    subst e
    have hu:InW l u:=fun x hx=>hw x (bf _ hx)
    exact hs u c hu (hw c (by simp)) (jf h0 hs n u (by simpa using h) hu)
section
variable{b:Bool}{l:Wd}{lt:Wd->Wd->Prop}{way:Wd->List Int}{W:List Wd}{R:List (Wd × Wd)}
theorem Lst.rep(O:ur b l lt)(A:Act l way)(h:Lst b l lt way W R){x:Wd}(hx:InW l x):∃ w ∈ W,way w=way x/\(w=x\/lt w x):=by
 refine jf (b:=b) (l:=l) (P:=fun x=>∃ w ∈ W,way w=way x/\(w=x\/lt w x)) ⟨[],h.nil,rfl,.inl rfl⟩ (fun u c hu hc ih=>?_) _ x rfl hx
 obtain⟨w,hw,e,o⟩:=ih
 obtain⟨w2,hw2,e2,o2⟩:=h.done hw hc
 have hwl:=h.inl w hw
 refine⟨w2,hw2,e2.trans (A.mk' hwl hu hc e),?_⟩
 have hmk:w=u\/lt (mkB b w c) (mkB b u c):=o.imp id fun q=>O.up hwl hu hc hc q
 rcases hmk with rfl | hmk
 ·exact o2.imp id fun q=>q.1
 ·rcases o2 with rfl | ⟨q,_⟩
  ·exact .inr hmk
  ·exact .inr (O.tr q hmk)
theorem Lst.no_use(O:ur b l lt)(A:Act l way)(h:Lst b l lt way W R){w p q:Wd}{r:Wd × Wd}(hw:w ∈ W)(hr:r ∈ R)(e:w=p ++ r.1 ++ q):False:=by
 have hwl:=h.inl w hw
 obtain⟨r1,r2,r3,r4,_⟩:=h.rul r hr
 have hp:InW l p:=fun c hc=>hwl c (by rw[e];simp [hc])
 have hq:InW l q:=fun c hc=>hwl c (by rw[e];simp [hc])
 have r2l:=h.inl _ r2
 have l1:=O.cp hp r2l r1 hq r4
 have w1:=A.cp hp r2l r1 hq r3
 rw[<- e] at l1 w1
 obtain⟨x,hx,ex,ox⟩:=h.rep O A (x:=p ++ r.2 ++ q) (xa (xa hp r2l) hq)
 have:=h.dif hx hw (ex.trans w1)
 subst this
 rcases ox with o | o
 ·rw[<- o] at l1
  exact O.irr _ l1
 ·exact O.irr _ (O.tr o l1)
theorem Lst.least(h:Lst b l lt way W R){x:Wd}(hx:InW l x)(hn:∀(p q:Wd) (r:Wd × Wd),r ∈ R->x≠p ++ r.1 ++ q):x ∈ W:=by
 revert hn
 refine jf (b:=b) (l:=l) (P:=fun x=>(∀(p q:Wd) (r:Wd × Wd),r ∈ R->x≠p ++ r.1 ++ q)->x ∈ W) (fun _=>h.nil) (fun u c hu hc ih hn=>?_) _ x rfl hx
 have hu':u ∈ W:=ih fun p q r hr e=>by
  subst e
  unfold mkB at hn
  cases b with
  | true=>exact hn (c::p) q r hr (by simp)
  | false=>exact hn p (q ++ [c]) r hr (by simp)
 obtain⟨w,hw,_,o⟩:=h.done hu' hc
 rcases o with rfl | ⟨_,o⟩
 ·exact hw
 ·exact absurd (by simp) (hn [] [] _ o)
end
noncomputable def zX(l:List Nat)(tab:List (List Int))(w:List Nat):List Int:=(az tab.length).map fun r:Nat=>wE l tab (r:Int) w
theorem wj(l:List Nat)(tab:List (List Int))(r:Int)(u v:List Nat):wE l tab r (u ++ v)=wE l tab (wE l tab r u) v:=List.foldl_append
theorem Jx{l:List Nat}{tab:List (List Int)}{u v:List Nat}(h:zX l tab u=zX l tab v){r:Int}(h0:0<=r)(h1:r<(tab.length:Int)):wE l tab r u=wE l tab r v:=by
 have:=congrArg (fun x:List Int=>x[r.toNat]?) h
 simp only[zX,au] at this
 rw[cL (by lia)] at this
 simp only[eJ,Option.some.injEq] at this
 rwa [dQ h0] at this
theorem Um{l:List Nat}{tab:List (List Int)}{u v:List Nat}(h:∀ r:Int,0<=r->r<(tab.length:Int)->wE l tab r u=wE l tab r v):zX l tab u=zX l tab v:=by
 unfold zX
 refine bR fun r hr=>h r (by lia) ?_
 have:=rJ.mp hr
 lia
theorem UA{l:List Nat}{tab:List (List Int)}(hG:zY l tab):Act l (zX l tab):=⟨fun {p u v q} hp hu hv hq e=>Um fun r h0 h1=>by
 obtain⟨a,b⟩:=uF hG (w:=p) h0 h1 hp
 rw[wj,wj,wj,wj,Jx e a b]⟩
theorem jw{s t:List Int}:∀{x y:List Int},x.length=y.length->ltI x y=true->ltI (x ++ s) (y ++ t)=true
 | [],[],_,h=>by cases h
 | [],_::_,h,_=>by cases h
 | _::_,[],h,_=>by cases h
 | a::x,b::y,hl,h=>by
  simp only[bp,ltI] at h ⊢
  by_cases e:a=b
  ·rw[if_pos e] at h ⊢
   exact jw (by simpa using hl) h
  ·rw[if_neg e] at h ⊢
   exact h
structure OE(l:List Nat)(ns:List Int)(k:Nat):Prop where
 g:OG l ns k
 e:∃ m:Int,1<=m/\∀ n ∈ ns,n=m
theorem kn{α:Type}{f:α->Int}{m:Int}:∀{x:List α},(∀ i ∈ x,f i=m)->(x.map f).sum=m * (x.length:Int)
 | [],_=>by simp
 | a::r,h=>by
  rw[ax,aV,h a (by simp),kn fun i hi=>h i (aw _ hi),aI]
  rw[show ((r.length+1:Nat):Int)=(r.length:Int)+1 by lia,Int.mul_add]
  lia
theorem OE.wl{l:List Nat}{ns:List Int}{k:Nat}(h:OE l ns k):∃ m:Int,1<=m/\∀{w:List Nat},(∀ c ∈ w,c ∈ l)->zt k l ns w=m * (w.length:Int):=by
 obtain⟨m,m1,hm⟩:=h.e
 by_cases hk:k=2
 ·refine⟨m,m1,fun {w} hw=>?_⟩
  rw[xg h.g hw,kn (m:=m)]
  ·rw[vk,aa]
  ·intro i hi
   obtain⟨c,hc,rfl⟩:=rG.mp hi
   unfold wt
   rw[if_pos hk,aL]
   have hlt:=aC (hw c hc)
   rw[aj,ag (by rw[h.g.nl];exact hlt)]
   exact hm _ (dD _)
 ·refine⟨1,by decide,fun {w} hw=>?_⟩
  unfold zt
  rw[if_neg hk]
  lia
theorem jh{l:List Nat}{k:Nat}{u:List Nat}{c:Nat}:qi k l (mkB (decide (k=1)) u c)=qi k l u ++ [((l.idxOf c:Nat):Int)]:=by
 unfold qi mkB yH
 by_cases h:k=1
 ·rw[if_pos (decide_eq_true h),if_pos h,if_pos h,d8,yB]
  rfl
 ·have hd:¬ decide (k=1)=true:=by simpa using h
  simp only[if_neg h,if_neg hd,yB]
  rfl
theorem Zv{l:List Nat}{k:Nat}{u:List Nat}:(qi k l u).length=u.length:=by
 unfold qi vk yH
 split <;> simp
theorem uJ{b:Bool}{u:List Nat}{c:Nat}:(mkB b u c).length=u.length+1:=by
 unfold mkB
 split <;> simp
theorem vv{l:List Nat}{ns:List Int}{k:Nat}(h:OE l ns k){u v:List Nat}(hu:InW l u)(hv:InW l v):zS k l ns u v=true ↔ u.length<v.length\/(u.length=v.length/\ltI (qi k l u) (qi k l v)=true):=by
 obtain⟨m,m1,hm⟩:=h.wl
 unfold zS
 rw[hm hu,hm hv]
 by_cases e:u.length=v.length
 ·rw[if_pos (by rw[e])]
  exact⟨fun q=>.inr ⟨e,q⟩,fun q=>q.elim (fun z=>by lia) fun z=>z.2⟩
 ·have ne:¬ m * (u.length:Int)=m * (v.length:Int):=fun z=>e (by have:=Int.eq_of_mul_eq_mul_left (by lia) z;lia)
  rw[if_neg ne,decide_eq_true_eq]
  constructor
  ·intro q
   refine .inl ?_
   have:=Int.lt_of_mul_lt_mul_left q (by lia)
   lia
  ·rintro (q | q)
   ·exact Int.mul_lt_mul_of_pos_left (by lia) (by lia)
   ·exact absurd q.1 e
theorem Ye:∀{l:List Nat} {i c:Nat},l.Nodup->l[i]? = some c->l.idxOf c=i
 | [],i,c,_,h=>by simp at h
 | a::l,0,c,_,h=>by
  cases h
  simp
 | a::l,i+1,c,hn,h=>by
  obtain⟨h1,h2⟩:=rN.mp hn
  have h':l[i]? = some c:=h
  have ne:a≠c:=fun z=>h1 (by rw[z];exact ae h')
  rw[eK,show (a == c)=false by simpa using ne,Ye h2 h']
  rfl
theorem vT{l:List Nat}{ns:List Int}{k:Nat}(h:OE l ns k)(lnd:l.Nodup):ur (decide (k=1)) l (fun u v=>zS k l ns u v=true/\InW l u/\InW l v):=by
 have idx:∀{i c:Nat},l[i]? = some c->l.idxOf c=i:=fun {i c} e=>Ye lnd e
 refine⟨fun u q=>?_,fun q q'=>⟨wV q.1 q'.1,q.2.1,q'.2.2⟩,fun {u v c d} hu hv hc hd q=>?_,fun {u i j c d} hu hi hj hij=>?_,fun {u c} hu hc=>?_,fun {p u v q} hp hu hv hq e=>?_⟩
 ·have:=q.1
  rw[uf] at this
  cases this
 ·refine⟨(vv h (yY hu hc) (yY hv hd)).mpr ?_,yY hu hc,yY hv hd⟩
  rw[uJ,uJ,jh,jh]
  rcases (vv h hu hv).mp q.1 with z | ⟨z,z'⟩
  ·exact .inl (by lia)
  ·exact .inr ⟨by lia,jw (by rw[Zv,Zv,z]) z'⟩
 ·have hc:=ae hi
  have hd:=ae hj
  refine⟨(vv h (yY hu hc) (yY hu hd)).mpr (.inr ⟨by rw[uJ,uJ],?_⟩),yY hu hc,yY hu hd⟩
  rw[jh,jh,uY,idx hi,idx hj]
  simp only[ltI]
  rw[if_neg (by lia)]
  exact decide_eq_true (by lia)
 ·have h0:InW l []:=fun x hx=>(nomatch hx)
  refine⟨(vv h h0 (yY hu hc)).mpr (.inl ?_),h0,yY hu hc⟩
  rw[uJ]
  exact Nat.succ_pos _
 ·obtain⟨e1,_,_⟩:=e
  refine⟨?_,xa (xa hp hu) hq,xa (xa hp hv) hq⟩
  rw[(vD h.g hq (xa hp hu) (xa hp hv)).2,(vD h.g hp hu hv).1]
  exact e1
noncomputable def it(f:Nat->Nat):Nat->Nat->Nat
 | 0,r=>r
 | j+1,r=>f (it f j r)
section
variable{f:Nat->Nat}{n:Nat}
theorem yz(a b r:Nat):it f (a+b) r=it f a (it f b r):=by
 induction a with
 | zero=>rw[er];rfl
 | succ a ih=>rw[Nat.succ_add];show f _=f _;rw[ih]
theorem VN(hf:∀ r,r<n->f r<n):∀(j:Nat) {r:Nat},r<n->it f j r<n
 | 0,_,h=>h
 | j+1,_,h=>hf _ (VN hf j h)
theorem Uc{d y:Nat}(h:it f d y=y):∀ q,it f (d * q) y=y
 | 0=>rfl
 | q+1=>by rw[Nat.mul_succ,yz,h,Uc h q]
theorem UZ(hn:n<=8)(hf:∀ r,r<n->f r<n){r:Nat}(hr:r<n):∃ d,d<8/\it f (d+1) (it f 8 r)=it f 8 r:=by
 have:¬ ((az 9).map fun j=>it f j r).Nodup:=fun h=>by
  have:=ym h (ys:=az n) fun x hx=>by
   obtain⟨j,_,rfl⟩:=rG.mp hx
   exact rJ.mpr (VN hf j hr)
  simp at this
  lia
 rw[bw,bO] at this
 have ex:∃ i j,i<j/\j<9/\it f i r=it f j r:=by
  refine Classical.byContradiction fun hc=>this ?_
  refine List.Pairwise.imp_of_mem (fun {i j} hi hj hij e=>hc ⟨i,j,hij,rJ.mp hj,e⟩) cP
 obtain⟨i,j,hij,hj,e⟩:=ex
 refine⟨j - i - 1,by lia,?_⟩
 rw[<- yz,show j - i - 1+1+8=(8 - i)+j by lia,yz,<- e,<- yz]
 congr 1
 lia
noncomputable def mp(f:Nat->Nat)(y:Nat):Nat:=(((az 8).find? fun d=>it f (d+1) y == y).map (· + 1)).getD 0
theorem Qb{y d:Nat}(hd:d<8)(h:it f (d+1) y=y):∃ e,e<8/\mp f y=e+1/\it f (e+1) y=y/\∀ a,a<e->it f (a+1) y≠y:=by
 unfold mp
 cases hq:(az 8).find? fun d=>it f (d+1) y == y with
 | none =>
  rw[fw] at hq
  have:=hq d (rJ.mpr hd)
  simp [h] at this
 | some e =>
  have h1:=rJ.mp (cI hq)
  have h2:=dJ hq
  refine⟨e,h1,rfl,by simpa using h2,fun a ha z=>?_⟩
  obtain⟨_,as,bs,eq,hn⟩:=List.find?_eq_some_iff_append.mp hq
  have hm:a ∈ as:=by
   have la:as.length=e:=by
    have g1:(az 8)[as.length]? = some e:=by rw[eq];simp
    rw[cL (by have:=(rD.mp g1).1;simpa using this)] at g1
    exact Option.some.inj g1
   have g2:(az 8)[a]? = some a:=cL (by lia)
   rw[eq,bc (by lia)] at g2
   exact ae g2
  have:=hn a hm
  simp [z] at this
theorem K7{y e:Nat}(he:e<8)(h:it f (e+1) y=y)(hm:∀ a,a<e->it f (a+1) y≠y):mp f y=e+1:=by
 obtain⟨e',h1,h2,h3,h4⟩:=Qb he h
 rcases Nat.lt_trichotomy e e' with q | q | q
 ·exact absurd h (h4 e q)
 ·rw[h2,q]
 ·exact absurd h3 (hm e' q)
theorem Xy(hf:∀ r,r<n->f r<n){y e:Nat}(hy:y<n)(he:e<8)(h:it f (e+1) y=y)(hm:∀ a,a<e->it f (a+1) y≠y):e+1<=((az n).filter fun x=>mp f x == e+1).length:=by
 have nd:((az (e+1)).map fun a=>it f a y).Nodup:=by
  rw[bw,bO]
  refine List.Pairwise.imp_of_mem (fun {a b} ha hb hab z=>?_) cP
  have ha:=rJ.mp ha
  have hb:=rJ.mp hb
  have z2:it f (e+1 - a) (it f a y)=it f (e+1 - a) (it f b y):=by rw[z]
  rw[<- yz,<- yz,show e+1 - a+a=e+1 by lia,show e+1 - a+b=(b - a)+(e+1) by lia,yz (b - a),h] at z2
  exact hm (b - a - 1) (by lia) (by rw[show b - a - 1+1=b - a by lia];exact z2.symm)
 have:=ym nd (ys:=(az n).filter fun x=>mp f x == e+1) fun x hx=>by
  obtain⟨a,ha,rfl⟩:=rG.mp hx
  have ha:=rJ.mp ha
  refine rM.mpr ⟨rJ.mpr (VN hf a hy),?_⟩
  rw[beq_iff_eq]
  refine K7 he ?_ fun c hc z=>?_
  ·rw[<- yz,fm,yz,h]
  ·have z2:it f (e+1 - a) (it f (c+1) (it f a y))=it f (e+1 - a) (it f a y):=by rw[z]
   rw[<- yz,<- yz,<- yz,show e+1 - a+(c+1)+a=(c+1)+(e+1) by lia,show e+1 - a+a=e+1 by lia,yz (c+1),h] at z2
   exact hm c hc z2
 rwa [aa,bP] at this
end
theorem Ug(v:Nat):∀ k,((az k).map fun d=>if v=d+1 then 1 else 0).sum<=if v<=k then 1 else 0
  | 0=>by simp
  | k+1=>by
    have ih:=Ug v k
    rw[cE,aE,de]
    simp only[ax,ba,aV,dI]
    split at ih <;> split <;> (try split) <;> lia
theorem Z9(g:Nat->Nat)(k:Nat):∀ xs:List Nat,((az k).map fun d=>(xs.filter fun x=>g x == d+1).length).sum<=xs.length
 | []=>by
  have:((az k).map fun d=>(([]:List Nat).filter fun x=>g x == d+1).length).sum=0:=by
   induction k with
   | zero=>rfl
   | succ k ih=>rw[cE,aE,de,ih];rfl
  rw[this]
  exact aP _
 | x::xs=>by
  have ih:=Z9 g k xs
  have key:∀ k,((az k).map fun d=>((x::xs).filter fun x=>g x == d+1).length).sum=((az k).map fun d=>if g x=d+1 then 1 else 0).sum+((az k).map fun d=>(xs.filter fun x=>g x == d+1).length).sum:=by
   intro k
   induction k with
   | zero=>rfl
   | succ k ih =>
    rw[cE,aE,aE,aE,de,de,de,ih]
    simp only[ax,ba,aV,dI]
    by_cases h:g x=k+1
    ·rw[eE (by simpa using h),aI,if_pos h]
     lia
    ·rw[eF (by simpa using h),if_neg h]
     lia
  rw[key,aI]
  have:=Ug (g x) k
  split at this <;> lia
noncomputable def lcB(b:List Bool):Nat:=((az 8).map fun d=>if b.getD d false then d+1 else 1).foldl Nat.lcm 1
noncomputable def suB(b:List Bool):Nat:=((az 8).map fun d=>if b.getD d false then d+1 else 0).sum
theorem Q4:∀ b0 b1 b2 b3 b4 b5 b6 b7:Bool,suB [b0,b1,b2,b3,b4,b5,b6,b7]<=8->(1<=lcB [b0,b1,b2,b3,b4,b5,b6,b7]/\lcB [b0,b1,b2,b3,b4,b5,b6,b7]<=15)/\∀ d,d<8->([b0,b1,b2,b3,b4,b5,b6,b7]:List Bool).getD d false=true->lcB [b0,b1,b2,b3,b4,b5,b6,b7] % (d+1)=0:=by symm
theorem Xk{f:Nat->Nat}{n:Nat}(hn:n<=8)(hf:∀ r,r<n->f r<n):∃ P,1<=P/\P<=15/\∀ r,r<n->it f (P+8) r=it f 8 r:=by
 let b:Nat->Bool:=fun d=>decide (0<((az n).filter fun x=>mp f x == d+1).length)
 have cl:=Z9 (mp f) 8 (az n)
 rw[bP] at cl
 have big:∀ d,d<8->b d=true->d+1<=((az n).filter fun x=>mp f x == d+1).length:=fun d hd hb=>by
  have hp:=of_decide_eq_true hb
  obtain⟨y,hy⟩:=List.exists_mem_of_length_pos hp
  obtain⟨h1,h2⟩:=rM.mp hy
  have h2:mp f y=d+1:=by simpa using h2
  have hyn:=rJ.mp h1
  have:∃ e,e<8/\it f (e+1) y=y:=by
   unfold mp at h2
   cases hq:(az 8).find? fun d=>it f (d+1) y == y with
   | none=>rw[hq] at h2;simp at h2
   | some e=>exact⟨e,rJ.mp (cI hq),by simpa using dJ hq⟩
  obtain⟨e,he,hee⟩:=this
  obtain⟨e',a1,a2,a3,a4⟩:=Qb he hee
  have:e'=d:=by lia
  subst this
  exact Xy hf hyn a1 a3 a4
 have su:suB [b 0,b 1,b 2,b 3,b 4,b 5,b 6,b 7]<=8:=by
  have e8:az 8=[0,1,2,3,4,5,6,7]:=rfl
  unfold suB
  rw[e8] at cl ⊢
  simp only[ax,ba,aV,dI] at cl ⊢
  have t:∀ d,d<8->(if b d=true then d+1 else 0)<=((az n).filter fun x=>mp f x == d+1).length:=fun d hd=>by
   split
   ·rename_i h;exact big d hd h
   ·exact aP _
  have t0:=t 0 (by decide);have t1:=t 1 (by decide);have t2:=t 2 (by decide);have t3:=t 3 (by decide)
  have t4:=t 4 (by decide);have t5:=t 5 (by decide);have t6:=t 6 (by decide);have t7:=t 7 (by decide)
  simp only[fg,List.getD_cons_succ] at *
  lia
 obtain⟨⟨p1,p15⟩,dv⟩:=Q4 _ _ _ _ _ _ _ _ su
 refine⟨_,p1,p15,fun r hr=>?_⟩
 obtain⟨d,hd,h⟩:=UZ hn hf hr
 have hyn:=VN hf 8 hr
 obtain⟨e,he,h1,h2,h3⟩:=Qb hd h
 have hb:b e=true:=decide_eq_true (bT (rM.mpr ⟨rJ.mpr hyn,by rw[beq_iff_eq];exact h1⟩))
 have hdv:=dv e he (by
  match e,he with
  | 0,_=>exact hb
  | 1,_=>exact hb
  | 2,_=>exact hb
  | 3,_=>exact hb
  | 4,_=>exact hb
  | 5,_=>exact hb
  | 6,_=>exact hb
  | 7,_=>exact hb)
 rw[yz]
 have:=Uc h2 (lcB [b 0,b 1,b 2,b 3,b 4,b 5,b 6,b 7] / (e+1))
 rwa [Nat.mul_div_cancel' (Nat.dvd_of_mod_eq_zero hdv)] at this
noncomputable def QE(n:Nat):Nat->List (List Int)
 | 0=>[[]]
 | k+1=>(QE n k).flatMap fun x=>(az n).map fun a:Nat=>(a:Int)::x
theorem Z7(n:Nat):∀ k,(QE n k).length=n ^ k
 | 0=>rfl
 | k+1=>by
  have key:∀(xs:List (List Int)),(xs.flatMap fun x=>(az n).map fun a:Nat=>(a:Int)::x).length=xs.length * n:=fun xs=>by
   induction xs with
   | nil=>simp
   | cons x xs ih=>rw[cS,am,ih,aa,bP,aI,dg];lia
  unfold QE
  rw[key,Z7 n k,Nat.pow_succ]
theorem Z2{n:Nat}:∀{k:Nat} {x:List Int},x.length=k->(∀ a ∈ x,0<=a/\a<(n:Int))->x ∈ QE n k
 | 0,x,h,_=>by rw[rP.mp h];exact rE.mpr rfl
 | k+1,[],h,_=>by cases h
 | k+1,a::x,h,ha=>by
  refine rQ.mpr ⟨x,Z2 (by simpa using h) fun b hb=>ha b (aw _ hb),rG.mpr ⟨a.toNat,?_,?_⟩⟩
  ·have:=ha a aD
   exact rJ.mpr (by lia)
  ·have:=ha a aD
   rw[dQ this.1]
section
variable{b:Bool}{l:List Nat}{lt:List Nat->List Nat->Prop}{tab:List (List Int)}{W:List (List Nat)}{R:List (List Nat × List Nat)}
theorem Ux(hG:zY l tab){w:List Nat}(hw:InW l w):zX l tab w ∈ QE tab.length tab.length:=by
 refine Z2 (by simp [zX]) fun a ha=>?_
 obtain⟨r,hr,rfl⟩:=rG.mp ha
 have:=rJ.mp hr
 exact uF hG (by lia) (by lia) hw
theorem Lst.ways_nd{way:List Nat->List Int}(h:Lst b l lt way W R):(W.map way).Nodup:=by
 rw[bw,bO]
 exact List.Pairwise.imp_of_mem (fun {u v} hu hv hne e=>hne (h.dif hu hv e)) (List.nodup_iff_pairwise_ne.mp h.nd)
theorem few(hG:zY l tab)(hnd:(W.map (zX l tab)).Nodup)(hin:∀ w ∈ W,InW l w):W.length<=tab.length ^ tab.length:=by
 have:=ym hnd (ys:=QE tab.length tab.length) fun x hx=>by
  obtain⟨w,hw,rfl⟩:=rG.mp hx
  exact Ux hG (hin w hw)
 rwa [aa,Z7] at this
theorem WS{c:Nat}:∀{w:List Nat},InW [c] w->w=ak w.length c
 | [],_=>rfl
 | a::w,h=>by
  have h1:=rE.mp (h a aD)
  rw[aI,aU,h1,<- WS (w:=w) fun x hx=>h x (aw _ hx)]
theorem qY{c:Nat}(hG:zY [c] tab):∀(j:Nat) {r:Nat},r<tab.length->wE [c] tab (r:Int) (ak j c)=((it (fun r=>(ww [c] tab (r:Int) c).toNat) j r:Nat):Int)/\it (fun r=>(ww [c] tab (r:Int) c).toNat) j r<tab.length
 | 0,r,h=>⟨rfl,h⟩
 | j+1,r,h=>by
  obtain⟨e,hl⟩:=qY hG j h
  have hs:=jz hG (r:=((it (fun r=>(ww [c] tab (r:Int) c).toNat) j r:Nat):Int)) (by lia) (by lia) (c:=c) (by simp)
  refine⟨?_,?_⟩
  ·rw[eX,wj,e]
   show ww [c] tab _ c=_
   show _=(((ww [c] tab ((it _ j r:Nat):Int) c).toNat:Nat):Int)
   rw[dQ hs.1]
  ·show (ww [c] tab ((it _ j r:Nat):Int) c).toNat<tab.length
   lia
theorem za5{c:Nat}(hG:zY [c] tab)(hnd:(W.map (zX [c] tab)).Nodup)(hin:∀ w ∈ W,InW [c] w):W.length<=23:=by
 have hf:∀ r,r<tab.length->(ww [c] tab (r:Int) c).toNat<tab.length:=fun r hr=>by
  have:=jz hG (r:=(r:Int)) (by lia) (by lia) (c:=c) (by simp)
  lia
 obtain⟨P,p1,p15,hP⟩:=Xk hG.hi hf
 have per:∀ j,zX [c] tab (ak (j+(P+8)) c)=zX [c] tab (ak (j+8) c):=fun j=>Um fun r h0 h1=>by
  obtain⟨n,rfl⟩:=bv h0
  have hn:n<tab.length:=by lia
  rw[(qY hG (j+(P+8)) hn).1,(qY hG (j+8) hn).1,yz j (P+8),yz j 8,hP n hn]
 have low:∀(m j:Nat),j<=m->∃ i,i<P+8/\zX [c] tab (ak j c)=zX [c] tab (ak i c):=by
  intro m
  induction m with
  | zero=>intro j hj;exact⟨j,by lia,rfl⟩
  | succ m ih =>
   intro j hj
   by_cases hl:j<P+8
   ·exact⟨j,hl,rfl⟩
   ·obtain⟨i,hi,e⟩:=ih (j - P) (by lia)
    refine⟨i,hi,?_⟩
    have:=per (j - (P+8))
    rw[show j - (P+8)+(P+8)=j by lia,show j - (P+8)+8=j - P by lia] at this
    rw[this,e]
 have:=ym hnd (ys:=(az (P+8)).map fun i=>zX [c] tab (ak i c)) fun x hx=>by
  obtain⟨w,hw,rfl⟩:=rG.mp hx
  rw[WS (hin w hw)]
  obtain⟨i,hi,e⟩:=low _ w.length (ar _)
  exact rG.mpr ⟨i,rJ.mpr hi,e.symm⟩
 rw[aa,aa,bP] at this
 lia
end
theorem Bfs.ways_nd{b:Bool}{l:List Nat}{lt:List Nat->List Nat->Prop}{way:List Nat->List Int}{W:List (List Nat)}{R:List (List Nat × List Nat)}{i j:Nat}(h:Bfs b l lt way W R i j):(W.map way).Nodup:=by
 rw[bw,bO,cH]
 intro a c ha hc hac e
 have:=h.dif (ag ha) (ag hc) e
 lia
def Q6(l:List Nat)(tab:List (List Int)):Prop:=∀ W:List (List Nat),(W.map (zX l tab)).Nodup->(∀ w ∈ W,InW l w)->W.length<=27
theorem W7{l:List Nat}{tab:List (List Int)}(hG:zY l tab)(h:l.length=1\/tab.length<=3):Q6 l tab:=fun W hnd hin=>by
 rcases h with h | h
 ·match l,h with
  | [c],_ =>
   have:=za5 hG hnd hin
   lia
 ·have:=few hG hnd hin
  have h1:=hG.lo
  have:tab.length=1\/tab.length=2\/tab.length=3:=by lia
  rcases this with e | e | e <;> rw[e] at this <;> lia
theorem UC{ps:List zB}{x:List Nat}(hN:NeL ps):Sh ps x=true ↔ ∀(p q:List Nat) (r:zB),r ∈ ps->x≠p ++ r.1 ++ q:=by
 unfold Sh
 rw[List.isEmpty_iff]
 constructor
 ·intro h p q r hr e
  obtain⟨j,hj⟩:=rO.mp hr
  have hs:zx x (p.length:Int) r.1=true:=by
   unfold zx
   refine decide_eq_true ⟨by lia,?_,?_⟩
   ·rw[e];simp only[am];lia
   ·rw[e,aL,bN,List.drop_left,List.take_left]
  have hlt:=qh (hN r hr) hs
  have:(j,p.length) ∈ yo x ps x.length:=usesK_mem.mpr ⟨hlt,by show stJ x ps p.length j=true;rw[qH hj];exact hs⟩
  rw[h] at this
  exact (nomatch this)
 ·intro h
  cases hu:yo x ps x.length with
  | nil=>rfl
  | cons u us =>
   have hm:u ∈ yo x ps x.length:=by rw[hu];exact aD
   obtain⟨_,h2⟩:=usesK_mem.mp hm
   obtain⟨_,p,hp,hs⟩:=wz h2
   exact absurd (jd hs).symm (h _ _ p (ae hp))
section
variable{b:Bool}{l:List Nat}{lt:List Nat->List Nat->Prop}{way:List Nat->List Int}{W:List (List Nat)}{R ps:List (List Nat × List Nat)}
theorem Lst.sh(O:ur b l lt)(A:Act l way)(h:Lst b l lt way W R)(hps:∀ r,r ∈ ps ↔ r ∈ R){x:List Nat}(hx:InW l x):Sh ps x=decide (x ∈ W):=by
 have hN:NeL ps:=fun r hr=>(h.rul r ((hps r).mp hr)).2.2.2.2.1
 rw[cf,decide_eq_true_eq,UC hN]
 constructor
 ·intro q
  exact h.least hx fun p s r hr=>q p s r ((hps r).mpr hr)
 ·intro q p s r hr e
  exact h.no_use O A q ((hps r).mp hr) e
theorem Lst.pre(O:ur b l lt)(A:Act l way)(h:Lst b l lt way W R){p x q:List Nat}(hx:p ++ x ++ q ∈ W):x ∈ W:=by
 have hl:=h.inl _ hx
 refine h.least (fun c hc=>hl c (by simp [hc])) fun a d r hr e=>h.no_use O A (p:=p ++ a) (q:=d ++ q) hx hr ?_
 rw[e]
 simp
noncomputable def lev(W:List (List Nat))(l:List Nat):Nat->List (List Nat)
 | 0=>[[]]
 | i+1=>(lev W l i).flatMap (ch W l)
noncomputable def yg(W:List (List Nat))(l:List Nat):List (List Nat):=(az W.length).flatMap (lev W l)
theorem ch_mem{M:List (List Nat)}{m x:List Nat}:x ∈ ch M l m ↔ ∃ c ∈ l,m ++ [c] ∈ M/\x=m ++ [c]:=by
 unfold ch
 simp only[List.mem_map,List.mem_filter,decide_eq_true_eq]
 exact⟨fun⟨c,⟨h1,h2⟩,e⟩=>⟨c,h1,h2,e.symm⟩,fun⟨c,h1,h2,e⟩=>⟨c,⟨h1,h2⟩,e.symm⟩⟩
theorem xp(O:ur b l lt)(A:Act l way)(h:Lst b l lt way W R):∀{i:Nat} {x:List Nat},x ∈ lev W l i ↔ x ∈ W/\x.length=i
 | 0,x=>by
  show x ∈ [[]] ↔ _
  rw[dZ]
  exact⟨fun e=>by rw[e];exact⟨h.nil,rfl⟩,fun e=>rP.mp e.2⟩
 | i+1,x=>by
  show x ∈ (lev W l i).flatMap (ch W l) ↔ _
  rw[eA]
  constructor
  ·rintro⟨m,hm,hx⟩
   obtain⟨c,_,h2,rfl⟩:=ch_mem.mp hx
   have:=((xp O A h).mp hm).2
   exact⟨h2,by rw[am,this];rfl⟩
  ·rintro⟨hx,hl⟩
   rcases bZ x with e | ⟨u,c,e⟩
   ·rw[e] at hl;cases hl
   ·rw[cb] at e
    subst e
    have hu:u ∈ W:=h.pre O A (p:=[]) (q:=[c]) hx
    exact⟨u,(xp O A h).mpr ⟨hu,by simpa using hl⟩,ch_mem.mpr ⟨c,h.inl _ hx c (by simp),hx,rfl⟩⟩
theorem yt(O:ur b l lt)(A:Act l way)(h:Lst b l lt way W R){x:List Nat}:x ∈ yg W l ↔ x ∈ W:=by
 unfold yg
 rw[eA]
 exact⟨fun⟨i,_,hx⟩=>((xp O A h).mp hx).1,fun hx=>⟨x.length,rJ.mpr (h.ln x hx),(xp O A h).mpr ⟨hx,rfl⟩⟩⟩
def kLt(l:List Nat)(u v:List Nat):Prop:=u.length<v.length\/(u.length=v.length/\ltI (vk l u) (vk l v)=true)
theorem ZS(O:ur b l lt)(A:Act l way)(h:Lst b l lt way W R)(lnd:l.Nodup):∀ i,(lev W l i).Pairwise (kLt l)
 | 0=>dm _ _
 | i+1=>by
  show ((lev W l i).flatMap (ch W l)).Pairwise (kLt l)
  rw[eU]
  refine⟨fun m hm=>?_,?_⟩
  ·unfold ch
   rw[bO]
   refine List.Pairwise.filter _ ?_
   rw[cH]
   intro a c ha hc hac
   refine .inr ⟨by simp,?_⟩
   rw[yB,yB,uY]
   show ltI [((l.idxOf l[a]:Nat):Int)] [((l.idxOf l[c]:Nat):Int)]=true
   rw[Ye lnd (ag ha),Ye lnd (ag hc)]
   simp only[ltI]
   rw[if_neg (by lia)]
   exact decide_eq_true (by lia)
  ·refine List.Pairwise.imp_of_mem (fun {u v} hu hv huv x hx y hy=>?_) (ZS O A h lnd i)
   obtain⟨c,_,_,rfl⟩:=ch_mem.mp hx
   obtain⟨d,_,_,rfl⟩:=ch_mem.mp hy
   have lu:=((xp O A h).mp hu).2
   have lv:=((xp O A h).mp hv).2
   refine .inr ⟨by simp [lu,lv],?_⟩
   rw[yB,yB]
   rcases huv with q | q
   ·lia
   ·exact jw (by rw[vk,vk,aa,aa];lia) q.2
theorem j7(O:ur b l lt)(A:Act l way)(h:Lst b l lt way W R)(lnd:l.Nodup):(yg W l).Pairwise (kLt l):=by
 unfold yg
 rw[eU]
 refine⟨fun i _=>ZS O A h lnd i,List.Pairwise.imp (fun {i j} hij x hx y hy=>?_) cP⟩
 have lu:=((xp O A h).mp hx).2
 have lv:=((xp O A h).mp hy).2
 exact .inl (by lia)
theorem Uw{u:List Nat}(h:kLt l u u):False:=by
 rcases h with h | h
 ·lia
 ·rw[yD] at h
  cases h.2
theorem kT(O:ur b l lt)(A:Act l way)(h:Lst b l lt way W R)(lnd:l.Nodup):(yg W l).Nodup:=by
 rw[bw]
 exact (j7 O A h lnd).imp fun {u v} q e=>by rw[e] at q;exact Uw q
theorem vq(O:ur b l lt)(A:Act l way)(h:Lst b l lt way W R)(lnd:l.Nodup):(yg W l).Perm W :=
 (List.perm_ext_iff_of_nodup (kT O A h lnd) h.nd).mpr fun x=>yt O A h
theorem Vi(O:ur b l lt)(A:Act l way)(h:Lst b l lt way W R)(lnd:l.Nodup):Fam l (yg W l) ((yg W l).flatMap fun u=>(l.filter fun c=>decide (u ++ [c] ∉ W)).map fun c=>u ++ [c]):=by
 have mm:∀{x},x ∈ yg W l ↔ x ∈ W:=fun {x}=>yt O A h
 refine⟨mm.mpr h.nil,fun u c hu=>?_,fun u c hu hc _=>?_,fun w hw=>?_,?_,fun w hw=>?_,kT O A h lnd⟩
 ·have hu:=mm.mp hu
  refine⟨mm.mpr (h.pre O A (p:=[]) (q:=[c]) hu),h.inl _ hu c (by simp),mm.mpr ?_⟩
  cases he:u ++ [c] with
  | nil=>exact h.nil
  | cons a r =>
   rw[he] at hu
   exact h.pre O A (p:=[a]) (x:=r) (q:=[]) (by simpa using hu)
 ·by_cases hm:u ++ [c] ∈ W
  ·exact .inl (mm.mpr hm)
  ·exact .inr (rQ.mpr ⟨u,hu,rG.mpr ⟨c,rM.mpr ⟨hc,decide_eq_true hm⟩,rfl⟩⟩)
 ·obtain⟨u,hu,hw⟩:=rQ.mp hw
  obtain⟨c,hc,rfl⟩:=rG.mp hw
  obtain⟨h1,h2⟩:=rM.mp hc
  exact⟨fun z=>of_decide_eq_true h2 (mm.mp z),u,c,rfl,hu,h1⟩
 ·have e1:(yg W l).flatMap (ch (yg W l) l)=(yg W l).flatMap (ch W l):=Zt fun u _=>KG fun c _=>mm
  have e2:(yg W l).flatMap (ch W l)=(az W.length).flatMap fun i=>lev W l (i+1):=by
   unfold yg
   rw[List.flatMap_assoc]
   rfl
  have e3:[]::((az W.length).flatMap fun i=>lev W l (i+1))=(az (W.length+1)).flatMap (lev W l):=by
   rw[dt,cS,List.flatMap_map]
   rfl
  have e4:lev W l W.length=[]:=List.eq_nil_iff_forall_not_mem.mpr fun x hx=>by
   have:=(xp O A h).mp hx
   have:=h.ln x this.1
   lia
  rw[e1,e2,e3,cE,bF,dz,e4,aX]
  rfl
 ·have:=h.ln w (mm.mp hw)
  rw[(vq O A h lnd).length_eq]
  exact this
theorem Lst.sw(O:ur b l lt)(A:Act l way)(h:Lst b l lt way W R)(lnd:l.Nodup)(hps:∀ r,r ∈ ps ↔ r ∈ R)(n:Nat):swF (Sh ps) l n (n+2) [] [[]]=if n<W.length then none else some (yg W l):=by
 rw[UD (Vi O A h lnd) (fun m hm c hc=>?_) n,(vq O A h lnd).length_eq]
 have hml:=h.inl m ((yt O A h).mp hm)
 rw[h.sh O A hps (xa hml fun x hx=>by rw[rE.mp hx];exact hc)]
 exact decide_eq_decide.mpr (yt O A h).symm
end
noncomputable def wA(W:List (List Nat))(way:List Nat->List Int)(x:List Nat):List Nat:=W.getD ((W.map way).idxOf (way x)) []
section
variable{b:Bool}{l:List Nat}{lt:List Nat->List Nat->Prop}{way:List Nat->List Int}{W:List (List Nat)}{R ps:List (List Nat × List Nat)}
theorem Lst.rep_at(O:ur b l lt)(A:Act l way)(h:Lst b l lt way W R){x:List Nat}(hx:InW l x):∃ w,W[(W.map way).idxOf (way x)]? = some w/\way w=way x/\wA W way x=w/\(W.map way).idxOf (way x)<W.length:=by
 obtain⟨w,hw,e,_⟩:=h.rep O A hx
 have hm:way x ∈ W.map way:=rG.mpr ⟨w,hw,e⟩
 have hlt:=aC hm
 have hlt':(W.map way).idxOf (way x)<W.length:=by simpa using hlt
 have g:(W.map way)[(W.map way).idxOf (way x)]? = some (way x):=by rw[ag hlt,bq]
 rw[au] at g
 obtain⟨w',h1,h2⟩:=rK.mp g
 refine⟨w',h1,h2,?_,hlt'⟩
 unfold wA
 rw[aj,h1]
 rfl
theorem Lst.rep_is(O:ur b l lt)(A:Act l way)(h:Lst b l lt way W R){x:List Nat}(hx:InW l x):wA W way x ∈ W/\way (wA W way x)=way x:=by
 obtain⟨w,h1,h2,h3,_⟩:=h.rep_at O A hx
 rw[h3]
 exact⟨ae h1,h2⟩
theorem Lst.rep_eq(O:ur b l lt)(A:Act l way)(h:Lst b l lt way W R){x w:List Nat}(hx:InW l x)(hw:w ∈ W)(e:way w=way x):wA W way x=w:=by
 obtain⟨h1,h2⟩:=h.rep_is O A hx
 exact h.dif h1 hw (h2.trans e.symm)
theorem Xd{x y:List Nat}(e:way x=way y):wA W way x=wA W way y:=by
 unfold wA
 rw[e]
theorem Lst.at_way(A:Act l way)(h:Lst b l lt way W R)(hps:∀ r,r ∈ ps ↔ r ∈ R){w:List Nat}(hw:InW l w):∀ j,InW l (wAt ps w j)/\way (wAt ps w j)=way w
 | 0=>⟨hw,rfl⟩
 | j+1=>by
  obtain⟨h1,h2⟩:=h.at_way A hps hw j
  cases e:zA (wAt ps w j) ps with
  | none =>
   show InW l (Yq ps (wAt ps w j))/\way (Yq ps (wAt ps w j))=way w
   unfold Yq
   rw[e]
   exact⟨h1,h2⟩
  | some u =>
   rw[xX e]
   obtain⟨p,q1,q2⟩:=ZJ e
   have e1:=jd q2
   obtain⟨r1,r2,r3,r4,r5⟩:=h.rul p ((hps p).mp (ae q1))
   unfold Wq QG
   rw[qc q1,aL]
   have ha:InW l ((wAt ps w j).take u.2):=fun c hc=>h1 c (cj hc)
   have hb:InW l ((wAt ps w j).drop (u.2+p.1.length)):=fun c hc=>h1 c (cY hc)
   refine⟨xa (xa ha (h.inl _ r2)) hb,?_⟩
   rw[A.cp ha (h.inl _ r2) r1 hb r3,e1]
   exact h2
end
def xf(m L:Nat):Prop:=(m=1/\L<=40)\/(m=2/\L<=8)\/(m=3/\L<=6)\/(m=4/\L<=5)\/(m=5/\L<=5)\/(m=6/\L<=4)
theorem Wf:∀ l:List Nat,l.map (fun _:Nat=>1)=ak l.length 1
 | []=>rfl
 | _::l=>by rw[ax,Wf l,aI,aU]
theorem Wj:∀ l:List Nat,(l.map (fun _:Nat=>1)).sum=l.length
 | []=>rfl
 | _::l=>by rw[ax,aV,Wj l,aI];lia
theorem Xg{l:List Nat}{L:Nat}(h:xf l.length L):∃ Ws:List (List Nat),Ws.length<=3906/\∀ v,InW l v->v.length<=L->v ∈ Ws:=by
 have key:∀(m n:Nat),l.length=m->JX (ak m 1) n n<=3906->L<=n->∃ Ws:List (List Nat),Ws.length<=3906/\∀ v,InW l v->v.length<=L->v ∈ Ws:=fun m n hm hc hn=>by
  refine⟨wlF l (fun _=>1) n n,?_,fun v hv hl=>WP hv (by lia) (by rw[Wj];lia)⟩
  rw[Xw,Wf,hm]
  exact hc
 rcases h with ⟨h1,h2⟩ | ⟨h1,h2⟩ | ⟨h1,h2⟩ | ⟨h1,h2⟩ | ⟨h1,h2⟩ | ⟨h1,h2⟩
 ·exact key 1 40 h1 (by symm) h2
 ·exact key 2 8 h1 (by symm) h2
 ·exact key 3 6 h1 (by symm) h2
 ·exact key 4 5 h1 (by symm) h2
 ·exact key 5 5 h1 (by symm) h2
 ·exact key 6 4 h1 (by symm) h2
abbrev ltO(k:Nat)(l:List Nat)(ns:List Int):List Nat->List Nat->Prop:=fun u v=>zS k l ns u v=true/\InW l u/\InW l v
section
variable{k:Nat}{l:List Nat}{ns:List Int}{way:List Nat->List Int}{W:List (List Nat)}{R ps:List (List Nat × List Nat)}
theorem U1(h:OE l ns k)(lnd:l.Nodup)(A:Act l way)(L:Lst (decide (k=1)) l (ltO k l ns) way W R)(hps:∀ r,r ∈ ps ↔ r ∈ R){w:List Nat}(hw:InW l w)(hs:xf l.length w.length):∃ J,J<=4000/\Rd ps w J/\zA (wAt ps w J) ps=none/\wAt ps w J=wA W way w:=by
 have O:=vT h lnd
 have hp:∀ p ∈ ps,zS k l ns p.2 p.1=true/\(∀ c ∈ p.1,c ∈ l)/\∀ c ∈ p.2,c ∈ l:=fun p hp=>by
  obtain⟨r1,r2,_,r4,_⟩:=L.rul p ((hps p).mp hp)
  exact⟨r4.1,r1,L.inl _ r2⟩
 have le_of:∀ v,InW l v->(v=w\/zS k l ns v w=true)->v.length<=w.length:=fun v hv q=>by
  rcases q with rfl | q
  ·exact ar _
  ·rcases (vv h hv hw).mp q with z | z
   ·lia
   ·lia
 obtain⟨Ws,w1,w2⟩:=Xg hs
 obtain⟨J,hJ,hl,he⟩:=Xo h.g hp hw (Ws:=Ws) fun v hv q=>w2 v hv (le_of v hv q)
 have hl40:w.length<=40:=by unfold xf at hs;lia
 refine⟨J,by lia,⟨hl,fun j _=>?_,by lia⟩,he,?_⟩
 ·have:=le_of _ (qC h.g hp hw j) (Qz h.g hp hw j)
  lia
 ·obtain⟨a1,a2⟩:=L.at_way A hps hw J
  have sh:Sh ps (wAt ps w J)=true:=by
   unfold Sh
   unfold zA at he
   rw[List.isEmpty_iff]
   exact rZ.mp he
  rw[L.sh O A hps a1] at sh
  exact (L.rep_eq O A hw (of_decide_eq_true sh) a2).symm
end
theorem XQ:∀{l:List (List Nat)} {i:Nat} {c:List Nat},l.Nodup->l[i]? = some c->l.idxOf c=i
 | [],i,c,_,h=>by simp at h
 | a::l,0,c,_,h=>by
  cases h
  simp
 | a::l,i+1,c,hn,h=>by
  obtain⟨h1,h2⟩:=rN.mp hn
  have h':l[i]? = some c:=h
  have ne:a≠c:=fun z=>h1 (by rw[z];exact ae h')
  rw[eK,show (a == c)=false by simpa using ne,XQ h2 h']
  rfl
section
variable{k:Nat}{l:List Nat}{ns:List Int}{way:List Nat->List Int}{W:List (List Nat)}{R ps:List (List Nat × List Nat)}
theorem xZ(h:OE l ns k)(lnd:l.Nodup)(A:Act l way)(L:Lst (decide (k=1)) l (ltO k l ns) way W R)(hf:∀ w ∈ W,∀ c ∈ l,YK ps (w ++ [c])=wA W way (w ++ [c])){r:Nat}{m:List Nat}(hr:(yg W l)[r]? = some m):∀(n:Nat) {w:List Nat},w.length=n->InW l w->wE l ((yg W l).map (kz ps l (yg W l))) (r:Int) w=(((yg W l).idxOf (wA W way (m ++ w)):Nat):Int):=by
 have O:=vT h lnd
 have mm:∀{x},x ∈ yg W l ↔ x ∈ W:=fun {x}=>yt O A L
 have hmW:m ∈ W:=mm.mp (ae hr)
 have hml:=L.inl m hmW
 intro n
 induction n with
 | zero =>
  intro w hn hw
  rw[rP.mp hn,aX,L.rep_eq O A hml hmW rfl,XQ (kT O A L lnd) hr]
  rfl
 | succ n ih =>
  intro w hn hw
  rcases bZ w with e | ⟨u,c,e⟩
  ·rw[e] at hn;cases hn
  ·rw[cb] at e
   subst e
   have hu:InW l u:=fun x hx=>hw x (bf _ hx)
   have hc:c ∈ l:=hw c (by simp)
   have hmu:=xa hml hu
   rw[wj,ih (by simpa using hn) hu]
   obtain⟨q1,q2⟩:=L.rep_is O A hmu
   have hx:=mm.mpr q1
   have hlt:=aC hx
   show ww l _ _ c=_
   unfold ww
   have e1:((yg W l).map (kz ps l (yg W l))).getD ((yg W l).idxOf (wA W way (m ++ u))) []=kz ps l (yg W l) (wA W way (m ++ u)):=by
    rw[aj,au,ag hlt,bq]
    rfl
   rw[aL,e1]
   unfold kz
   have hcl:=aC hc
   rw[aj,au,ag hcl,bq]
   simp only[eJ,dC]
   rw[hf _ q1 c hc]
   suffices e2:wA W way (wA W way (m ++ u) ++ [c])=wA W way (m ++ (u ++ [c])) by rw[e2]
   refine Xd ?_
   rw[<- bN]
   have h0:InW l []:=fun x hx=>(nomatch hx)
   have h1:InW l [c]:=fun x hx=>by rw[rE.mp hx];exact hc
   have:=A.cp h0 (L.inl _ q1) hmu h1 q2
   simpa using this
theorem kE(h:OE l ns k)(lnd:l.Nodup)(A:Act l way)(L:Lst (decide (k=1)) l (ltO k l ns) way W R):(yg W l)[0]? = some []:=by
 have hl:=bT L.nil
 unfold yg
 rw[show W.length=(W.length - 1)+1 by lia,dt,cS]
 rfl
theorem ky(h:OE l ns k)(lnd:l.Nodup)(A:Act l way)(L:Lst (decide (k=1)) l (ltO k l ns) way W R)(hf:∀ w ∈ W,∀ c ∈ l,YK ps (w ++ [c])=wA W way (w ++ [c])){u v:List Nat}(hu:InW l u)(hv:InW l v)(e:way u=way v):xv l ((yg W l).map (kz ps l (yg W l))) u v=none:=by
 refine jR fun j hj=>?_
 rw[aa] at hj
 have hr:=ag hj
 rw[xZ h lnd A L hf hr _ rfl hu,xZ h lnd A L hf hr _ rfl hv]
 have hml:=L.inl _ ((yt (vT h lnd) A L).mp (dD hj))
 have h0:InW l []:=fun x hx=>(nomatch hx)
 have:=A.cp hml hu hv h0 e
 simp only[aX] at this
 rw[Xd this]
theorem YR(h:OE l ns k)(lnd:l.Nodup)(A:Act l way)(L:Lst (decide (k=1)) l (ltO k l ns) way W R)(hf:∀ w ∈ W,∀ c ∈ l,YK ps (w ++ [c])=wA W way (w ++ [c])){u v:List Nat}(hu:InW l u)(hv:InW l v)(e:way u≠way v):xv l ((yg W l).map (kz ps l (yg W l))) u v=some 0:=by
 have O:=vT h lnd
 have hr:=kE h lnd A L
 refine j5 (by rw[aa];exact (rD.mp hr).1) ?_ fun j hj=>absurd hj (cC _)
 rw[xZ h lnd A L hf hr _ rfl hu,xZ h lnd A L hf hr _ rfl hv,cA,cA]
 intro z
 obtain⟨p1,p2⟩:=L.rep_is O A hu
 obtain⟨q1,q2⟩:=L.rep_is O A hv
 have m1:=(yt O A L).mpr p1
 have m2:=(yt O A L).mpr q1
 have z':(yg W l).idxOf (wA W way u)=(yg W l).idxOf (wA W way v):=by lia
 have g1:=bq (aC m1)
 have g2:=bq (aC m2)
 have:wA W way u=wA W way v:=by
  rw[<- g1,<- g2]
  congr 1
 rw[this,q2] at p2
 exact e p2.symm
end
def x0:Sp:=fun vs H Q _=>∃(ls:List Nat) (c m:Int),vs=[.str (tx ls),.int c,.int m]/\1<=ls.length/\ls.length<=26/\0<=m/\m<=1000/\∀ l:List Nat,(l.length:Int)=m->(∀ x ∈ l,x ∈ ls)->Q (.str (tx l)) H
theorem WX{ls:List Nat}{c m:Int}{H:Hp}{Q:VK}{E:XK}(h1:1<=ls.length)(h2:ls.length<=26)(h3:0<=m)(h4:m<=1000)(h:∀ l:List Nat,(l.length:Int)=m->(∀ x ∈ l,x ∈ ls)->Q (.str (tx l)) H):x0 [.str (tx ls),.int c,.int m] H Q E :=
 ⟨ls,c,m,rfl,h1,h2,h3,h4,h⟩
theorem gN:zm ["_law_letters_here","_law_cell","_law_size","_law_found","_law_number","_law_k"] ["_law_letters_here","_law_cell","_law_size"] (ze Wm):=by nofun
theorem VP{f:Addr}{fd:FuncData}(B:Bt mg)(F:Fun K "_law_word" "_law_word" Wm f fd):FnOk P w K mg base CX0 1 f fd ["_law_letters_here","_law_cell","_law_size"] x0:=by
 refine F.ok gN (fun vs H Q E h=>?_) (fun cdv A outer s H vs Q E hr h=>?_)
 ·obtain⟨ls,c,m,rfl,_⟩:=h
  rfl
 ·obtain⟨ls,c,m,rfl,h1,h2,h3,h4,q⟩:=h
  refine⟨_,(zn (zk (i:=3) gN.nd rfl (.inl rfl) yh)
   (zn (zP (zE op_ge' (pv 1) (zv Wn zi zi) (zy _))
    (zn (zk (i:=4) gN.nd rfl (.inl rfl) (zv xq (pv 1) (zv Wn zi zi)))
    (zn (zZ PassesOwn.never rfl (yv rfl B.range (za (pv 2) zc)) (zp (i:=5) gN.nd rfl (.inl rfl))
     (zn (zk (i:=3) gN.nd rfl (.inl rfl) (zv zL (pv 3) (zV kB (pv 0) (zv yj (pv 4) (zo zW rfl B.len aB (za (pv 0) zc))) (fun _ _=>rfl))))
     (zd (zk (i:=4) gN.nd rfl (.inl rfl) (zv xq (pv 4) (zo zW rfl B.len aB (za (pv 0) zc)))))))
    (zd (zq (pv 3)))))
    zu)
   (zn (zk (i:=4) gN.nd rfl (.inl rfl) (zv zL (zv yj (pv 1) zi) zi))
   (zn (zZ PassesOwn.never rfl (yv rfl B.range (za (pv 2) zc)) (zp (i:=5) gN.nd rfl (.inl rfl))
    (zn (zk (i:=4) gN.nd rfl (.inl rfl) (zv yj (zv qT (pv 4) zi) zi))
    (zd (zk (i:=3) gN.nd rfl (.inl rfl) (zv zL (pv 3) (zV kB (pv 0) (zv yj (zv xq (pv 4) zi) (zo zW rfl B.len aB (za (pv 0) zc))) (fun _ _=>rfl)))))))
   (zd (zq (pv 3))))))),?_⟩
  have s16:=ye
  rfl'
  refine⟨⟨by decide,by decide,by decide⟩,xx (fun _=>⟨⟨by decide,by decide,by decide⟩,⟨by decide,by decide⟩,by lia,by lia,ForR.by (fun i σ H'=>H'=H/\∃(found:List Nat) (number:Int) (v5:Option V),σ=[some (.str (tx ls)),some (.int c),some (.int m),some (.str (tx found)),some (.int number),v5]/\found.length=i/\∀ x ∈ found,x ∈ ls)
   ⟨rfl,[],_,none,rfl,rfl,fun x h=>absurd h (by simp)⟩ ?_ ?_⟩) fun _=>⟨by decide,by lia,by lia,ForR.by (fun i σ H'=>H'=H/\∃(found:List Nat) (number:Int) (v5:Option V),σ=[some (.str (tx ls)),some (.int c),some (.int m),some (.str (tx found)),some (.int number),v5]/\found.length=i/\∀ x ∈ found,x ∈ ls)
   ⟨rfl,[],_,none,rfl,rfl,fun x h=>absurd h (by simp)⟩ ?_ ?_⟩⟩
  ·rintro i σ H' hi ⟨rfl,found,number,v5,rfl,hf,hm⟩
   rfl'
   have hm0:=bt number (b:=(ls.length:Int)) (by lia)
   have hm1:=aY number (b:=(ls.length:Int)) (by lia)
   obtain⟨v,e1,e2⟩:=vg hm0 hm1
   refine⟨by lia,by lia,by lia,v,e1,by lia,by lia,⟨by lia,by lia⟩,by rw[am,hf];rfl,fun x hx=>?_⟩
   rcases rF.mp hx with h | h
   ·exact hm x h
   ·have:x=v:=by simpa using h
    rw[this]
    exact ae e2
  ·rintro σ H' ⟨rfl,found,number,v5,rfl,hf,hm⟩
   rfl'
   exact q found (by lia) hm
  ·rintro i σ H' hi ⟨rfl,found,number,v5,rfl,hf,hm⟩
   rfl'
   have hm0:=bt (number * 48271 % 2147483647 / 16) (b:=(ls.length:Int)) (by lia)
   have hm1:=aY (number * 48271 % 2147483647 / 16) (b:=(ls.length:Int)) (by lia)
   obtain⟨v,e1,e2⟩:=vg hm0 hm1
   refine⟨.inr (by lia),by decide,⟨by decide,by decide⟩,by lia,by lia,by lia,v,e1,by lia,by rw[am,hf];rfl,fun x hx=>?_⟩
   rcases rF.mp hx with h | h
   ·exact hm x h
   ·have:x=v:=by simpa using h
    rw[this]
    exact ae e2
  ·rintro σ H' ⟨rfl,found,number,v5,rfl,hf,hm⟩
   rfl'
   exact q found (by lia) hm
theorem TabAt.updN{H:Hp}{t p:Addr}{o:HO}{rs:List Addr}{tab:List (List Int)}(h:TabAt H t rs tab)(h1:p≠t)(h2:p ∉ rs):TabAt (upd H p o) t rs tab:=by
 refine⟨by rw[zh h1.symm];exact h.top,h.len,fun i r x e1 e2=>?_⟩
 rw[zh (fun e=>h2 (by rw[<- e];exact ae e1))]
 exact h.row i r x e1 e2
theorem TabAt.snoc{H:Hp}{t r:Addr}{rs:List Addr}{tab:List (List Int)}{x:List Int}(h:TabAt H t rs tab)(ht:t ∉ rs)(hr:H r=some (.lst (x.map V.int)))(hne:r≠t):TabAt (upd H t (.lst (rs.map V.ref ++ [.ref r]))) t (rs ++ [r]) (tab ++ [x]):=by
 have hl:=h.len
 refine⟨by rw[zb,aE];rfl,by rw[am,am,hl];rfl,fun i r' x' e1 e2=>?_⟩
 by_cases hi:i<rs.length
 ·rw[bc hi] at e1
  rw[bc (by lia)] at e2
  rw[zh (fun e=>ht (by rw[<- e];exact ae e1))]
  exact h.row i r' x' e1 e2
 ·have hi':i=rs.length:=by
   have:=(rD.mp e1).1
   simp at this
   lia
  subst hi'
  rw[bo (by lia),fv] at e1
  rw[bo (by lia),show rs.length - tab.length=0 by lia] at e2
  cases e1
  cases e2
  rw[zh hne]
  exact hr
theorem YO{l:List Nat}{n:Nat}{tab:List (List Int)}(h1:1<=n)(h8:n<=8)(hl:tab.length=n)(h:∀ x ∈ tab,x.length=l.length/\∀ z ∈ x,0<=z/\z<(n:Int)):zY l tab:=⟨by lia,by lia,fun x hx=>(h x hx).1,fun x hx z hz=>by rw[hl];exact (h x hx).2 z hz⟩
def qW:Sp:=fun vs H Q _=>∃(m n:Nat) (c:Int),vs=[.int (m:Nat),.int (n:Nat),.int c]/\1<=n/\n<=8/\m<=26/\∀(t:Addr) (rs:List Addr) (tab:List (List Int)) (H':Hp),Same H H'->TabAt H' t rs tab->tab.length=n->(∀ x ∈ tab,x.length=m/\∀ z ∈ x,0<=z/\z<(n:Int))->Q (.ref t) H'
def TbO(H:Hp)(m n:Nat)(c:Int)(g:Bool)(t:Addr)(i:Nat)(σ:L2.St)(H':Hp):Prop:=∃(rs:List Addr) (tab:List (List Int)) (z:Int) (v6 v7 v8:Option V),Same H H'/\TabAt H' t rs tab/\tab.length=i/\(∀ x ∈ tab,x.length=m/\∀ z ∈ x,0<=z/\z<(n:Int))/\(∀ r ∈ rs,H r=none)/\t ∉ rs/\σ=[some (.int (m:Nat)),some (.int (n:Nat)),some (.int c),some (.bl g),some (.int z),some (.ref t),v6,v7,v8]
def TbN(H':Hp)(m n:Nat)(c:Int)(g:Bool)(t r:Addr)(v6:Option V)(j:Nat)(σ:L2.St)(H'':Hp):Prop:=∃(x:List Int) (z:Int) (v8:Option V),Same H' H''/\H'' r=some (.lst (x.map V.int))/\x.length=j/\(∀ z ∈ x,0<=z/\z<(n:Int))/\σ=[some (.int (m:Nat)),some (.int (n:Nat)),some (.int c),some (.bl g),some (.int z),some (.ref t),v6,some (.ref r),v8]
theorem gu:zm ["_law_many","_law_rooms_here","_law_cell","_law_great","_law_number","_law_table_here","_law_room","_law_row","_law_k"] ["_law_many","_law_rooms_here","_law_cell"] (ze kY):=by nofun
theorem W1{f:Addr}{fd:FuncData}(B:Bt mg)(F:Fun K "_law_table" "_law_table" kY f fd) : FnOk P w K mg base CX0 1 f fd ["_law_many","_law_rooms_here","_law_cell"] qW:=by
 refine F.ok gu (fun vs H Q E h=>?_) (fun cdv A outer s H vs Q E hr h=>?_)
 ·obtain⟨m,n,c,rfl,_⟩:=h
  rfl
 ·obtain⟨m,n,c,rfl,n1,n8,m26,q⟩:=h
  refine⟨_,(zg (zk (i:=3) gu.nd rfl (.inl rfl) (yK op_ge' (pv 2) (zv Wn zi zi) (zy _)))
   (zg (zk (i:=4) gu.nd rfl (.inl rfl) (zv zL (zv yj (pv 2) zi) zi))
   (zg (zP (vb (pv 3) (fun _=>rfl))
    (zd (zk (i:=4) gu.nd rfl (.inl rfl) (pv 2)))
    zu)
   (zg (zk (i:=5) gu.nd rfl (.inl rfl) (xu zc))
   (zg (zZ PassesOwn.never rfl (yv rfl B.range (za (pv 1) zc)) (zp (i:=6) gu.nd rfl (.inl rfl))
    (zn (zk (i:=7) gu.nd rfl (.inl rfl) (xu zc))
    (zn (zZ PassesOwn.never rfl (yv rfl B.range (za (pv 0) zc)) (zp (i:=8) gu.nd rfl (.inl rfl))
     (zd (zP (vb (pv 3) (fun _=>rfl))
      (zn (yS (yL aK bh bi z7 (pv 7) (za (zv yj (pv 4) (pv 1)) zc)))
      (zd (zk (i:=4) gu.nd rfl (.inl rfl) (zv xq (pv 4) (pv 1)))))
      (zn (zk (i:=4) gu.nd rfl (.inl rfl) (zv yj (zv qT (pv 4) zi) zi))
      (zd (yS (yL aK bh bi z7 (pv 7) (za (zv yj (zv xq (pv 4) zi) (pv 1)) zc))))))))
    (zd (yS (yL aK bh bi z7 (pv 5) (za (pv 7) zc)))))))
   (zd (zq (pv 5)))))))),?_⟩
  have s16:=ye
  have s16:=ye
  refine zj (fun σ H'=>H'=H/\∃ g:Bool,σ=[some (.int (m:Nat)),some (.int (n:Nat)),some (.int c),some (.bl g),none,none,none,none,none]) ?_ ?_
  ·rfl'
   exact⟨by decide,by decide,by decide⟩
  rintro σ H1 ⟨rfl,g,rfl⟩
  refine zj (fun σ H'=>H'=H1/\∃ z:Int,σ=[some (.int (m:Nat)),some (.int (n:Nat)),some (.int c),some (.bl g),some (.int z),none,none,none,none]) ?_ ?_
  ·rfl'
   decide
  rintro σ H1 ⟨rfl,z,rfl⟩
  refine zj (fun σ H'=>H'=H1/\∃ z:Int,σ=[some (.int (m:Nat)),some (.int (n:Nat)),some (.int c),some (.bl g),some (.int z),none,none,none,none]) ?_ ?_
  ·rfl'
   cases g <;> simp
  rintro σ H1 ⟨rfl,z,rfl⟩
  refine zj (fun σ H'=>∃ t:Addr,H1 t=none/\TbO H1 m n c g t 0 σ H') ?_ ?_
  ·rfl'
   exact⟨by lia,fun t ht=>⟨t,ht,[],[],_,_,_,_,zf ht,⟨zb,rfl,fun i r x e=>by simp at e⟩,rfl,fun x h=>(nomatch h),fun x h=>(nomatch h),fun h=>(nomatch h),rfl⟩⟩
  rintro σ H2 ⟨t,ht,h0⟩
  obtain⟨rs0,tab0,z0,v60,v70,v80,hs0,hT0,htl0,htab0,hf0,htn0,rfl⟩:=id h0
  refine zj (fun σ H'=>TbO H1 m n c g t n σ H') ?_ ?_
  ·rfl'
   refine⟨by lia,by lia,?_⟩
   rw[show ((n:Nat):Int).toNat=n from rfl]
   refine ForR.by (fun i σ H'=>TbO H1 m n c g t i σ H') h0 ?_ ?_
   ·rintro i σ H' hi ⟨rs,tab,z,v6,v7,v8,hs,hT,htl,htab,hf,htn,rfl⟩
    simp only[yN]
    rfl'
    refine⟨by lia,fun r hr=>⟨by lia,by lia,?_⟩⟩
    have hrt:r≠t:=fun e=>by rw[e,hT.top] at hr;cases hr
    have hrH:H1 r=none:=hs.free hr
    have hl:=hT.len
    rw[show ((m:Nat):Int).toNat=m from rfl]
    refine ForR.by (fun j σ H''=>TbN H' m n c g t r (some (.int (0+(i:Int)))) j σ H'') ⟨[],_,_,zf hr,zb,rfl,fun x h=>(nomatch h),rfl⟩ ?_ ?_
    ·rintro j σ H'' hj ⟨x,z,v8,hs2,hx,hxl,hxb,rfl⟩
     have fin:∀(y z:Int) (v8:Option V),TbN H' m n c g t r (some (.int (0+(i:Int)))) (j+1) [some (.int (m:Nat)),some (.int (n:Nat)),some (.int c),some (.bl g),some (.int z),some (.ref t),some (.int (0+(i:Int))),some (.ref r),v8] (upd H'' r (.lst (x.map V.int ++ [V.int (y % (n:Int))]))):=fun y z v8=>by
      refine⟨x ++ [y % (n:Int)],z,v8,zF hs2 hr,by rw[zb,aE];rfl,by rw[am,hxl];rfl,fun q hq=>?_,rfl⟩
      rcases rF.mp hq with h | h
      ·exact hxb q h
      ·rw[rE.mp h]
       exact⟨bt _ (by lia),aY _ (by lia)⟩
     simp only[yN,tBl]
     cases g
     ·rfl'
      exact⟨.inr ⟨by decide,by decide⟩,by decide,.inl ⟨_,SqL.of hx⟩,⟨by decide,by decide⟩,by lia,_,hx,by rw[aa];lia,fin _ _ _⟩
     ·rfl'
      exact⟨.inl ⟨_,SqL.of hx⟩,by lia,_,hx,by rw[aa];lia,⟨by lia,by lia⟩,fin _ _ _⟩
    ·rintro σ H'' ⟨x,z,v8,hs2,hx,hxl,hxb,rfl⟩
     have hT2:=hT.same hs2
     rfl'
     refine⟨.inl ⟨_,SqL.of hT2.top⟩,_,hT2.top,by rw[aa];lia,rs ++ [r],tab ++ [x],_,_,_,_,zF (hs.trans hs2) ht,hT2.snoc htn hx hrt,by rw[am,htl];rfl,fun y hy=>?_,fun y hy=>?_,fun hy=>?_,rfl⟩
     ·rcases rF.mp hy with h | h
      ·exact htab y h
      ·rw[rE.mp h]
       exact⟨hxl,hxb⟩
     ·rcases rF.mp hy with h | h
      ·exact hf y h
      ·rw[rE.mp h]
       exact hrH
     ·rcases rF.mp hy with h | h
      ·exact htn h
      ·exact hrt (rE.mp h).symm
   ·rintro σ H' h
    rfl'
    exact h
  rintro σ H3 ⟨rs,tab,z,v6,v7,v8,hs,hT,htl,htab,hf,htn,rfl⟩
  rfl'
  exact q t rs tab H3 hs hT htl htab
theorem VA{m n:Nat}{c:Int}{H:Hp}{Q:VK}{E:XK}(h1:1<=n)(h8:n<=8)(h26:m<=26)(q:∀(t:Addr) (rs:List Addr) (tab:List (List Int)) (H':Hp),Same H H'->TabAt H' t rs tab->tab.length=n->(∀ x ∈ tab,x.length=m/\∀ z ∈ x,0<=z/\z<(n:Int))->Q (.ref t) H'):qW [.int (m:Nat),.int (n:Nat),.int c] H Q E:=⟨m,n,c,rfl,h1,h8,h26,q⟩
def wq:Sp:=fun vs H Q _=>∃(t:Addr) (rs:List Addr) (tab:List (List Int)) (l w:List Nat),vs=[.ref t,.str (tx l),.str (tx w)]/\TabAt H t rs tab/\zY l tab/\InW l w/\∀(D:Addr) (H':Hp),Same H H'->H D=none->H' D=some (.lst ((zX l tab w).map V.int))->Q (.ref D) H'
theorem yI{t:Addr}{rs:List Addr}{tab:List (List Int)}{l w:List Nat}{H:Hp}{Q:VK}{E:XK}(h1:TabAt H t rs tab)(h2:zY l tab)(h3:InW l w)(q:∀(D:Addr) (H':Hp),Same H H'->H D=none->H' D=some (.lst ((zX l tab w).map V.int))->Q (.ref D) H'):wq [.ref t,.str (tx l),.str (tx w)] H Q E:=⟨t,rs,tab,l,w,rfl,h1,h2,h3,q⟩
def WyI(H:Hp)(t:Addr)(l:List Nat)(tab:List (List Int))(w:List Nat)(D:Addr)(i:Nat)(σ:L2.St)(H':Hp):Prop:=∃ v4 v5 v6,Same H H'/\H' D=some (.lst ((((az tab.length).take i).map fun r:Nat=>wE l tab (r:Int) w).map V.int))/\σ=[some (.ref t),some (.str (tx l)),some (.str (tx w)),some (.ref D),v4,v5,v6]
theorem my:zm ["_law_table_here","_law_letters_here","_law_word_here","_law_ways_here","_law_room","_law_at","_law_sign"] ["_law_table_here","_law_letters_here","_law_word_here"] (ze Wz):=by nofun
theorem U9{f:Addr}{fd:FuncData}(B:Bt mg)(F:Fun K "_law_ways" "_law_ways" Wz f fd) : FnOk P w K mg base CX0 1 f fd ["_law_table_here","_law_letters_here","_law_word_here"] wq:=by
 refine F.ok my (fun vs H Q E h=>?_) (fun cdv A outer s H vs Q E hr h=>?_)
 ·obtain⟨t,rs,tab,l,w,rfl,_⟩:=h
  rfl
 ·obtain⟨t,rs,tab,l,w,rfl,hT,hG,hw,q⟩:=h
  refine⟨_,(zg (zk (i:=3) my.nd rfl (.inl rfl) (xu zc))
   (zg (zZ PassesOwn.never rfl (yv rfl B.range (za (zo zW rfl B.len aB (za (pv 0) zc)) zc)) (zp (i:=4) my.nd rfl (.inl rfl))
    (zn (zk (i:=5) my.nd rfl (.inl rfl) (pv 4))
    (zn (zZ PassesOwn.never rfl (vz (pv 2)) (zp (i:=6) my.nd rfl (.inl rfl))
     (zd (zk (i:=5) my.nd rfl (.inl rfl) (zV ix_list (zV ix_list (pv 0) (pv 5) (fun _ _=>rfl)) (yL bx cT cU YS (pv 1) (za (pv 6) zc)) (fun _ _=>rfl)))))
    (zd (yS (yL aK bh bi z7 (pv 3) (za (pv 5) zc)))))))
   (zd (zq (pv 3))))),?_⟩
  have s16:=ye
  have s16:=ye
  have h8:=hG.hi
  have hl:=hT.len
  refine zj (fun σ H'=>∃ D:Addr,H D=none/\WyI H t l tab w D 0 σ H') ?_ ?_
  ·rfl'
   exact⟨by lia,fun D hD=>⟨D,hD,_,_,_,zf hD,zb,rfl⟩⟩
  rintro σ H1 ⟨D,hD,h0⟩
  obtain⟨v4,v5,v6,hs,hH,rfl⟩:=id h0
  refine zj (WyI H t l tab w D tab.length) ?_ ?_
  ·rfl'
   refine⟨_,.inl ⟨_,SqL.of (hT.same hs).top,rfl⟩,by rw[aa];lia,by rw[aa];lia,?_⟩
   rw[aa,show ((rs.length:Nat):Int).toNat=rs.length from rfl,hl]
   refine ForR.by (fun i σ H'=>WyI H t l tab w D i σ H') h0 ?_ ?_
   ·rintro i σ H' hi ⟨v4,v5,v6,hs,hH,rfl⟩
    have hT':=hT.same hs
    simp only[yN]
    rfl'
    refine ForS.by (fun j σ H''=>H''=H'/\∃ v6,σ=[some (.ref t),some (.str (tx l)),some (.str (tx w)),some (.ref D),some (.int (0+(i:Int))),some (.int (wE l tab (0+(i:Int)) (w.take j))),v6]) ⟨rfl,v6,rfl⟩ ?_ ?_
    ·rintro j c σ H'' hc ⟨rfl,v6,rfl⟩
     have hcl:=hw c (ae hc)
     obtain⟨a,b⟩:=uF hG (w:=w.take j) (r:=0+(i:Int)) (by lia) (by lia) fun x hx=>hw x (cj hx)
     obtain⟨r',x,e1,e2,e3⟩:=hT'.get a b
     simp only[yN]
     rfl'
     refine⟨_,SqL.of hT'.top,_,e1,r',rfl,_,SqL.of e3,?_⟩
     rw[Yc hcl,kd hc]
     exact V7 hG e2 hcl
    ·rintro σ H'' ⟨rfl,v6,rfl⟩
     rw[be]
     rfl'
     refine⟨.inl ⟨_,SqL.of hH⟩,_,hH,by rw[aa,aa,aO];lia,_,_,_,zF hs hD,?_,rfl⟩
     rw[zb,yb (cL hi),aE,aE,Int.zero_add]
     rfl
   ·rintro σ H' h
    rfl'
    exact h
  rintro σ H2 ⟨v4,v5,v6,hs,hH,rfl⟩
  rfl'
  refine q D H2 hs hD ?_
  rw[hH,bS (by rw[bP];exact ar _)]
  rfl
theorem Wl(x y:List Int):eqD (Yj x) (Yj y)=decide (x=y):=by
 show jG _ _=_
 exact uM x y
theorem VR{xs:List (List Int)}{y:List Int}:((xs.map Yj).any fun e=>eqD e (Yj y))=decide (y ∈ xs):=by
 rw[cf,List.any_eq_true,decide_eq_true_eq]
 constructor
 ·rintro⟨e,he,h⟩
  obtain⟨x,hx,rfl⟩:=rG.mp he
  rw[Wl,decide_eq_true_eq] at h
  rw[<- h];exact hx
 ·intro h
  exact⟨_,rG.mpr ⟨y,h,rfl⟩,by rw[Wl];exact decide_eq_true rfl⟩
theorem we{H:Hp}{p r:Addr}{rs:List Addr}{xs:List (List Int)}{y:List Int}{Q:VK}(hT:TabAt H p rs xs)(hr:H r=some (.lst (y.map V.int)))(hy:y ∈ xs)(hl:xs.length<=1000)(q:Q (.int (xs.idxOf y:Nat)) H):Jr K (.ref p) [.ref r] H Q:=by
 have hlt:=aC hy
 refine⟨p,xs.map Yj,.ref r,Yj y,xs.idxOf y,rfl,rfl,hT.is,?_,bX (YW xs) (by decide),by rw[aa];exact hl,⟨Yj y,?_,uu _⟩,fun j e hj he=>?_,q⟩
 ·simp only[Is]
  exact⟨r,_,rfl,SqL.of hr,Iss.ints y⟩
 ·rw[au,ag hlt,bq]
  rfl
 ·rw[au] at he
  obtain⟨x,hx,rfl⟩:=rK.mp he
  rw[Wl]
  refine decide_eq_false fun z=>?_
  have:=dw (p:=(· == y)) hj
  obtain⟨h3,h4⟩:=rD.mp hx
  rw[h4,z] at this
  simp at this
def u8(K:rC):Sp:=fun vs H Q _=>∃(t:Addr) (rs0:List Addr) (tab:List (List Int)) (l:List Nat) (b:Bool) (lt:List Nat->List Nat->Prop),vs=[.ref t,.str (tx l),.bl b]/\TabAt H t rs0 tab/\zY l tab/\vm l=true/\Q6 l tab/\ur b l lt /\
 ∀(W:List (List Nat)) (R:List (List Nat × List Nat)) (Dw Dy Dr p:Addr) (rs:List Addr) (H':Hp),Same H H'->Lst b l lt (zX l tab) W R->W.length<=27->H' p=some (.tup [.ref Dw,.ref Dy,.ref Dr])->H' Dw=some (.lst (tW W))->TabAt H' Dy rs (W.map (zX l tab))->LsA K H' Dr (R.map dR)->Q (.ref p) H'
structure L3s(K:rC)(H0:Hp)(l:List Nat)(tab:List (List Int))(W:List (List Nat))(R:List (List Nat × List Nat))(Dw Dy Dr:Addr)(rs:List Addr)(H':Hp):Prop where
 sm:Same H0 H'
 w:H' Dw=some (.lst (tW W))
 y:TabAt H' Dy rs (W.map (zX l tab))
 r:LsA K H' Dr (R.map dR)
 nw:H0 Dw=none
 ny:H0 Dy=none
 nr:H0 Dr=none
 wy:Dw≠Dy
 wr:Dw≠Dr
 yr:Dy≠Dr
 iw:Dw ∉ rs
 iy:Dy ∉ rs
 ir:Dr ∉ rs
def LtI(K:rC)(H0:Hp)(t:Addr)(l:List Nat)(tab:List (List Int))(b:Bool)(lt:List Nat->List Nat->Prop)(Dw Dy Dr:Addr)(i j:Nat)(σ:L2.St)(H':Hp):Prop:=∃(W:List (List Nat)) (R:List (List Nat × List Nat)) (rs:List Addr) (v7 v8 v9:Option V),Bfs b l lt (zX l tab) W R i j/\i<=W.length/\L3s K H0 l tab W R Dw Dy Dr rs H'/\σ=[some (.ref t),some (.str (tx l)),some (.bl b),some (.ref Dw),some (.ref Dy),some (.ref Dr),some (.int (i:Nat)),v7,v8,v9]
def LtJ(K:rC)(H0:Hp)(t:Addr)(l:List Nat)(tab:List (List Int))(b:Bool)(lt:List Nat->List Nat->Prop)(Dw Dy Dr:Addr)(i j:Nat)(σ:L2.St)(H':Hp):Prop:=∃(W:List (List Nat)) (R:List (List Nat × List Nat)) (rs:List Addr) (v7 v8 v9:Option V),Bfs b l lt (zX l tab) W R i j/\i<W.length/\L3s K H0 l tab W R Dw Dy Dr rs H'/\σ=[some (.ref t),some (.str (tx l)),some (.bl b),some (.ref Dw),some (.ref Dy),some (.ref Dr),some (.int (i:Nat)),v7,v8,v9]
def Lr0(K:rC)(H:Hp)(t:Addr)(l:List Nat)(tab:List (List Int))(b:Bool)(Dw Dy r0:Addr)(σ:L2.St)(H':Hp):Prop:=∃ Dr:Addr,L3s K H l tab [[]] [] Dw Dy Dr [r0] H'/\σ=[some (.ref t),some (.str (tx l)),some (.bl b),some (.ref Dw),some (.ref Dy),some (.ref Dr),none,none,none,none]
def LeE(K:rC)(H:Hp)(t:Addr)(l:List Nat)(tab:List (List Int))(b:Bool)(lt:List Nat->List Nat->Prop)(Dw Dy Dr:Addr)(σ:L2.St)(H':Hp):Prop:=∃(W:List (List Nat)) (R:List (List Nat × List Nat)) (rs:List Addr) (v6 v7 v8 v9:Option V),Lst b l lt (zX l tab) W R/\W.length<=27/\L3s K H l tab W R Dw Dy Dr rs H'/\σ=[some (.ref t),some (.str (tx l)),some (.bl b),some (.ref Dw),some (.ref Dy),some (.ref Dr),v6,v7,v8,v9]
section
variable{H0 H' H'':Hp}{l:List Nat}{tab:List (List Int)}{W:List (List Nat)}{R:List (List Nat × List Nat)}{Dw Dy Dr:Addr}{rs:List Addr}
theorem L3s.same(h:L3s K H0 l tab W R Dw Dy Dr rs H')(e:Same H' H''):L3s K H0 l tab W R Dw Dy Dr rs H'' :=
 ⟨h.sm.trans e,e _ _ h.w,h.y.same e,h.r.same e,h.nw,h.ny,h.nr,h.wy,h.wr,h.yr,h.iw,h.iy,h.ir⟩
theorem vU(R:List zB):yd (R.map dR):=by
 induction R with
 | nil=>simp [yd]
 | cons r R ih=>simp only[ax,yd];exact⟨by simp [dR,dS,uj,yd],ih⟩
theorem L3s.addR(h:L3s K H0 l tab W R Dw Dy Dr rs H'){p:Addr}{m w:List Nat}(hp:H' p=none){xs:List V}(hx:H' Dr=some (.lst xs))(hi:Iss K H' (R.map dR) xs):L3s K H0 l tab W (R ++ [(m,w)]) Dw Dy Dr rs (upd (upd H' p (.tup [.str (tx m),.str (tx w)])) Dr (.lst (xs ++ [.ref p]))):=by
 have sp:=zf (o:=.tup [.str (tx m),.str (tx w)]) hp
 refine⟨zF (h.sm.trans sp) h.nr,?_,(h.y.same sp).updN (Ne.symm h.yr) h.ir,?_,h.nw,h.ny,h.nr,h.wy,h.wr,h.yr,h.iw,h.iy,h.ir⟩
 ·rw[zh h.wr]
  exact sp _ _ h.w
 ·rw[aE]
  exact LsA.pushT hx hi hp (es:=[dS m,dS w]) (by simp only[Iss,Is,dS];exact⟨_,_,rfl,rfl,_,_,rfl,rfl,rfl⟩) (vU R) (by simp [dS,uj,yd])
theorem L3s.addW(h:L3s K H0 l tab W R Dw Dy Dr rs H'){r:Addr}{m:List Nat}(hr:H' r=some (.lst ((zX l tab m).map V.int)))(r1:r≠Dw)(r2:r≠Dy)(r3:r≠Dr):L3s K H0 l tab (W ++ [m]) R Dw Dy Dr (rs ++ [r]) (upd (upd H' Dw (.lst (tW W ++ [.str (tx m)]))) Dy (.lst (rs.map V.ref ++ [.ref r]))):=by
 have hY:=h.y.updN (o:=.lst (tW W ++ [.str (tx m)])) h.wy h.iw
 refine⟨zF (zF h.sm h.nw) h.ny,?_,?_,?_,h.nw,h.ny,h.nr,h.wy,h.wr,h.yr,fun z=>?_,fun z=>?_,fun z=>?_⟩
 ·rw[zh h.wy,zb]
  simp [tW]
 ·rw[aE]
  exact hY.snoc h.iy (by rw[zh r1];exact hr) r2
 ·exact (h.r.updO (vU R) h.w (Ne.symm h.wr)).updO (vU R) hY.top (Ne.symm h.yr)
 ·rcases rF.mp z with z | z
  ·exact h.iw z
  ·exact r1 (rE.mp z).symm
 ·rcases rF.mp z with z | z
  ·exact h.iy z
  ·exact r2 (rE.mp z).symm
 ·rcases rF.mp z with z | z
  ·exact h.ir z
  ·exact r3 (rE.mp z).symm
end
theorem gE:zm ["_law_table_here","_law_letters_here","_law_flipped","_law_words","_law_ways_here","_law_rules","_law_at","_law_letter","_law_made","_law_way"] ["_law_table_here","_law_letters_here","_law_flipped"] (ze kP):=by nofun
theorem W8{f:Addr}{fd:FuncData}(B:Bt mg)(F:Fun K "_law_least" "_law_least" kP f fd)(iU:Df P w K mg base CX0 1 "_law_ways" ["_law_table_here","_law_letters_here","_law_word_here"] [] wq):FnOk P w K mg base CX0 2 f fd ["_law_table_here","_law_letters_here","_law_flipped"] (u8 K):=by
 refine F.ok gE (fun vs H Q E h=>?_) (fun cdv A outer s H vs Q E hr h=>?_)
 ·obtain⟨t,rs0,tab,l,b,lt,rfl,_⟩:=h
  rfl
 ·obtain⟨t,rs0,tab,l,b,lt,rfl,hT,hG,hg,hSm,O,q⟩:=h
  refine⟨_,(zg (zk (i:=3) gE.nd rfl (.inl rfl) (xu (za yh zc)))
   (zg (zk (i:=4) gE.nd rfl (.inl rfl) (xu (za (cl0 iU hr .nil rfl (za (pv 0) (za (pv 1) (za yh zc)))) zc)))
   (zg (zk (i:=5) gE.nd rfl (.inl rfl) (xu zc))
   (zg (zk (i:=6) gE.nd rfl (.inl rfl) zi)
   (zg (uA PassesOwn.never (zE WN (pv 6) (zo zW rfl B.len aB (za (pv 3) zc)) (zy _))
    (zg (zZ PassesOwn.never rfl (vz (pv 1)) (zp (i:=7) gE.nd rfl (.inl rfl))
     (zg (zk (i:=8) gE.nd rfl (.inl rfl) (Vj (vb (pv 2) (fun _=>rfl)) (zv zL (pv 7) (zV ix_list (pv 3) (pv 6) (fun _ _=>rfl))) (zv zL (zV ix_list (pv 3) (pv 6) (fun _ _=>rfl)) (pv 7))))
     (zg (zk (i:=9) gE.nd rfl (.inl rfl) (cl0 iU hr .nil rfl (za (pv 0) (za (pv 1) (za (pv 8) zc)))))
     (zd (zP (zE (QR (xS hr)) (pv 9) (pv 4) (by with_unfolding_all rfl))
      (zd (yS (yL aK bh bi z7 (pv 5) (za (xN (za (pv 8) (za (zV ix_list (pv 3) (yL aK bL bM (uk (xS hr)) (pv 4) (za (pv 9) zc)) (fun _ _=>rfl)) zc))) zc))))
      (zg (yS (yL aK bh bi z7 (pv 3) (za (pv 8) zc)))
      (zd (yS (yL aK bh bi z7 (pv 4) (za (pv 9) zc))))))))))
    (zd (zk (i:=6) gE.nd rfl (.inl rfl) (zv zL (pv 6) zi)))))
   (zd (zq (xN (za (pv 3) (za (pv 4) (za (pv 5) zc))))))))))),?_⟩
  have s16:=ye
  have s16:=ye
  have h8:=hG.hi
  obtain⟨l1,l6,lsm,lnd⟩:=of_decide_eq_true hg
  have e0:(("" : Str))=tx []:=rfl
  simp only[e0]
  have h0:InW l []:=fun x hx=>(nomatch hx)
  refine zj (fun σ H'=>∃ Dw:Addr,H Dw=none/\Same H H'/\H' Dw=some (.lst (tW [[]]))/\σ=[some (.ref t),some (.str (tx l)),some (.bl b),some (.ref Dw),none,none,none,none,none,none]) ?_ ?_
  ·rfl'
   exact⟨by lia,fun Dw hD=>⟨Dw,hD,zf hD,zb,rfl⟩⟩
  rintro σ H1 ⟨Dw,nw,s1,hw1,rfl⟩
  refine zj (fun σ H'=>∃(Dy r0:Addr),H Dy=none/\Dw≠Dy/\Dw≠r0/\Dy≠r0/\Same H1 H'/\TabAt H' Dy [r0] ([[]].map (zX l tab))/\σ=[some (.ref t),some (.str (tx l)),some (.bl b),some (.ref Dw),some (.ref Dy),none,none,none,none,none]) ?_ ?_
  ·rfl'
   refine yI (hT.same s1) hG h0 fun r0 H2 s2 hr0 hr=>⟨by lia,fun Dy hDy=>?_⟩
   have n1:H1 Dy=none:=s2.free hDy
   refine⟨Dy,s1.free n1,fun z=>?_,r0,fun z=>?_,fun z=>?_,s2.trans (zf hDy),⟨zb,rfl,fun i r x e1 e2=>?_⟩,rfl⟩
   ·rw[<- z,hw1] at n1;cases n1
   ·rw[<- z,hw1] at hr0;cases hr0
   ·rw[z,hr] at hDy;cases hDy
   ·have hi:=(rD.mp e1).1
    simp at hi
    subst hi
    cases e1
    cases e2
    exact zf hDy _ _ hr
  rintro σ H2 ⟨Dy,r0,ny,wy,wr0,yr0,s2,hT2,rfl⟩
  refine zj (Lr0 K H t l tab b Dw Dy r0) ?_ ?_
  ·rfl'
   refine⟨by lia,fun Dr hDr=>⟨Dr,⟨(s1.trans s2).trans (zf hDr),zf hDr _ _ (s2 _ _ hw1),hT2.same (zf hDr),LsA.nil,nw,ny,(s1.trans s2).free hDr,wy,fun z=>?_,fun z=>?_,fun z=>wr0 (rE.mp z),fun z=>yr0 (rE.mp z),fun z=>?_⟩,rfl⟩⟩
   ·rw[<- z,s2 _ _ hw1] at hDr;cases hDr
   ·rw[<- z,hT2.top] at hDr;cases hDr
   ·rw[rE.mp z,hT2.row 0 r0 _ rfl rfl] at hDr;cases hDr
  rintro σ H3 ⟨Dr,hL3,rfl⟩
  refine zj (LtI K H t l tab b lt Dw Dy Dr 0 0) ?_ ?_
  ·rfl'
   exact⟨[[]],[],[r0],_,_,_,zbi,aP _,hL3,rfl⟩
  rintro σ H4 hI4
  refine zj (LeE K H t l tab b lt Dw Dy Dr) ?_ ?_
  ·unfold kC
   refine⟨fun m σ H'=>∃ i,m+i=28/\LtI K H t l tab b lt Dw Dy Dr i 0 σ H',⟨28,0,rfl,hI4⟩,?_⟩
   rintro m σ H' ⟨i,hmi,W,R,rs,v7,v8,v9,hB,hiW,h3,rfl⟩
   have w27:=hSm W hB.ways_nd hB.inl
   rfl'
   refine⟨_,.inl ⟨_,SqL.of h3.w,rfl⟩,xx (fun hlt=>?_) fun hlt=>?_⟩
   ·rw[aa] at hlt
    refine⟨fun σ' H''=>LtI K H t l tab b lt Dw Dy Dr (i+1) 0 σ' H'',fun σ' H'' h=>⟨m - 1,by lia,i+1,by lia,h⟩,?_⟩
    have hiW':i<W.length:=by lia
    refine zj (LtJ K H t l tab b lt Dw Dy Dr i l.length) ?_ ?_
    ·rfl'
     refine ForS.by (fun j σ H'=>LtJ K H t l tab b lt Dw Dy Dr i j σ H') ⟨W,R,rs,_,_,_,hB,hiW',h3,rfl⟩ ?_ fun σ H' h=>h
     rintro j c σ H1' hc ⟨W,R,rs,v7,v8,v9,hB,hiW,h3,rfl⟩
     have w27:=hSm W hB.ways_nd hB.inl
     have hu:W[i]? = some W[i]:=ag hiW
     generalize W[i]=u at hu
     have hum:=ae hu
     have hul:=hB.inl u hum
     have hcl:=ae hc
     have hmk:=yY (b:=b) hul hcl
     have hln:=hB.ln hu
     have hat:atI (tW W) ((i:Nat):Int)=some (.str (tx u)):=by
      obtain⟨v,e1,e2⟩:=vg (xs:=tW W) (i:=(i:Int)) (by lia) (by rw[aa];lia)
      rw[aL,au,hu] at e2
      cases e2
      exact e1
     simp only[yN]
     refine zj (fun σ H'=>H'=H1'/\σ=[some (.ref t),some (.str (tx l)),some (.bl b),some (.ref Dw),some (.ref Dy),some (.ref Dr),some (.int (i:Nat)),some (.str (tx [c])),some (.str (tx (mkB b u c))),v9]) ?_ ?_
     ·simp only[tBl]
      rfl'
      refine xx (fun hb=>⟨_,SqL.of h3.w,_,hat,_,rfl,by rw[yu];lia,?_⟩) fun hb=>⟨_,SqL.of h3.w,_,hat,_,rfl,by rw[yu];lia,?_⟩
      ·rw[vn,hb]
       rfl
      ·rw[vn,show b=false by simpa using hb]
       rfl
     rintro σ H2' ⟨rfl,rfl⟩
     refine zj (fun σ H'=>∃ r:Addr,H2' r=none/\Same H2' H'/\H' r=some (.lst ((zX l tab (mkB b u c)).map V.int))/\σ=[some (.ref t),some (.str (tx l)),some (.bl b),some (.ref Dw),some (.ref Dy),some (.ref Dr),some (.int (i:Nat)),some (.str (tx [c])),some (.str (tx (mkB b u c))),some (.ref r)]) ?_ ?_
     ·rfl'
      exact yI (hT.same h3.sm) hG hmk fun r H3' s3 hr0 hr=>⟨r,hr0,s3,hr,rfl⟩
     rintro σ H3' ⟨r,hr0,s3,hr,rfl⟩
     have h3':=h3.same s3
     have nD:∀ D o,H2' D=some o->r≠D:=fun D o e z=>by rw[z,e] at hr0;cases hr0
     rfl'
     refine⟨Dy,_,Yj (zX l tab (mkB b u c)),rfl,h3'.y.is,?_,bX (YW _) (by decide),_,rfl,?_⟩
     ·simp only[Is]
      exact⟨r,_,rfl,SqL.of hr,Iss.ints _⟩
     rw[if_neg av,VR]
     obtain⟨xs,hx,hi⟩:=h3'.r
     have hRl:R.length<=200:=by
      have:=hB.cnt
      have:i * l.length<=27 * 6:=dk (by lia) l6
      have:=(rD.mp hc).1
      lia
     have hxl:xs.length=R.length:=by rw[hi.len,aa]
     by_cases hm:zX l tab (mkB b u c) ∈ W.map (zX l tab)
     ·rw[if_pos (decide_eq_true hm)]
      have hlt:=aC hm
      have g:(W.map (zX l tab))[(W.map (zX l tab)).idxOf (zX l tab (mkB b u c))]? = some (zX l tab (mkB b u c)):=by rw[ag hlt,bq]
      rw[au] at g
      obtain⟨w',g1,g2⟩:=rK.mp g
      have hat':atI (tW W) (((W.map (zX l tab)).idxOf (zX l tab (mkB b u c)):Nat):Int)=some (.str (tx w')):=by
       obtain⟨v,e1,e2⟩:=vg (xs:=tW W) (i:=(((W.map (zX l tab)).idxOf (zX l tab (mkB b u c)):Nat):Int)) (by lia) (by rw[aa] at hlt ⊢;lia)
       rw[aL,au,g1] at e2
       cases e2
       exact e1
      exact⟨.inl ⟨_,SqL.of hx⟩,.inl ⟨_,SqL.of h3'.y.top⟩,we h3'.y hr hm (by rw[aa];lia) ⟨_,_,rfl,SqL.of h3'.w,_,hat',by lia,fun p hp=>⟨xs,zf hp _ _ hx,by lia,W,R ++ [(mkB b u c,w')],rs,_,_,_,hB.old O hu hc (ae g1) g2,hiW,h3'.addR hp hx hi,rfl⟩⟩⟩
     ·rw[if_neg (by simpa using hm)]
      refine zj (fun σ H'=>H'=upd H3' Dw (.lst (tW W ++ [.str (tx (mkB b u c))]))/\σ=[some (.ref t),some (.str (tx l)),some (.bl b),some (.ref Dw),some (.ref Dy),some (.ref Dr),some (.int (i:Nat)),some (.str (tx [c])),some (.str (tx (mkB b u c))),some (.ref r)]) ?_ ?_
      ·rfl'
       exact⟨.inl ⟨_,SqL.of h3'.w⟩,_,h3'.w,by rw[aa];lia,rfl⟩
      rintro σ H4' ⟨rfl,rfl⟩
      have hY:=(h3'.y.updN (o:=.lst (tW W ++ [.str (tx (mkB b u c))])) h3'.wy h3'.iw)
      have hyl:=hY.len
      rw[aa] at hyl
      rfl'
      refine⟨.inl ⟨_,SqL.of hY.top⟩,_,hY.top,by rw[aa];lia,W ++ [mkB b u c],R,rs ++ [r],_,_,_,hB.new O hu hc fun w hw e=>hm (rG.mpr ⟨w,hw,e⟩),by rw[am];lia,h3'.addW hr (nD _ _ h3.w) (nD _ _ h3.y.top) ?_,rfl⟩
      obtain⟨ys,hy,_⟩:=h3.r
      exact nD _ _ hy
    rintro σ H2 ⟨W,R,rs,v7,v8,v9,hB,hiW,h3,rfl⟩
    rfl'
    exact⟨W,R,rs,_,_,_,hB.row,hiW,h3,rfl⟩
   ·rw[aa] at hlt
    have hi:i=W.length:=by lia
    exact⟨W,R,rs,_,_,_,_,hB.lst O hi,w27,h3,rfl⟩
  rintro σ H5 ⟨W,R,rs,v6,v7,v8,v9,hLst,w27,h3,rfl⟩
  rfl'
  refine⟨by lia,fun p hp=>?_⟩
  have sp:=zf (o:=.tup [.ref Dw,.ref Dy,.ref Dr]) hp
  exact q W R Dw Dy Dr p rs _ (h3.sm.trans sp) hLst w27 zb (sp _ _ h3.w) (h3.y.same sp) (h3.r.same sp)
structure zaJ(K:rC)(mg:Str->Option Value)(CM CF:Addr):Prop where
 gF:mg "TooFar" = some (.ref CF)
 sM:dA K (.ref CM) (.ref CM)=some true
 kF:aR K (.ref CM) (.ref CF)=some false
def WF(K:rC)(CO CR CW CH CV:Addr):Sp:=fun vs H Q _=>∃(y o q:Addr) (ps:List zB) (k:Nat) (l:List Nat) (ns:List Int),vs=[.ref y]/\SysAt K CH H y o q ps/\OrdAt CO CR CW H o k l ns/\vm l=true/\NeL ps/\ps.length<=100/\(∀ p ∈ ps,p.1.length<=1000/\p.2.length<=1000)/\(swF (Sh ps) l 8 10 [] [[]]=none->∀(p:Addr) (H':Hp),Same H H'->H' p=some (.tup [.non,.bl true])->Q (.ref p) H')/\∀ ws,swF (Sh ps) l 8 10 [] [[]]=some ws->1<=ws.length/\ws.length<=8/\(∀ w ∈ ws,w.length<=100)/\(∀ w ∈ ws,∀ c ∈ l,xw ps (w ++ [c])/\YK ps (w ++ [c]) ∈ ws)/\∀(p x t:Addr) (rs:List Addr) (H':Hp),Same H H'->WorAt CV H' x l t rs (ws.map (kz ps l ws))->H' p=some (.tup [.ref x,.bl false])->Q (.ref p) H'
def AsE(R:Option (List (List Nat)))(ps:List zB)(l:List Nat)(y CV:Addr)(H:Hp)(σ:L2.St)(H':Hp):Prop:=(R=none/\Same H H'/\σ=[some (.ref y),some (.non),some (.bl true),none])\/∃(ws:List (List Nat)) (x t:Addr) (rs:List Addr),R=some ws/\Same H H'/\WorAt CV H' x l t rs (ws.map (kz ps l ws))/\σ=[some (.ref y),some (.ref x),some (.bl false),none]
theorem gx:zm ["_law_system","_law_found","_law_refused","e"] ["_law_system"] (ze xk):=by nofun
theorem qv{f CM CF CO CR CW CH CV:Addr}{fd:FuncData}(B:Bt mg)(TA:zaJ K mg CM CF)(TM:UJ K mg CM)(F:Fun K "_law_world_asked" "_law_world_asked" xk f fd)(pR:Df P w K mg base (CXx P w) 7 "world_of" ["system"] [] (XW K CO CR CW CM CH CV)):FnOk P w K mg base CX0 8 f fd ["_law_system"] (WF K CO CR CW CH CV):=by
 refine F.ok gx (fun vs H Q E h=>?_) (fun cdv A outer s H vs Q E hr h=>?_)
 ·obtain⟨y,o,q,ps,k,l,ns,rfl,_⟩:=h
  rfl
 ·obtain⟨y,o,q,ps,k,l,ns,rfl,hy,ho,hg,hN,hpl,hP,q1,q2⟩:=h
  refine⟨_,(zg (zk (i:=1) gx.nd rfl (.inl rfl) wD)
   (zg (zk (i:=2) gx.nd rfl (.inl rfl) wx)
   (zg (QM (i:=1) gx.nd rfl (.inl rfl) (.inl rfl) ⟨rfl,rfl⟩ (clX pR hr .nil rfl (za (pv 0) zc))
    (UR (ts:=(JY (Qo (tCB (JP K) (zN (ya 3) (zN (tC (.ref CF)) wQ)))) (yN 2))) 3 (fun e=>(zd (zk (i:=2) gx.nd rfl (.inl rfl) (ZU (VU rfl B.isi (pv 3) rfl TA.gF))))) rfl TM.g rfl rfl TM.xi.ok .nil))
   (zd (zq (xN (za (pv 1) (za (pv 2) zc)))))))),?_⟩
  have s16:=ye
  generalize hR:swF (Sh ps) l 8 10 [] [[]]=R at q1 q2
  refine zj (fun σ H'=>H'=H/\σ=[some (.ref y),some (.non),none,none]) ?_ ?_
  ·rfl'
  rintro σ H1 ⟨rfl,rfl⟩
  refine zj (fun σ H'=>H'=H1/\σ=[some (.ref y),some (.non),some (.bl false),none]) ?_ ?_
  ·rfl'
  rintro σ H2 ⟨rfl,rfl⟩
  refine zj (AsE R ps l y CV H2) ?_ ?_
  ·simp only[KW]
   repeat (first | rfl' | simp only[wY,zI,yf,vB,vI,zH])
   have ty:∀{H':Hp} {x:Addr},TyX K (upd H' x (XT x CM none)) (.ref x) (.ref CM):=fun {H' x}=>.inr (.inl ⟨x,CM,none,[],rfl,rfl,⟨zb,.inl ⟨rfl,rfl⟩⟩,TM.xi⟩)
   refine⟨y,o,q,ps,k,l,ns,rfl,hy,ho,hg,hN,hpl,hP,?_,?_⟩
   ·rw[hR]
    exact fun hR0 H' s'=>⟨CM,rfl,fun x hx=>⟨true,TA.sM,zal ⟨_,ty,false,TA.kF,.inl ⟨hR0,s'.trans (zf hx),rfl⟩⟩⟩⟩
   ·rw[hR]
    intro ws hw
    obtain⟨w1,w2,w3,w4,_⟩:=q2 ws hw
    exact⟨w1,w2,w3,w4,fun x t rs H' s' hW=>.inr ⟨ws,x,t,rs,hw,s',hW,rfl⟩⟩
  rintro σ H3 hc
  rcases hc with ⟨rfl,s3,rfl⟩ | ⟨ws,x,t,rs,rfl,s3,hW,rfl⟩
  ·rfl'
   exact⟨by lia,fun p hp=>q1 rfl p _ (s3.trans (zf hp)) zb⟩
  ·obtain⟨w1,w2,w3,w4,q3⟩:=q2 ws rfl
   rfl'
   exact⟨by lia,fun p hp=>q3 p x t rs _ (s3.trans (zf hp)) (hW.same (zf hp)) zb⟩
structure TWR(K:rC):Prop where
 ll:aR K (.type "list") (.type "list")=some true
 ii:aR K (.type "int") (.type "int")=some true
 ib:aR K (.type "int") (.type "bool")=some false
 bb:aR K (.type "bool") (.type "bool")=some true
def vK(K:rC)(CV:Addr):Sp:=fun vs H Q _=>∃(x t Ta:Addr) (l:List Nat) (rs:List Addr) (tab:List (List Int)) (r:Int) (w d:List Nat) (M:List (List Nat)),vs=[.ref x,.ref Ta,.int r,.str (tx w),.str (tx d)]/\WorAt CV H x l t rs tab/\zY l tab/\0<=r/\r<(tab.length:Int)/\InW l w/\H Ta=some (.lst (tW M))/\d ∈ M/\wE l tab r w=((M.idxOf d:Nat):Int)/\Q (.bl true) H
theorem qB{CV x t Ta:Addr}{l:List Nat}{rs:List Addr}{tab:List (List Int)}{r:Int}{w d:List Nat}{M:List (List Nat)}{H:Hp}{Q:VK}{E:XK}(h1:WorAt CV H x l t rs tab)(h2:zY l tab)(h3:0<=r)(h4:r<(tab.length:Int))(h5:InW l w)(h6:H Ta=some (.lst (tW M)))(h7:d ∈ M)(h8:wE l tab r w=((M.idxOf d:Nat):Int))(q:Q (.bl true) H):vK K CV [.ref x,.ref Ta,.int r,.str (tx w),.str (tx d)] H Q E:=⟨x,t,Ta,l,rs,tab,r,w,d,M,rfl,h1,h2,h3,h4,h5,h6,h7,h8,q⟩
theorem pG:zm ["_law_world","_law_told","_law_room","_law_word_here","_law_due","_law_found"] ["_law_world","_law_told","_law_room","_law_word_here","_law_due"] (ze kM):=by nofun
theorem Vk{f CV:Addr}{fd:FuncData}(B:Bt mg)(T:TWR K)(CLw:Xp K mg CV)(F:Fun K "_law_leads" "_law_leads" kM f fd)(M_world_led:DM P w K mg base CX0 1 CV "led" ["self","room","word"] (uQ CV)):FnOk P w K mg base CX0 2 f fd ["_law_world","_law_told","_law_room","_law_word_here","_law_due"] (vK K CV):=by
 refine F.ok pG (fun vs H Q E h=>?_) (fun cdv A outer s H vs Q E hr h=>?_)
 ·obtain⟨x,t,Ta,l,rs,tab,r,w,d,M,rfl,_⟩:=h
  rfl
 ·obtain⟨x,t,Ta,l,rs,tab,r,w,d,M,rfl,hW,hG,h0,h1,hw,hM,hd,he,q⟩:=h
  refine⟨_,(zg (zk (i:=5) pG.nd rfl (.inl rfl) (me1 M_world_led CLw.cl hr (pv 0) (za (pv 2) (za (pv 3) zc))))
   (zd (zq (qK (vR rfl B.isi (pv 5) rfl B.int PySem.Pv.boot_int) (qK (ZU (vR rfl B.isi (pv 5) rfl B.bool PySem.Pv.boot_bool)) (Yh (yK kK (pv 5) (yL aK bL bM ZD (pv 1) (za (pv 4) zc)) (zy _)))))))),?_⟩
  have s16:=ye
  obtain⟨dx,ho,_⟩:=id hW
  refine zj (fun σ H'=>H'=H/\σ=[some (.ref x),some (.ref Ta),some (.int r),some (.str (tx w)),some (.str (tx d)),some (.int ((M.idxOf d:Nat):Int))]) ?_ ?_
  ·rfl'
   refine⟨_,_,ho,rfl,jl hW hG h0 h1 hw ?_⟩
   rw[he]
   exact⟨rfl,rfl⟩
  rintro σ H1 ⟨rfl,rfl⟩
  rfl'
  refine⟨_,.inl (.int _),true,T.ii,zal ⟨_,.inl (.int _),false,T.ib,?_⟩⟩
  rfl'
  refine⟨.inl ⟨_,SqL.of hM⟩,Ta,M,d,rfl,rfl,SqL.of hM,hd,rfl,?_⟩
  rw[decide_eq_true rfl]
  exact q
def K6:R2:=fun x y H Q=>∃ a b,x=.bl a/\y=.bl b/\Q (.bl (a != b)) H
theorem Qt{X:Cx}:OpR X (compareOp .IsNot) K6:=by
 intro pins s σ H x y v u Q I rx ry h
 obtain⟨a,b,rfl,rfl,q⟩:=h
 cases rx
 cases ry
 exact PyProof.Rows.isnot_bool (zC I q rfl)
def ZV(K:rC)(CV:Addr):Sp:=fun vs H Q _=>∃(x t Dr:Addr) (l:List Nat) (rs:List Addr) (tab:List (List Int)) (R:List zB),vs=[.ref x,.ref Dr]/\WorAt CV H x l t rs tab/\zY l tab/\LsA K H Dr (R.map dR)/\(∀ r ∈ R,InW l r.1/\InW l r.2/\xv l tab r.1 r.2=none)/\Q (.bl true) H
theorem Uv{CV x t Dr:Addr}{l:List Nat}{rs:List Addr}{tab:List (List Int)}{R:List zB}{H:Hp}{Q:VK}{E:XK}(h1:WorAt CV H x l t rs tab)(h2:zY l tab)(h3:LsA K H Dr (R.map dR))(h4:∀ r ∈ R,InW l r.1/\InW l r.2/\xv l tab r.1 r.2=none)(q:Q (.bl true) H):ZV K CV [.ref x,.ref Dr] H Q E:=⟨x,t,Dr,l,rs,tab,R,rfl,h1,h2,h3,h4,q⟩
theorem nC:zm ["_law_world","_law_rules","_law_rule"] ["_law_world","_law_rules"] (ze xQ):=by nofun
theorem jx{f CV:Addr}{fd:FuncData}(B:Bt mg)(CLw:Xp K mg CV)(F:Fun K "_law_rules_hold" "_law_rules_hold" xQ f fd)(M_world_holds:DM P w K mg base CX0 3 CV "holds" ["self","pact"] (xM K CV)):FnOk P w K mg base CX0 4 f fd ["_law_world","_law_rules"] (ZV K CV):=by
 refine F.ok nC (fun vs H Q E h=>?_) (fun cdv A outer s H vs Q E hr h=>?_)
 ·obtain⟨x,t,Dr,l,rs,tab,R,rfl,_⟩:=h
  rfl
 ·obtain⟨x,t,Dr,l,rs,tab,R,rfl,hW,hG,hL,hR,q⟩:=h
  refine⟨_,(zg (zZ PassesOwn.never rfl (yW (pv 1)) (zp (i:=2) nC.nd rfl (.inl rfl))
    (zd (zP (zE Qt (me1 M_world_holds CLw.cl hr (pv 0) (za (pv 2) zc)) wx (zy _))
     (zd (zq wx))
     zu)))
   (zd (zq wx))),?_⟩
  have s16:=ye
  obtain⟨dx,ho,_⟩:=id hW
  obtain⟨xs,hX,hI⟩:=id hL
  refine zj (fun σ H'=>H'=H/\∃ v2,σ=[some (.ref x),some (.ref Dr),v2]) ?_ ?_
  ·rfl'
   refine⟨⟨_,SqL.of hX⟩,ForL.by (xs:=xs) (fun i σ H'=>H'=H/\∃ v2,σ=[some (.ref x),some (.ref Dr),v2]) ⟨rfl,_,rfl⟩ (fun i σ H' _ h=>by rw[h.1];exact SqL.of hX) ?_ fun σ H' h=>h⟩
   rintro i y σ H' hy ⟨rfl,v2,rfl⟩
   obtain⟨r,pr,hri,rfl,hqr⟩:=hI.getR hy
   obtain⟨r1,r2,r3⟩:=hR r (ae hri)
   simp only[yN,dj,di]
   rfl'
   refine⟨_,_,ho,rfl,qJ hqr hW hG r1 r2 ?_⟩
   rw[r3]
   exact⟨_,_,rfl,rfl,false,rfl,zaD rfl⟩
  rintro σ H1 ⟨rfl,v2,rfl⟩
  rfl'
  exact q
def uz(K:rC)(CV:Addr):Sp:=fun vs H Q _=>∃(x t:Addr) (l:List Nat) (rs:List Addr) (tab:List (List Int)) (u v:List Nat) (b:Bool),vs=[.ref x,.str (tx u),.str (tx v),.bl b]/\WorAt CV H x l t rs tab/\zY l tab/\InW l u/\InW l v/\xv l tab u v=(if b then none else some 0)/\∀ H',Same H H'->Q (.bl true) H'
theorem XM{CV x t:Addr}{l:List Nat}{rs:List Addr}{tab:List (List Int)}{u v:List Nat}{b:Bool}{H:Hp}{Q:VK}{E:XK}(h1:WorAt CV H x l t rs tab)(h2:zY l tab)(h3:InW l u)(h4:InW l v)(h5:xv l tab u v=if b then none else some 0)(q:∀ H',Same H H'->Q (.bl true) H'):uz K CV [.ref x,.str (tx u),.str (tx v),.bl b] H Q E:=⟨x,t,l,rs,tab,u,v,b,rfl,h1,h2,h3,h4,h5,q⟩
theorem pb:zm ["_law_world","_law_one","_law_other","_law_same","_law_holds","_law_room"] ["_law_world","_law_one","_law_other","_law_same"] (ze X9):=by nofun
theorem UV{f CV:Addr}{fd:FuncData}(B:Bt mg)(T:TWR K)(CLw:Xp K mg CV)(F:Fun K "_law_pair" "_law_pair" X9 f fd)(M_world_holds:DM P w K mg base CX0 3 CV "holds" ["self","pact"] (xM K CV))(M_world_parted:DM P w K mg base CX0 2 CV "parted" ["self","one","other"] (xb CV)):FnOk P w K mg base CX0 4 f fd ["_law_world","_law_one","_law_other","_law_same"] (uz K CV):=by
 refine F.ok pb (fun vs H Q E h=>?_) (fun cdv A outer s H vs Q E hr h=>?_)
 ·obtain⟨x,t,l,rs,tab,u,v,b,rfl,_⟩:=h
  rfl
 ·obtain⟨x,t,l,rs,tab,u,v,b,rfl,hW,hG,hu,hv,hb,q⟩:=h
  refine⟨_,(zg (zk (i:=4) pb.nd rfl (.inl rfl) (me1 M_world_holds CLw.cl hr (pv 0) (za (xN (za (pv 1) (za (pv 2) zc))) zc)))
   (zg (zP (PW.pt (VL (yA (vb (vR rfl B.isi (pv 4) rfl B.bool PySem.Pv.boot_bool) (fun _=>rfl))) (XL (zE Yk (pv 4) (pv 3) (zy _)))))
    (zd (zq wx))
    zu)
   (zg (zk (i:=5) pb.nd rfl (.inl rfl) (me1 M_world_parted CLw.cl hr (pv 0) (za (pv 1) (za (pv 2) zc))))
   (zg (zP (vb (pv 3) (fun _=>rfl))
    (zd (zq (yK op_isN' (pv 5) wD (zy _))))
    zu)
   (zd (zq (qK (vR rfl B.isi (pv 5) rfl B.int PySem.Pv.boot_int) (qK (ZU (vR rfl B.isi (pv 5) rfl B.bool PySem.Pv.boot_bool)) (Yh (yK kK (pv 5) zi (zy _))))))))))),?_⟩
  have s16:=ye
  obtain⟨dx,ho,_⟩:=id hW
  have hb':decide (xv l tab u v=none)=b:=by rw[hb];cases b <;> rfl
  refine zj (fun σ H'=>Same H H'/\σ=[some (.ref x),some (.str (tx u)),some (.str (tx v)),some (.bl b),some (.bl b),none]) ?_ ?_
  ·rfl'
   refine⟨_,_,ho,rfl,by lia,fun p hp=>qJ (SqT.of zb) (hW.same (zf hp)) hG hu hv ?_⟩
   rw[hb']
   exact⟨zf hp,rfl⟩
  rintro σ H1 ⟨s1,rfl⟩
  have hW1:=hW.same s1
  refine zj (fun σ H'=>H'=H1/\σ=[some (.ref x),some (.str (tx u)),some (.str (tx v)),some (.bl b),some (.bl b),none]) ?_ ?_
  ·rfl'
   refine⟨_,.inl (.bl _),true,T.bb,V1 trivial⟩
  rintro σ H2 ⟨rfl,rfl⟩
  refine zj (fun σ H'=>H'=H2/\σ=[some (.ref x),some (.str (tx u)),some (.str (tx v)),some (.bl b),some (.bl b),some (vO (if b then none else some 0))]) ?_ ?_
  ·rfl'
   refine⟨_,_,s1 _ _ ho,rfl,uL hW1 hG hu hv ?_⟩
   rw[hb]
   exact⟨rfl,rfl⟩
  rintro σ H3 ⟨rfl,rfl⟩
  cases b
  ·simp only[vO,if_neg av]
   refine zj (fun σ H'=>H'=H3/\σ=[some (.ref x),some (.str (tx u)),some (.str (tx v)),some (.bl false),some (.bl false),some (.int ((0:Nat):Int))]) ?_ ?_
   ·rfl'
   rintro σ H4 ⟨rfl,rfl⟩
   rfl'
   exact⟨_,.inl (.int _),true,T.ii,zal ⟨_,.inl (.int _),false,T.ib,za4 (q _ s1)⟩⟩
  ·simp only[vO,if_true]
   refine zj (fun _ _=>False) ?_ fun _ _ h=>h.elim
   rfl'
   exact q _ s1
noncomputable def rankF:KeyFam (Int × List Int):=⟨fun r=>[.int r.1,.lst (r.2.map L3.D.int)],fun a b=>if a.1=b.1 then ltI a.2 b.2 else decide (a.1<b.1),true,(0,[])⟩
theorem Yf{x y:List Int}(h:ltI x y=true):ltI y x=false:=by
 by_cases e:x=y
 ·subst e
  rw[yD] at h
  cases h
 ·have:=vG e
  rw[h] at this
  simpa using this.symm
theorem Qh{x y z:List Int}(h1:ltI y x=false)(h2:ltI z y=false):ltI z x=false:=by
 cases h:ltI z x with
 | false=>rfl
 | true =>
  by_cases e:y=x
  ·subst e
   rw[h2] at h
   cases h
  ·have h3:=vG e
   rw[h1] at h3
   have h4:ltI x y=true:=by simpa using h3.symm
   rw[uZ h h4] at h2
   cases h2
theorem ZI:rankF.Ok where
 w:=⟨fun a b h=>by
   simp only[rankF] at h ⊢
   by_cases e:a.1=b.1
   ·rw[if_pos e] at h
    rw[if_pos e.symm]
    exact Yf h
   ·rw[if_neg e] at h
    rw[if_neg (fun z=>e z.symm)]
    have:=of_decide_eq_true h
    exact decide_eq_false (by lia),
  fun a b c h1 h2=>by
   simp only[rankF] at h1 h2 ⊢
   by_cases e:b.1=a.1
   ·rw[if_pos e] at h1
    rw[e] at h2
    by_cases f:c.1=a.1
    ·rw[if_pos f] at h2 ⊢
     exact Qh h1 h2
    ·rw[if_neg f] at h2 ⊢
     exact h2
   ·rw[if_neg e] at h1
    have h1':=of_decide_eq_false h1
    by_cases f:c.1=b.1
    ·rw[if_neg (by lia)]
     exact decide_eq_false (by lia)
    ·rw[if_neg f] at h2
     have h2':=of_decide_eq_false h2
     rw[if_neg (by lia)]
     exact decide_eq_false (by lia)⟩
 eq:=fun a b=>by
  have:=XU a.1 b.1 a.2 b.2
  simp only[ltD] at this
  exact this
 ok:=fun a b=>by simp only[rankF,ko,okD];exact⟨trivial,uU _ _,trivial⟩
 dp:=fun a=>by simp only[rankF,dpD,va,jD];decide
 sh:=fun a=>⟨_,_,rfl,.inl ⟨rfl,_,rfl⟩⟩
theorem Z1{H:Hp}{d:L3.D}{v:V}:∀{ds:List L3.D} {vs:List V},Iss K H ds vs->Is K H d v->Iss K H (ds ++ [d]) (vs ++ [v])
 | [],vs,h,hv=>by
  simp only[Iss] at h
  subst h
  simp only[cA,Iss]
  exact⟨v,[],rfl,hv,rfl⟩
 | e::ds,vs,h,hv=>by
  simp only[Iss] at h
  obtain⟨x,r,rfl,hx,hr⟩:=h
  simp only[bp,Iss]
  exact⟨x,r ++ [v],rfl,hx,Z1 hr hv⟩
theorem jW{α β:Type}(g:α->β){us ys:List β}(h:us.Perm ys):∀ ts:List α,us=ts.map g->∃ ts':List α,ts'.Perm ts/\ys=ts'.map g:=by
 induction h with
 | nil =>
  intro ts e
  exact⟨ts,List.Perm.refl _,e⟩
 | @cons x us ys _ ih =>
  intro ts e
  match ts,e with
  | t::ts,e =>
   rw[ax] at e
   injection e with e1 e2
   obtain⟨ts',p,rfl⟩:=ih ts e2
   exact⟨t::ts',p.cons t,by rw[e1];rfl⟩
 | swap x y us =>
  intro ts e
  match ts,e with
  | t::t2::ts,e =>
   rw[ax,ax] at e
   injection e with e1 e2
   injection e2 with e2 e3
   exact⟨t2::t::ts,List.Perm.swap t t2 ts,by rw[e1,e2,e3];rfl⟩
 | trans _ _ ih1 ih2 =>
  intro ts e
  obtain⟨ts',p1,e1⟩:=ih1 ts e
  obtain⟨ts'',p2,e2⟩:=ih2 ts' e1
  exact⟨ts'',p2.trans p1,e2⟩
theorem OrdAt.samT{T CO CR CW:Addr}{H H':Hp}{ps:Array Value}{o:Addr}{k:Nat}{l:List Nat}{ns:List Int}(h:OrdAt CO CR CW H o k l ns)(s:SamT T H H')(hT:H T=some (.tbl ps)):OrdAt CO CR CW H' o k l ns:=by
 obtain⟨dx,⟨h1,h2⟩ | ⟨h1,h2⟩ | ⟨h1,h2,w,h3,h4⟩⟩:=h
 ·exact⟨dx,.inl ⟨h1,s.at hT h2 fun _ z=>by cases z⟩⟩
 ·exact⟨dx,.inr (.inl ⟨h1,s.at hT h2 fun _ z=>by cases z⟩)⟩
 ·exact⟨dx,.inr (.inr ⟨h1,h2,w,s.at hT h3 (fun _ z=>by cases z),s.at hT h4 fun _ z=>by cases z⟩)⟩
theorem SysAt.samT{T CH:Addr}{H H':Hp}{qs:Array Value}{y o q:Addr}{ps:List zB}(h:SysAt K CH H y o q ps)(s:SamT T H H')(hT:H T=some (.tbl qs)):SysAt K CH H' y o q ps:=by
 obtain⟨dx,xs,h1,h2,h3⟩:=h
 exact⟨dx,xs,s.at hT h1 (fun _ z=>by cases z),s.at hT h2 (fun _ z=>by cases z),Iss.samT s hT _ _ h3⟩
theorem TabAt.samT{T t:Addr}{H H':Hp}{qs:Array Value}{rs:List Addr}{tab:List (List Int)}(h:TabAt H t rs tab)(s:SamT T H H')(hT:H T=some (.tbl qs)):TabAt H' t rs tab :=
 ⟨s.at hT h.top (fun _ z=>by cases z),h.len,fun i r x e1 e2=>s.at hT (h.row i r x e1 e2) fun _ z=>by cases z⟩
theorem WorAt.samT{T CH o t:Addr}{H H':Hp}{qs:Array Value}{l:List Nat}{rs:List Addr}{tab:List (List Int)}(h:WorAt CH H o l t rs tab)(s:SamT T H H')(hT:H T=some (.tbl qs)):WorAt CH H' o l t rs tab:=by
 obtain⟨dx,h1,h2⟩:=h
 exact⟨dx,s.at hT h1 (fun _ z=>by cases z),h2.samT s hT⟩
noncomputable def kyF(l w:List Nat):Int × List Int:=((w.length:Nat),vk l w)
theorem Kq{l u v:List Nat}(h:kLt l u v):rankF.lt (kyF l v) (kyF l u)=false:=by
 simp only[rankF,kyF]
 rcases h with h | ⟨h1,h2⟩
 ·rw[if_neg (by lia)]
  exact decide_eq_false (by lia)
 ·rw[if_pos (by lia)]
  exact Yf h2
theorem Ky{l u v:List Nat}(hu:InW l u)(hv:InW l v)(h1:rankF.lt (kyF l u) (kyF l v)=false)(h2:rankF.lt (kyF l v) (kyF l u)=false):u=v:=by
 simp only[rankF,kyF] at h1 h2
 by_cases e:((u.length:Nat):Int)=(v.length:Nat)
 ·rw[if_pos e] at h1
  rw[if_pos e.symm] at h2
  refine ZO hu hv (Classical.byContradiction fun z=>?_)
  have:=vG z
  rw[h1,h2] at this
  cases this
 ·rw[if_neg e] at h1
  rw[if_neg fun z=>e z.symm] at h2
  have:=of_decide_eq_false h1
  have:=of_decide_eq_false h2
  lia
theorem Zu{b:Bool}{l:List Nat}{lt:List Nat->List Nat->Prop}{way:List Nat->List Int}{W:List (List Nat)}{R:List (List Nat × List Nat)}(O:ur b l lt)(A:Act l way)(h:Lst b l lt way W R)(lnd:l.Nodup){ys:List ((Int × List Int) × V)}(h1:ys.Perm ((W.map (kyF l)).zip (tW W)))(h2:ys.Pairwise fun p q=>rankF.lt q.1 p.1=false):ys.map (·.2)=tW (yg W l):=by
 have e0:(W.map (kyF l)).zip (tW W)=W.map fun w=>(kyF l w,V.str (tx w)):=by
  unfold tW
  rw[List.zip_map',]
 obtain⟨ts,p,rfl⟩:=jW (fun w:List Nat=>(kyF l w,V.str (tx w))) h1.symm W e0
 rw[bO] at h2
 have hp:ts.Perm (yg W l):=p.trans (vq O A h lnd).symm
 have:ts=yg W l:=List.Perm.eq_of_pairwise (le:=fun a b=>rankF.lt (kyF l b) (kyF l a)=false) (fun a b ha hb q1 q2=>Ky (h.inl a (p.mem_iff.mp ha)) (h.inl b ((yt O A h).mp hb)) q2 q1) h2 ((j7 O A h lnd).imp fun q=>Kq q) hp
 subst this
 rw[dH]
 rfl
def tbK(K:rC):TE:=zay (zN (tCB (U4 K) (zN (ya 0) wQ)) (zN (kJ (J0 (ya 0)) (yN 0) ud (tBM K "str" Xa (ya 1) (zN (ya 0) wQ)) 1 [1]) wQ))
theorem QQ{l w:List Nat}{H:Hp}{Q:VK}(hw:InW l w)(hl:w.length<=1000)(q:∀(t:Addr) (H':Hp),Same H H'->Is K H' (.tup (rankF.dec (kyF l w))) (.ref t)->Q (.ref t) H'):tbK K [some (.str (tx w)),some (.str (tx l))] H Q:=by
 have s16:=ye
 unfold tbK
 rfl'
 refine⟨by lia,fun D hD=>CompS.by (l:=w) (fun i acc H'=>Same H H'/\H' D=some (.lst acc)/\acc=(vk l (w.take i)).map V.int) ⟨zf hD,zb,rfl⟩ ?_ ?_⟩
 ·rintro i c acc H' hc ⟨hs,hH,rfl⟩
  have hil:=(rD.mp hc).1
  simp only[ud]
  rfl'
  refine⟨qk,hH,by rw[aa,vk,aa,aO];lia,CNx.mk hil ⟨zF hs hD,zb,?_⟩⟩
  rw[Yc (hw c (ae hc)),yb hc,yB,aE]
  rfl
 ·rintro acc H' ⟨hs,hH,rfl⟩
  rw[be] at hH
  exact⟨by lia,fun t ht=>q t _ (hs.trans (zf ht)) (k9 zb (zf ht _ _ hH))⟩
theorem WB{l:List Nat}{LA:Hp->Prop}{Qf:List V->Hp->Prop}(hLA:∀ H H',LA H->Same H H'->LA H'):∀(W:List (List Nat)) (acc:List V) (rs:List (Int × List Int)) (H:Hp),LA H->(∀ w ∈ W,InW l w/\w.length<=1000)->Iss K H (rs.map fun a=>.tup (rankF.dec a)) acc ->
  (∀ acc' H',Same H H'->Iss K H' ((rs ++ W.map (kyF l)).map fun a=>.tup (rankF.dec a)) acc'->Qf acc' H')->uh (fun x H Q=>LA H/\tbK K [some x,some (.str (tx l))] H Q) (tW W) acc H Qf
 | [],acc,rs,H,hL,hw,hI,h=>h acc H (Same.refl _) (by simpa using hI)
 | w::W,acc,rs,H,hL,hw,hI,h=>by
  obtain⟨w1,w2⟩:=hw w aD
  refine⟨hL,QQ w1 w2 fun t H' s3 hIs=>?_⟩
  refine WB hLA W (acc ++ [.ref t]) (rs ++ [kyF l w]) _ (hLA _ _ hL s3) (fun x hx=>hw x (aw _ hx)) ?_ fun acc' H' s' hI'=>h acc' H' (s3.trans s') (by simpa using hI')
  rw[aE]
  exact Z1 (Iss.same s3 _ _ hI) hIs
structure Mt(k:Nat)(l:List Nat)(ns:List Int)(tab:List (List Int))(W:List (List Nat))(R ps:List zB):Prop where
 g:vm l=true
 t:zY l tab
 e:OE l ns k
 L:Lst (decide (k=1)) l (ltO k l ns) (zX l tab) W R
 w:W.length<=27
 p:∀ r,r ∈ ps ↔ r ∈ R
 n:ps.length<=100
section
variable{k:Nat}{l:List Nat}{ns:List Int}{tab:List (List Int)}{W:List (List Nat)}{R ps:List zB}
theorem Mt.nd(h:Mt k l ns tab W R ps):l.Nodup:=(of_decide_eq_true h.g).2.2.2
theorem Mt.o(h:Mt k l ns tab W R ps):ur (decide (k=1)) l (ltO k l ns):=vT h.e h.nd
theorem Mt.a(h:Mt k l ns tab W R ps):Act l (zX l tab):=UA h.t
theorem Mt.ne(h:Mt k l ns tab W R ps):NeL ps:=fun p hp=>(h.L.rul p ((h.p p).mp hp)).2.2.2.2.1
theorem Mt.ln(h:Mt k l ns tab W R ps):∀ p ∈ ps,p.1.length<=1000/\p.2.length<=1000:=fun p hp=>by
 obtain⟨_,h2,_,_,_,h6⟩:=h.L.rul p ((h.p p).mp hp)
 have:=h.L.ln _ h2
 have:=h.w
 lia
theorem Mt.sw(h:Mt k l ns tab W R ps)(n:Nat):swF (Sh ps) l n (n+2) [] [[]]=if n<W.length then none else some (yg W l):=h.L.sw h.o h.a h.nd h.p n
theorem Mt.fo(h:Mt k l ns tab W R ps){w:List Nat}(hw:InW l w)(hs:xf l.length w.length):∃ J,J<=4000/\Rd ps w J/\zA (wAt ps w J) ps=none/\wAt ps w J=wA W (zX l tab) w:=U1 h.e h.nd h.a h.L h.p hw hs
end
structure Pt(K:rC)(H:Hp)(l:List Nat)(tab:List (List Int))(W:List (List Nat))(R:List zB)(t:Addr)(rs0:List Addr)(Dw Dy Dr:Addr)(rs:List Addr)(pp:Addr):Prop where
 t:TabAt H t rs0 tab
 p:H pp=some (.tup [.ref Dw,.ref Dy,.ref Dr])
 w:H Dw=some (.lst (tW W))
 y:TabAt H Dy rs (W.map (zX l tab))
 r:LsA K H Dr (R.map dR)
section
variable{H H':Hp}{l:List Nat}{tab:List (List Int)}{W:List (List Nat)}{R:List zB}{t:Addr}{rs0:List Addr}{Dw Dy Dr:Addr}{rs:List Addr}{pp:Addr}
theorem Pt.same(h:Pt K H l tab W R t rs0 Dw Dy Dr rs pp)(s:Same H H'):Pt K H' l tab W R t rs0 Dw Dy Dr rs pp:=⟨h.t.same s,s _ _ h.p,s _ _ h.w,h.y.same s,h.r.same s⟩
theorem Pt.samT(h:Pt K H l tab W R t rs0 Dw Dy Dr rs pp){T:Addr}{qs:Array Value}(s:SamT T H H')(hT:H T=some (.tbl qs)):Pt K H' l tab W R t rs0 Dw Dy Dr rs pp :=
 ⟨h.t.samT s hT,s.at hT h.p (fun _ z=>by cases z),s.at hT h.w (fun _ z=>by cases z),h.y.samT s hT,h.r.samT s hT⟩
theorem Y8{b:Bool}{lt:List Nat->List Nat->Prop}(O:ur b l lt)(A:Act l (zX l tab))(h:Lst b l lt (zX l tab) W R){x:List Nat}(hx:InW l x):zX l tab x ∈ W.map (zX l tab)/\atI (tW W) (((W.map (zX l tab)).idxOf (zX l tab x):Nat):Int)=some (.str (tx (wA W (zX l tab) x))):=by
 obtain⟨w,e1,e2,e3,e4⟩:=h.rep_at O A hx
 refine⟨rG.mpr ⟨w,ae e1,e2⟩,?_⟩
 rw[e3]
 obtain⟨v,f1,f2⟩:=vg (xs:=tW W) (i:=(((W.map (zX l tab)).idxOf (zX l tab x):Nat):Int)) (by lia) (by rw[aa];lia)
 rw[aL,au,e1] at f2
 cases f2
 exact f1
end
noncomputable def Z0:Stmt->Scope
 | .Assign _ (.Call _ _ [⟨_,.Lambda _ _ sc _,_⟩] _) _=>sc
 | _=>ze (top 0)
noncomputable def Ua:Stmt->Pos
 | .Assign _ (.Call _ _ [⟨_,.Lambda _ _ _ p,_⟩] _) _=>p
 | _=>default
noncomputable def lp:Pos:=Ua ((zD xV).getD 1 (.Pass ⟨0,0,0,0⟩))
noncomputable def lq:Str:="_law_forms.<locals>.<lambda>"
noncomputable def lp2:Pos:=Ua ((zD xT).getD 1 (.Pass ⟨0,0,0,0⟩))
noncomputable def lq2:Str:="_law_rooms.<locals>.<lambda>"
abbrev X6(mg:Str->Option Value):Prop:=mg "sorted" = none
theorem Iss.words{H:Hp}:∀ ws:List (List Nat),Iss K H (ws.map dS) (tW ws)
 | []=>by simp only[ba,Iss]
 | w::ws=>by
  simp only[ax,Iss]
  exact⟨_,_,rfl,by simp only[Is,dS],Iss.words ws⟩
theorem W3(ws:List (List Nat)):va (ws.map dS)=0:=by
 induction ws with
 | nil=>rfl
 | cons w ws ih=>simp only[ax,va,dS,dpD,ih];rfl
def uX(K:rC)(CO CR CW CH TB:Addr):Sp:=fun vs H Q _=>∃(y o qa t Dw Dy Dr pp Wa:Addr) (rs0 rs:List Addr) (ps R:List zB) (k:Nat) (l:List Nat) (ns:List Int) (tab:List (List Int)) (W ws:List (List Nat)),vs=[.ref y,.ref t,.str (tx l),.ref pp,.ref Wa]/\SysAt K CH H y o qa ps/\OrdAt CO CR CW H o k l ns/\Mt k l ns tab W R ps/\Pt K H l tab W R t rs0 Dw Dy Dr rs pp/\H Wa=some (.lst (tW ws))/\(∀ w ∈ ws,InW l w/\xf l.length w.length)/\TabOk H TB lp lq/\∀ H',SamT TB H H'->QC TB lp H H'->Q (.bl true) H'
theorem iQ:zm ["_law_system","_law_table_here","_law_letters_here","_law_parts","_law_words","_law_least_here","_law_ways_here","_law_rules","_law_told","_law_found","_law_word_here"] ["_law_system","_law_table_here","_law_letters_here","_law_parts","_law_words"] (ze xV):=by nofun
theorem W4{f CO CR CW CH CM CC TB:Addr}{fd:FuncData}{gc:Tok}(B:Bt mg)(T:TWR K)(TS:YN K mg CH)(hsorted:X6 mg)(hCd:PySem.W.CodeHd base CC TB)(hBt:base.BuiltinsAt mg TB)(hgT:rq≠TB)(F:Fun K "_law_forms" "_law_forms" xV f fd)(HC:fd.code=.ref CC)(mC:Df P w K mg base (CXx P w) 6 "shortest_words" ["system","most"] [] (kL K CO CR CW CM CH))(DD_shortest_words:Df P w K mg base (CXx P w) 6 "shortest_words" ["system","most"] [.int 8 gc] (kL K CO CR CW CM CH))(iU:Df P w K mg base CX0 1 "_law_ways" ["_law_table_here","_law_letters_here","_law_word_here"] [] wq)(M_system_shortest:DM P w K mg base (CXx P w) 5 CH "shortest" ["self","word"] (vA K CH)):FnOk P w K mg base CX0 9 f fd ["_law_system","_law_table_here","_law_letters_here","_law_parts","_law_words"] (uX K CO CR CW CH TB):=by
 refine Wx F HC iQ (fun vs H Q E h=>?_) (fun A outer s H vs Q E hr h=>?_)
 ·obtain⟨y,o,qa,t,Dw,Dy,Dr,pp,Wa,rs0,rs,ps,R,k,l,ns,tab,W,ws,rfl,_⟩:=h
  rfl
 ·obtain⟨y,o,qa,t,Dw,Dy,Dr,pp,Wa,rs0,rs,ps,R,k,l,ns,tab,W,ws,rfl,hy,ho,hM,hP,hWa,hws,hTab,q⟩:=h
  refine⟨_,(zg (ZW (pv 3) (uR (n:=3) rfl (zK (zp (i:=5) iQ.nd rfl (.inl rfl)) (zK (zp (i:=6) iQ.nd rfl (.inl rfl)) (zK (zp (i:=7) iQ.nd rfl (.inl rfl)) wS)))))
   (zg (zk (i:=8) iQ.nd rfl (.inl rfl) (jI (k:=2) (p:="_law_word_here") (y:="_law_letters_here") (iy:=2) (c:=s.heap.objs.size+1) (F:=rankF) (tb:=tbK K) ZI ⟨rfl,rfl,rfl,by decide,rfl,rfl,by decide,by decide⟩ (hr.mono (by decide)) rfl hsorted eB (za (pv 5) zc) rfl hCd hBt hgT rfl rfl (by intro _ _ _ _;exact rfl) rfl rfl rfl (fun s H f cv hr'=>xN (za (zo zW rfl B.len aB (za (pv 0) zc)) (za (xU (own:=["_law_sign"]) (caps:=["_law_letters_here"]) (ix:=[1]) (tt:=ud) (te:=tBM K "str" Xa (ya 1) (zN (ya 0) wQ)) rfl (jO (sc:=Z0 ((zD xV).getD 1 (.Pass ⟨0,0,0,0⟩))) rfl (by symm) (by symm) (by symm) rfl (by symm) (by symm) rfl) (vz (pv 0)) (fun _ _ _ _ _ _=>zp (i:=0) (show List.Nodup [_,_] by decide) rfl (.inl rfl)) (fun _ _ _ _ _ _=>xl) (fun _ _ _ _ _ _=>yL bx cT cU YS (pv 1) (za (pv 0) zc))) zc)))))
   (zg (zk (i:=9) iQ.nd rfl (.inl rfl) (clP xe0 mC hr .nil rfl (za (pv 0) (za zi zc))))
   (zg (zP (PW.pt (VL (yA (vb (vR rfl B.isi (pv 9) rfl B.list PySem.Pv.boot_list) (fun _=>rfl))) (XL (zE (Jb (xS hr)) (pv 9) (pv 8) (zy _)))))
    (zd (zq wx))
    zu)
   (zg (zZ PassesOwn.never rfl (yW (pv 4)) (zp (i:=10) iQ.nd rfl (.inl rfl))
    (zd (zP (zE Yk (zaV xe0 M_system_shortest TS.cl hr (pv 0) (za (pv 10) zc)) (zV ix_list (pv 5) (yL aK bL bM (uk (xS hr)) (pv 6) (za (cl0 iU hr .nil rfl (za (pv 1) (za (pv 2) (za (pv 10) zc)))) zc)) (fun _ _=>rfl)) (zy _))
     (zd (zq wx))
     zu)))
   (zd (zq wx))))))),?_⟩
  have s16:=ye
  have s16:=ye
  obtain⟨l1,l6,lsm,lnd⟩:=of_decide_eq_true hM.g
  have hw27:=hM.w
  refine zj (fun σ H'=>H'=H/\σ=[some (.ref y),some (.ref t),some (.str (tx l)),some (.ref pp),some (.ref Wa),some (.ref Dw),some (.ref Dy),some (.ref Dr),none,none,none]) ?_ ?_
  ·rfl'
   exact⟨_,SqT.of hP.p,rfl,_,_,rfl,_,_,rfl,_,_,rfl,rfl,rfl,rfl,rfl⟩
  rintro σ H1 ⟨rfl,rfl⟩
  obtain⟨tbl,htb,_⟩:=id hTab
  refine zj (fun σ H'=>SamT TB H1 H'/\QC TB lp H1 H'/\∃ D8:Addr,H' D8=some (.lst (tW (yg W l)))/\σ=[some (.ref y),some (.ref t),some (.str (tx l)),some (.ref pp),some (.ref Wa),some (.ref Dw),some (.ref Dy),some (.ref Dr),some (.ref D8),none,none]) ?_ ?_
  ·rfl'
   unfold Zm
   refine⟨_,rfl,hTab,fun f H2 hf hLA hT2 sT oT=>?_⟩
   refine⟨Dw,tW W,.str (tx l),rfl,SqL.of (sT.at htb hP.w fun _ z=>by cases z),by rw[aa];lia,rfl,?_⟩
   refine WB (fun A A' h1 h2=>LamAt.same h1 h2) W [] [] H2 hLA (fun w hw=>⟨hM.L.inl w hw,by have:=hM.L.ln w hw;lia⟩) (by simp only[ba,Iss]) fun acc' H3 s3 hI3=>⟨W.map (kyF l),by simpa using hI3,fun ys p1 p2 D hD=>?_⟩
   rw[Zu hM.o hM.a hM.L hM.nd p1 p2]
   have sD:=zf (o:=.lst (tW (yg W l))) hD
   exact⟨sT.trans (SamT.of (s3.trans sD)),fun pos' q' h1 h2=>(oT pos' q' h1 h2).same' (s3.trans sD),D,zb,rfl⟩
  rintro σ H2 ⟨sT,oT,D8,h8,rfl⟩
  have hy2:=hy.samT sT htb
  have ho2:=ho.samT sT htb
  have hP2:=hP.samT sT htb
  have hWa2:=sT.at htb hWa fun _ z=>by cases z
  refine zj (fun σ H'=>Same H2 H'/\∃ D9:Addr,H' D9=some (.lst (tW (yg W l)))/\σ=[some (.ref y),some (.ref t),some (.str (tx l)),some (.ref pp),some (.ref Wa),some (.ref Dw),some (.ref Dy),some (.ref Dr),some (.ref D8),some (.ref D9),none]) ?_ ?_
  ·rfl'
   refine⟨y,o,qa,ps,k,l,ns,30,rfl,hy2,ho2,l6,hM.ne,fun p hp=>(hM.ln p hp).1,by decide,fun e=>?_,fun ws' e D H' s' _ hD=>?_⟩
   ·rw[hM.sw 30,if_neg (by lia)] at e
    cases e
   ·rw[hM.sw 30,if_neg (by lia)] at e
    cases e
    exact⟨s',D,hD,rfl⟩
  rintro σ H3 ⟨s3,D9,h9,rfl⟩
  refine zj (fun σ H'=>H'=H3/\σ=[some (.ref y),some (.ref t),some (.str (tx l)),some (.ref pp),some (.ref Wa),some (.ref Dw),some (.ref Dy),some (.ref Dr),some (.ref D8),some (.ref D9),none]) ?_ ?_
  ·rfl'
   refine⟨_,.inl (.lst h9),true,T.ll,V1 (Qe (l:=(yg W l).map dS) (m:=(yg W l).map dS) (.inl ⟨LsA.is ⟨_,h9,Iss.words _⟩,LsA.is ⟨_,s3 _ _ h8,Iss.words _⟩⟩) (by rw[W3];decide) ?_)⟩
   rw[vw]
   exact⟨false,rfl,zaD rfl⟩
  rintro σ H4 ⟨rfl,rfl⟩
  have hy4:=hy2.same s3
  have hP4:=hP2.same s3
  have hW4:=s3 _ _ hWa2
  refine zj (fun σ H'=>Same H4 H'/\∃ v10,σ=[some (.ref y),some (.ref t),some (.str (tx l)),some (.ref pp),some (.ref Wa),some (.ref Dw),some (.ref Dy),some (.ref Dr),some (.ref D8),some (.ref D9),v10]) ?_ ?_
  ·rfl'
   refine⟨⟨_,SqL.of hW4⟩,ForL.by (xs:=tW ws) (fun i σ H'=>Same H4 H'/\∃ v10,σ=[some (.ref y),some (.ref t),some (.str (tx l)),some (.ref pp),some (.ref Wa),some (.ref Dw),some (.ref Dy),some (.ref Dr),some (.ref D8),some (.ref D9),v10]) ⟨Same.refl _,_,rfl⟩ (fun i σ H' _ h=>SqL.of (h.1 _ _ hW4)) ?_ fun σ H' h=>h⟩
   rintro i x σ H' hx ⟨hs,v10,rfl⟩
   rw[au] at hx
   obtain⟨w,hw,rfl⟩:=rK.mp hx
   obtain⟨hw1,hw2⟩:=hws w (ae hw)
   obtain⟨J,j1,j2,j3,j4⟩:=hM.fo hw1 hw2
   obtain⟨a1,a2⟩:=Y8 hM.o hM.a hM.L hw1
   obtain⟨dx,xs,g1,g2,g3⟩:=hy4.same hs
   simp only[yN,dj,di]
   rfl'
   refine⟨_,_,g1,rfl,y,o,qa,w,ps,J,rfl,hy4.same hs,hM.ne,hM.n,hM.ln,j2,j3,j1,fun H5 s5=>?_⟩
   have hP5:=hP4.same (hs.trans s5)
   exact⟨.inl ⟨_,SqL.of hP5.y.top⟩,yI hP5.t hM.t hw1 fun D H6 s6 _ hD=>we (hP5.y.same s6) hD a1 (by rw[aa];lia) ⟨_,_,rfl,SqL.of (s6 _ _ hP5.w),_,a2,rfl,xx (fun h=>absurd (by rw[j4]) h) fun _=>(hs.trans s5).trans s6⟩⟩
  rintro σ H5 ⟨s5,v10,rfl⟩
  rfl'
  exact q _ (sT.trans (SamT.of (s3.trans s5))) fun pos' q' h1 h2=>(oT pos' q' h1 h2).same' (s3.trans s5)
theorem XX{ws:List (List Nat)}{i:Nat}(h:i<ws.length):∃ w,w ∈ ws/\atI (tW ws) ((i:Nat):Int)=some (.str (tx w)):=⟨ws[i],dD h,ji (by rw[au,ag h];rfl)⟩
theorem Xx{ws:List (List Nat)}{i:Nat}(h:i<ws.length):∃ w,w ∈ ws/\atI (tW ws) (0+(i:Int) - 1)=some (.str (tx w)):=by
 by_cases hi:i=0
 ·subst hi
  rcases bZ ws with rfl | ⟨u,w,e⟩
  ·simp at h
  ·rw[cb] at e
   subst e
   refine⟨w,by simp,?_⟩
   have:tW (u ++ [w])=tW u ++ [.str (tx w)]:=aE
   rw[this]
   exact W6 _ _
 ·obtain⟨w,h1,h2⟩:=XX (ws:=ws) (i:=i - 1) (by lia)
  refine⟨w,h1,?_⟩
  rw[show (0:Int)+(i:Int) - 1=((i - 1:Nat):Int) by lia]
  exact h2
noncomputable abbrev zaw(ps:List zB)(l:List Nat)(W:List (List Nat)):List (List Int):=(yg W l).map (kz ps l (yg W l))
def FoW(ps:List zB)(l:List Nat)(tab:List (List Int))(W:List (List Nat)):Prop:=∀ w ∈ W,∀ c ∈ l,YK ps (w ++ [c])=wA W (zX l tab) (w ++ [c])
section
variable{k:Nat}{l:List Nat}{ns:List Int}{tab:List (List Int)}{W:List (List Nat)}{R ps:List zB}
theorem Mt.len(h:Mt k l ns tab W R ps):(yg W l).length=W.length:=(vq h.o h.a h.L h.nd).length_eq
theorem Mt.mem(h:Mt k l ns tab W R ps){x:List Nat}:x ∈ yg W l ↔ x ∈ W:=yt h.o h.a h.L
theorem in1{w:List Nat}{c:Nat}(h:InW l w)(hc:c ∈ l):InW l (w ++ [c]):=fun x hx=>by
 rcases rF.mp hx with q | q
 ·exact h x q
 ·rw[rE.mp q]
  exact hc
theorem Mt.goodM(h:Mt k l ns tab W R ps)(hf:FoW ps l tab W)(h8:W.length<=8):zY l (zaw ps l W):=by
 have hp:=bT h.L.nil
 refine⟨by rw[aa,h.len];lia,by rw[aa,h.len];lia,fun x hx=>?_,fun x hx n hn=>?_⟩
 ·obtain⟨w,_,rfl⟩:=rG.mp hx
  exact aa ..
 ·obtain⟨w,hw,rfl⟩:=rG.mp hx
  obtain⟨c,hc,rfl⟩:=rG.mp hn
  have hw':=h.mem.mp hw
  have hm:YK ps (w ++ [c]) ∈ yg W l:=by
   rw[hf w hw' c hc]
   exact h.mem.mpr (h.L.rep_is h.o h.a (in1 (h.L.inl w hw') hc)).1
  have:=aC hm
  rw[aa]
  lia
end
def uV(K:rC)(CV TB:Addr):Sp:=fun vs H Q _=>∃(x tw t Dw Dy Dr pp Wa:Addr) (rsw rs0 rs:List Addr) (ps R:List zB) (k:Nat) (l:List Nat) (ns:List Int) (tab:List (List Int)) (W ws:List (List Nat)),vs=[.ref x,.ref t,.str (tx l),.ref pp,.ref Wa]/\WorAt CV H x l tw rsw (zaw ps l W)/\Mt k l ns tab W R ps/\W.length<=8/\FoW ps l tab W/\Pt K H l tab W R t rs0 Dw Dy Dr rs pp/\H Wa=some (.lst (tW ws))/\(∀ w ∈ ws,InW l w/\w.length<=100)/\ws.length<=63/\TabOk H TB lp2 lq2/\∀ H',Q (.bl true) H'
structure TLw(K:rC)(CV:Addr):Prop where
 iW:aR K (.ref CV) (.ref CV)=some true
 hn:cr K (.builtin "object.__class__") "__get__" = some (some (.builtin "getset_descriptor.__get__"))
 tk:da K (.builtin "object.__class__")=some true
 aW:ac K (.ref CV) "__class__" = some (some (.builtin "object.__class__"))
 oW:br K CV (.type "object")=some true
theorem gg:zm ["_law_found","_law_table_here","_law_letters_here","_law_parts","_law_words","_law_least_here","_law_ways_here","_law_rules","_law_told","_law_k","_law_word_here","_law_room","_law_due","_law_ahead","_law_same"] ["_law_found","_law_table_here","_law_letters_here","_law_parts","_law_words"] (ze xT):=by nofun
theorem VM{f CV CC TB2:Addr}{fd:FuncData}(B:Bt mg)(T:TLw K CV)(CLw:Xp K mg CV)(hsorted:X6 mg)(hCd:PySem.W.CodeHd base CC TB2)(hBt:base.BuiltinsAt mg TB2)(hgT:rq≠TB2)(F:Fun K "_law_rooms" "_law_rooms" xT f fd)(HC:fd.code=.ref CC)(pH:Df P w K mg base CX0 4 "_law_rules_hold" ["_law_world","_law_rules"] [] (ZV K CV))(pP:Df P w K mg base CX0 2 "_law_leads" ["_law_world","_law_told","_law_room","_law_word_here","_law_due"] [] (vK K CV))(iU:Df P w K mg base CX0 1 "_law_ways" ["_law_table_here","_law_letters_here","_law_word_here"] [] wq)(rh:Df P w K mg base CX0 4 "_law_pair" ["_law_world","_law_one","_law_other","_law_same"] [] (uz K CV))(M_world_rooms:DM P w K mg base CX0 1 CV "rooms" ["self"] (vj CV)):FnOk P w K mg base CX0 9 f fd ["_law_found","_law_table_here","_law_letters_here","_law_parts","_law_words"] (uV K CV TB2):=by
 refine Wx F HC gg (fun vs H Q E h=>?_) (fun A outer s H vs Q E hr h=>?_)
 ·obtain⟨x,tw,t,Dw,Dy,Dr,pp,Wa,rsw,rs0,rs,ps,R,k,l,ns,tab,W,ws,rfl,_⟩:=h
  rfl
 ·obtain⟨x,tw,t,Dw,Dy,Dr,pp,Wa,rsw,rs0,rs,ps,R,k,l,ns,tab,W,ws,rfl,hX,hM,h8,hf,hP,hWa,hws,hwl,hTab,q⟩:=h
  refine⟨_,(zg (ZW (pv 3) (uR (n:=3) rfl (zK (zp (i:=5) gg.nd rfl (.inl rfl)) (zK (zp (i:=6) gg.nd rfl (.inl rfl)) (zK (zp (i:=7) gg.nd rfl (.inl rfl)) wS)))))
   (zg (zk (i:=8) gg.nd rfl (.inl rfl) (jI (k:=2) (p:="_law_word_here") (y:="_law_letters_here") (iy:=2) (c:=s.heap.objs.size+1) (F:=rankF) (tb:=tbK K) ZI ⟨rfl,rfl,rfl,by decide,rfl,rfl,by decide,by decide⟩ (hr.mono (by decide)) rfl hsorted eB (za (pv 5) zc) rfl hCd hBt hgT rfl rfl (by intro _ _ _ _;exact rfl) rfl rfl rfl (fun s H f cv hr'=>xN (za (zo zW rfl B.len aB (za (pv 0) zc)) (za (xU (own:=["_law_sign"]) (caps:=["_law_letters_here"]) (ix:=[1]) (tt:=ud) (te:=tBM K "str" Xa (ya 1) (zN (ya 0) wQ)) rfl (jO (sc:=Z0 ((zD xT).getD 1 (.Pass ⟨0,0,0,0⟩))) rfl (by symm) (by symm) (by symm) rfl (by symm) (by symm) rfl) (vz (pv 0)) (fun _ _ _ _ _ _=>zp (i:=0) (show List.Nodup [_,_] by decide) rfl (.inl rfl)) (fun _ _ _ _ _ _=>xl) (fun _ _ _ _ _ _=>yL bx cT cU YS (pv 1) (za (pv 0) zc))) zc)))))
   (zg (zP (PW.pt (VL (yA (vb (VU rfl B.isi (pv 0) rfl CLw.g) (fun _=>rfl))) (VL (zE Yk (me0 M_world_rooms CLw.cl hr (pv 0)) (zo zW rfl B.len aB (za (pv 8) zc)) (zy _)) (XL (yA (vb (cl0 pH hr .nil rfl (za (pv 0) (za (pv 7) zc))) (fun _=>rfl)))))))
    (zd (zq wx))
    zu)
   (zg (zZ PassesOwn.never rfl (yv rfl B.range (za (zo zW rfl B.len aB (za (pv 4) zc)) zc)) (zp (i:=9) gg.nd rfl (.inl rfl))
    (zg (zk (i:=10) gg.nd rfl (.inl rfl) (zV ix_list (pv 4) (pv 9) (fun _ _=>rfl)))
    (zg (zk (i:=11) gg.nd rfl (.inl rfl) (zv yj (pv 9) (zo zW rfl B.len aB (za (pv 8) zc))))
    (zg (zk (i:=12) gg.nd rfl (.inl rfl) (zV ix_list (pv 5) (yL aK bL bM (uk (xS hr)) (pv 6) (za (cl0 iU hr .nil rfl (za (pv 1) (za (pv 2) (za (zv zL (zV ix_list (pv 8) (pv 11) (fun _ _=>rfl)) (pv 10)) zc)))) zc)) (fun _ _=>rfl)))
    (zg (zP (yA (vb (cl0 pP hr .nil rfl (za (pv 0) (za (pv 8) (za (pv 11) (za (pv 10) (za (pv 12) zc)))))) (fun _=>rfl)))
     (zd (zq wx))
     zu)
    (zg (zk (i:=12) gg.nd rfl (.inl rfl) (zV ix_list (pv 5) (yL aK bL bM (uk (xS hr)) (pv 6) (za (cl0 iU hr .nil rfl (za (pv 1) (za (pv 2) (za (pv 10) zc)))) zc)) (fun _ _=>rfl)))
    (zg (zP (yA (vb (cl0 pP hr .nil rfl (za (pv 0) (za (pv 8) (za zi (za (pv 10) (za (pv 12) zc)))))) (fun _=>rfl)))
     (zd (zq wx))
     zu)
    (zg (zk (i:=13) gg.nd rfl (.inl rfl) (zV ix_list (pv 4) (zv qG (pv 9) zi) (fun _ _=>rfl)))
    (zg (zk (i:=14) gg.nd rfl (.inl rfl) (yK (Ju (xS hr)) (cl0 iU hr .nil rfl (za (pv 1) (za (pv 2) (za (pv 13) zc)))) (cl0 iU hr .nil rfl (za (pv 1) (za (pv 2) (za (pv 10) zc)))) (zy _)))
    (zd (zP (yA (vb (cl0 rh hr .nil rfl (za (pv 0) (za (pv 13) (za (pv 10) (za (pv 14) zc))))) (fun _=>rfl)))
     (zd (zq wx))
     zu)))))))))))
   (zd (zq wx)))))),?_⟩
  have s16:=ye
  have s16:=ye
  obtain⟨l1,l6,lsm,lnd⟩:=of_decide_eq_true hM.g
  have hw1:=bT hM.L.nil
  have hGM:=hM.goodM hf h8
  have hMl:=hM.len
  refine zj (fun σ H'=>H'=H/\σ=[some (.ref x),some (.ref t),some (.str (tx l)),some (.ref pp),some (.ref Wa),some (.ref Dw),some (.ref Dy),some (.ref Dr),none,none,none,none,none,none,none]) ?_ ?_
  ·rfl'
   exact⟨_,SqT.of hP.p,rfl,_,_,rfl,_,_,rfl,_,_,rfl,rfl,rfl,rfl,rfl⟩
  rintro σ H1 ⟨rfl,rfl⟩
  obtain⟨tbl,htb,_⟩:=id hTab
  refine zj (fun σ H'=>SamT TB2 H1 H'/\∃ D8:Addr,H' D8=some (.lst (tW (yg W l)))/\σ=[some (.ref x),some (.ref t),some (.str (tx l)),some (.ref pp),some (.ref Wa),some (.ref Dw),some (.ref Dy),some (.ref Dr),some (.ref D8),none,none,none,none,none,none]) ?_ ?_
  ·rfl'
   unfold Zm
   refine⟨_,rfl,hTab,fun f H2 hf hLA hT2 sT oT=>?_⟩
   refine⟨Dw,tW W,.str (tx l),rfl,SqL.of (sT.at htb hP.w fun _ z=>by cases z),by rw[aa];lia,rfl,?_⟩
   refine WB (fun A A' h1 h2=>LamAt.same h1 h2) W [] [] H2 hLA (fun w hw=>⟨hM.L.inl w hw,by have:=hM.L.ln w hw;lia⟩) (by simp only[ba,Iss]) fun acc' H3 s3 hI3=>⟨W.map (kyF l),by simpa using hI3,fun ys p1 p2 D hD=>?_⟩
   rw[Zu hM.o hM.a hM.L hM.nd p1 p2]
   have sD:=zf (o:=.lst (tW (yg W l))) hD
   exact⟨sT.trans (SamT.of (s3.trans sD)),D,zb,rfl⟩
  rintro σ H2 ⟨sT,D8,hD8,rfl⟩
  have hX2:=hX.samT sT htb
  have hP2:=hP.samT sT htb
  have hWa2:=sT.at htb hWa fun _ z=>by cases z
  clear hX hP hWa sT htb hTab
  obtain⟨dx,ho,_⟩:=id hX2
  refine zj (fun σ H'=>H'=H2/\σ=[some (.ref x),some (.ref t),some (.str (tx l)),some (.ref pp),some (.ref Wa),some (.ref Dw),some (.ref Dy),some (.ref Dr),some (.ref D8),none,none,none,none,none,none]) ?_ ?_
  ·rfl'
   refine⟨_,.inl (.ins ho CLw.cl T.aW T.hn T.tk T.oW),true,T.iW,V1 ⟨_,_,ho,rfl,jZ hX2 ⟨_,.inl ⟨_,SqL.of hD8,rfl⟩,rfl,xx (fun h=>absurd (by rw[aa,aa]) h) fun _=>Uv hX2 hGM hP2.r (fun r hr=>?_) ?_⟩⟩⟩
   ·obtain⟨r1,r2,r3,_⟩:=hM.L.rul r hr
    have r4:=hM.L.inl _ r2
    exact⟨r1,r4,ky hM.e hM.nd hM.a hM.L hf r1 r4 r3.symm⟩
   ·exact⟨true,rfl,V1 rfl⟩
  rintro σ H3 ⟨rfl,rfl⟩
  have hlW:(tW ws).length=ws.length:=aa ..
  refine zj (fun σ H'=>Same H3 H'/\∃ v9 v10 v11 v12 v13 v14,σ=[some (.ref x),some (.ref t),some (.str (tx l)),some (.ref pp),some (.ref Wa),some (.ref Dw),some (.ref Dy),some (.ref Dr),some (.ref D8),v9,v10,v11,v12,v13,v14]) ?_ ?_
  ·rfl'
   refine⟨_,.inl ⟨_,SqL.of hWa2,rfl⟩,by rw[hlW];lia,by rw[hlW];lia,?_⟩
   rw[hlW,show ((ws.length:Nat):Int).toNat=ws.length from rfl]
   refine ForR.by (fun i σ H'=>Same H3 H'/\∃ v9 v10 v11 v12 v13 v14,σ=[some (.ref x),some (.ref t),some (.str (tx l)),some (.ref pp),some (.ref Wa),some (.ref Dw),some (.ref Dy),some (.ref Dr),some (.ref D8),v9,v10,v11,v12,v13,v14]) ⟨Same.refl _,_,_,_,_,_,_,rfl⟩ ?_ fun σ H' h=>h
   rintro i σ H' hi ⟨hs,v9,v10,v11,v12,v13,v14,rfl⟩
   obtain⟨w,hw,hwa⟩:=XX hi
   obtain⟨u,hu,hua⟩:=Xx hi
   obtain⟨hwl1,hwl2⟩:=hws w hw
   obtain⟨hul1,_⟩:=hws u hu
   simp only[yN,dj,di]
   refine zj (fun σ G=>G=H'/\σ=[some (.ref x),some (.ref t),some (.str (tx l)),some (.ref pp),some (.ref Wa),some (.ref Dw),some (.ref Dy),some (.ref Dr),some (.ref D8),some (.int (0+(i:Int))),some (.str (tx w)),v11,v12,v13,v14]) ?_ ?_
   ·rfl'
    exact⟨_,SqL.of (hs _ _ hWa2),by rw[Int.zero_add];exact hwa⟩
   rintro σ H1 ⟨rfl,rfl⟩
   obtain⟨r,hr0,hr1⟩:∃ r:Nat,(0+(i:Int)) % ((yg W l).length:Int)=(r:Int)/\r<(yg W l).length:=by
    refine⟨((0+(i:Int)) % ((yg W l).length:Int)).toNat,?_,?_⟩
    ·have:=bt (0+(i:Int)) (b:=((yg W l).length:Int)) (by lia)
     lia
    ·have:=aY (0+(i:Int)) (b:=((yg W l).length:Int)) (by lia)
     lia
   refine zj (fun σ G=>G=H1/\σ=[some (.ref x),some (.ref t),some (.str (tx l)),some (.ref pp),some (.ref Wa),some (.ref Dw),some (.ref Dy),some (.ref Dr),some (.ref D8),some (.int (0+(i:Int))),some (.str (tx w)),some (.int (r:Nat)),v12,v13,v14]) ?_ ?_
   ·rfl'
    refine⟨_,.inl ⟨_,SqL.of (hs _ _ hD8),rfl⟩,?_⟩
    rw[show (tW (yg W l)).length=(yg W l).length from aa ..,hr0]
    exact⟨by lia,rfl⟩
   rintro σ H2 ⟨rfl,rfl⟩
   have hm:=ag hr1
   generalize (yg W l)[r]=m at hm
   have hmW:=hM.mem.mp (ae hm)
   have hml:=hM.L.inl m hmW
   have hmn:=hM.L.ln m hmW
   have hma:atI (tW (yg W l)) ((r:Nat):Int)=some (.str (tx m)):=ji (by rw[au,hm];rfl)
   have hmw:=xa hml hwl1
   obtain⟨a1,a2⟩:=Y8 hM.o hM.a hM.L hmw
   obtain⟨b1,b2⟩:=Y8 hM.o hM.a hM.L hwl1
   have hrm:=hM.mem.mpr (hM.L.rep_is hM.o hM.a hmw).1
   have hrw:=hM.mem.mpr (hM.L.rep_is hM.o hM.a hwl1).1
   have hl1:=xZ hM.e hM.nd hM.a hM.L hf hm _ rfl hwl1
   have hl2:=xZ hM.e hM.nd hM.a hM.L hf (kE hM.e hM.nd hM.a hM.L) _ rfl hwl1
   rw[cA] at hl2
   have hPx:=hP2.same hs
   refine zj (fun σ G=>Same H3 G/\σ=[some (.ref x),some (.ref t),some (.str (tx l)),some (.ref pp),some (.ref Wa),some (.ref Dw),some (.ref Dy),some (.ref Dr),some (.ref D8),some (.int (0+(i:Int))),some (.str (tx w)),some (.int (r:Nat)),some (.str (tx (wA W (zX l tab) (m ++ w)))),v13,v14]) ?_ ?_
   ·rfl'
    refine⟨.inl ⟨_,SqL.of hPx.y.top⟩,_,SqL.of (hs _ _ hD8),_,hma,_,rfl,?_,?_⟩
    ·have:=yu m
     lia
    rw[vn]
    exact yI hPx.t hM.t hmw fun D H6 s6 _ hD=>we (hPx.y.same s6) hD a1 (by rw[aa];lia) ⟨_,_,rfl,SqL.of (s6 _ _ hPx.w),_,a2,hs.trans s6,rfl⟩
   rintro σ H5 ⟨s5,rfl⟩
   refine zj (fun σ G=>G=H5/\σ=[some (.ref x),some (.ref t),some (.str (tx l)),some (.ref pp),some (.ref Wa),some (.ref Dw),some (.ref Dy),some (.ref Dr),some (.ref D8),some (.int (0+(i:Int))),some (.str (tx w)),some (.int (r:Nat)),some (.str (tx (wA W (zX l tab) (m ++ w)))),v13,v14]) ?_ ?_
   ·rfl'
    exact qB (hX2.same s5) hGM (by lia) (by rw[aa];lia) hwl1 (s5 _ _ hD8) hrm hl1 ⟨true,rfl,V1 rfl⟩
   rintro σ H6 ⟨rfl,rfl⟩
   have hPy:=hP2.same s5
   refine zj (fun σ G=>Same H3 G/\σ=[some (.ref x),some (.ref t),some (.str (tx l)),some (.ref pp),some (.ref Wa),some (.ref Dw),some (.ref Dy),some (.ref Dr),some (.ref D8),some (.int (0+(i:Int))),some (.str (tx w)),some (.int (r:Nat)),some (.str (tx (wA W (zX l tab) w))),v13,v14]) ?_ ?_
   ·rfl'
    exact⟨.inl ⟨_,SqL.of hPy.y.top⟩,yI hPy.t hM.t hwl1 fun D H6 s6 _ hD=>we (hPy.y.same s6) hD b1 (by rw[aa];lia) ⟨_,_,rfl,SqL.of (s6 _ _ hPy.w),_,b2,s5.trans s6,rfl⟩⟩
   rintro σ H7 ⟨s7,rfl⟩
   refine zj (fun σ G=>G=H7/\σ=[some (.ref x),some (.ref t),some (.str (tx l)),some (.ref pp),some (.ref Wa),some (.ref Dw),some (.ref Dy),some (.ref Dr),some (.ref D8),some (.int (0+(i:Int))),some (.str (tx w)),some (.int (r:Nat)),some (.str (tx (wA W (zX l tab) w))),v13,v14]) ?_ ?_
   ·rfl'
    exact qB (hX2.same s7) hGM (by lia) (by rw[aa];lia) hwl1 (s7 _ _ hD8) hrw hl2 ⟨true,rfl,V1 rfl⟩
   rintro σ H8 ⟨rfl,rfl⟩
   refine zj (fun σ G=>G=H8/\σ=[some (.ref x),some (.ref t),some (.str (tx l)),some (.ref pp),some (.ref Wa),some (.ref Dw),some (.ref Dy),some (.ref Dr),some (.ref D8),some (.int (0+(i:Int))),some (.str (tx w)),some (.int (r:Nat)),some (.str (tx (wA W (zX l tab) w))),some (.str (tx u)),v14]) ?_ ?_
   ·rfl'
    exact⟨_,SqL.of (s7 _ _ hWa2),hua⟩
   rintro σ H9 ⟨rfl,rfl⟩
   have hPz:=hP2.same s7
   refine zj (fun σ G=>Same H3 G/\σ=[some (.ref x),some (.ref t),some (.str (tx l)),some (.ref pp),some (.ref Wa),some (.ref Dw),some (.ref Dy),some (.ref Dr),some (.ref D8),some (.int (0+(i:Int))),some (.str (tx w)),some (.int (r:Nat)),some (.str (tx (wA W (zX l tab) w))),some (.str (tx u)),some (.bl (decide (zX l tab u=zX l tab w)))]) ?_ ?_
   ·rfl'
    refine yI hPz.t hM.t hul1 fun Da Ha sa _ ha=>yI (hPz.t.same sa) hM.t hwl1 fun Db Hb sb _ hb=>Qq (.inl ⟨LsA.is ⟨_,sb _ _ ha,Iss.ints _⟩,LsA.is ⟨_,hb,Iss.ints _⟩⟩) (by rw[jD];decide) ?_
    rw[uM]
    exact⟨(s7.trans sa).trans sb,rfl⟩
   rintro σ H10 ⟨s10,rfl⟩
   rfl'
   refine XM (hX2.same s10) hGM hul1 hwl1 ?_ fun H' s'=>⟨true,rfl,V1 ?_⟩
   ·by_cases e:zX l tab u=zX l tab w
    ·rw[if_pos (decide_eq_true e)]
     exact ky hM.e hM.nd hM.a hM.L hf hul1 hwl1 e
    ·rw[if_neg (by simpa using e)]
     exact YR hM.e hM.nd hM.a hM.L hf hul1 hwl1 e
   ·exact s10.trans s'
  rintro σ H4 ⟨s4,v9,v10,v11,v12,v13,v14,rfl⟩
  rfl'
  exact q _
abbrev MkS(P:Program)(w:World)(K:rC)(mg:Str->Option Value)(base:Heap)(CO CR CW CT CH:Addr):Prop:=DMk P w K mg base (CXx P w) 5 CH ["self","order","rules"] (jF K CO CR CW CT CH)
theorem Iss.drop{H:Hp}:∀(n:Nat) {l:List L3.D} {vs:List V},Iss K H l vs->Iss K H (l.drop n) (vs.drop n)
 | 0,_,_,h=>h
 | n+1,[],vs,h=>by
  simp only[Iss] at h
  subst h
  simp only[List.drop_nil,Iss]
 | n+1,d::l,vs,h=>by
  simp only[Iss] at h
  obtain⟨v,r,rfl,_,h2⟩:=h
  exact Iss.drop n h2
theorem Iss.take{H:Hp}:∀(n:Nat) {l:List L3.D} {vs:List V},Iss K H l vs->Iss K H (l.take n) (vs.take n)
 | 0,_,_,_=>by simp only[eQ,Iss]
 | n+1,[],vs,h=>by
  simp only[Iss] at h
  subst h
  simp only[List.take_nil,Iss]
 | n+1,d::l,vs,h=>by
  simp only[Iss] at h
  obtain⟨v,r,rfl,h1,h2⟩:=h
  simp only[dP,Iss]
  exact⟨v,_,rfl,h1,Iss.take n h2⟩
theorem vh{H H':Hp}{a:Addr}{xs:List V}(s:Same H H')(h:SqL K H a xs):SqL K H' a xs:=by
 rcases h with (h | ⟨o',h⟩) | h
 ·exact .inl (.inl (s _ _ h))
 ·exact .inl (.inr ⟨o',s _ _ h⟩)
 ·exact .inr h
structure RuL(k:Nat)(l:List Nat)(ws:List Int)(m:Nat)(ps:List zB):Prop where
 len:∀ p ∈ ps,p.1.length<=m/\p.2.length<=m
 inn:∀ p ∈ ps,(∀ c ∈ p.1,c ∈ l)/\∀ c ∈ p.2,c ∈ l
 lt:∀ p ∈ ps,zS k l ws p.2 p.1=true
theorem RuL.inL{k:Nat}{l:List Nat}{ws:List Int}{m:Nat}{ps:List zB}(h:RuL k l ws m ps)(hm:m<=1000):InL l ps:=fun p hp=>by
 have h1:=h.len p hp
 have h2:=h.inn p hp
 exact⟨by lia,by lia,h2.1,h2.2⟩
theorem RuL.fault{k:Nat}{l:List Nat}{ws:List Int}{m:Nat}{ps:List zB}(h:RuL k l ws m ps):wG k l ws ps 0=none:=vP fun m p e=>h.lt p (ae e)
theorem Vx(m:Nat)(v:V):(ak m [v]).flatten=ak m v:=by
 induction m with
 | zero=>rfl
 | succ m ih=>rw[aU,cF,ih,aU];rfl
theorem jV(ws:List (List Nat))(lo hi:Option Int):∃ ws':List (List Nat),YB (tW ws) lo hi=tW ws'/\(∀ w ∈ ws',w ∈ ws)/\ws'.length<=ws.length:=by
 unfold YB
 generalize HT.sIx (tW ws).length 0 lo=i
 generalize HT.sIx (tW ws).length (tW ws).length hi - i=j
 refine⟨(ws.drop i).take j,?_,fun w hw=>cY (cj hw),?_⟩
 ·unfold tW
  rw[<- e6,<- eZ]
 ·rw[aO,bJ]
  lia
noncomputable def szA(m:Nat):Int:=([41,9,7,6,6,5]:List Int).getD (m - 1) 5
theorem zac{m:Nat}{L:Nat}(h1:1<=m)(h6:m<=6)(h:(L:Int)<szA m):xf m L:=by
 have:m=1\/m=2\/m=3\/m=4\/m=5\/m=6:=by lia
 unfold xf
 rcases this with rfl | rfl | rfl | rfl | rfl | rfl <;> simp [szA] at h <;> lia
theorem Jk{m:Nat}(h1:1<=m)(h6:m<=6):5<=szA m/\szA m<=41:=by
 have:m=1\/m=2\/m=3\/m=4\/m=5\/m=6:=by lia
 rcases this with rfl | rfl | rfl | rfl | rfl | rfl <;> simp [szA]
theorem Ks{m:Nat}(h1:1<=m)(h6:m<=6):atI [V.int 41,.int 9,.int 7,.int 6,.int 6,.int 5] (((m:Nat):Int) - 1)=some (.int (szA m)):=by
 have:m=1\/m=2\/m=3\/m=4\/m=5\/m=6:=by lia
 rcases this with rfl | rfl | rfl | rfl | rfl | rfl <;> rfl
theorem TabOk.far{H H':Hp}{T T2:Addr}{pos:Pos}{q:Str}{qs:Array Value}(h:TabOk H T2 pos q)(s:SamT T H H')(hT:H T=some (.tbl qs))(hne:T2≠T):TabOk H' T2 pos q:=by
 obtain⟨ps,h1,h2,h3⟩:=h
 refine⟨ps,s _ _ hne h1,h2,?_⟩
 rcases h3 with h3 | ⟨c',h4,h5⟩
 ·exact .inl h3
 ·exact .inr ⟨c',h4,s.at hT h5 fun _ z=>by cases z⟩
theorem Mt.of{k m n:Nat}{l:List Nat}{ns:List Int}{tab:List (List Int)}{W:List (List Nat)}{R:List zB}(hg:vm l=true)(hG:zY l tab)(hE:OE l ns k)(hL:Lst (decide (k=1)) l (ltO k l ns) (zX l tab) W R)(hw:W.length<=27)(hlm:l.length=m)(htl:tab.length=n)(hn:m=1\/(m=2/\n<=3)\/n=2)(j:Nat):Mt k l ns tab W R (R.drop j ++ R.take j)/\1<=R.length/\R.length<=100/\(W.length<=8->∀ w ∈ W,xf l.length (w.length+1)):=by
 obtain⟨l1,l6,_,_⟩:=of_decide_eq_true hg
 have hc:=hL.cnt
 have h4:n=2->W.length<=4:=fun e=>by
  have:=few hG hL.ways_nd hL.inl
  rw[htl,e] at this
  exact this
 have hR:1<=R.length/\R.length<=100:=by
  have hmul:W.length * 1<=W.length * l.length:=Nat.mul_le_mul_left _ l1
  rcases hn with e | ⟨e,_⟩ | e
  ·rw[hlm,e] at hc
   lia
  ·rw[hlm,e] at hc
   lia
  ·have:=h4 e
   have:W.length * l.length<=4 * 6:=dk this l6
   lia
 refine⟨⟨hg,hG,hE,hL,hw,fun r=>⟨fun h=>?_,fun h=>?_⟩,?_⟩,hR.1,hR.2,fun h8 w hw=>?_⟩
 ·rcases rF.mp h with h | h
  ·exact cY h
  ·exact cj h
 ·rw[<- bW j R] at h
  rcases rF.mp h with h | h
  ·exact aF _ h
  ·exact bf _ h
 ·rw[am,bJ,aO]
  lia
 ·have:=hL.ln w hw
  unfold xf
  rcases hn with e | ⟨e,_⟩ | e
  ·lia
  ·lia
  ·have:=h4 e
   lia
theorem Zg{H:Hp}{p D Sz:Addr}{cs:List Int}{l:List Nat}{m:Nat}{σ:L2.St}{Q:VK}{g:TG}(hg:g=yN 0)(hσ:uI σ 1 [2,14,1]=[none,some (.str (tx l)),some (.ref Sz),some (.int (m:Nat))])(hlm:l.length=m)(m1:1<=m)(m6:m<=6)(hSz:H Sz=some (.lst [.int 41,.int 9,.int 7,.int 6,.int 6,.int 5]))(hp:H p=some (.lst (cs.map V.int)))(hcl:cs.length<=63)(hD:H D=none)
  (q:∀(ws:List (List Nat)) (H':Hp),Same H H'->H' D=some (.lst (tW ws))->ws.length<=63->(∀ w ∈ ws,InW l w/\xf l.length w.length)->Q (.ref D) H') :
  CompL K p g ud (je x0 [] E0 (zN (ya 1) (zN (ya 0) (zN (tOp (rI (fun _ j=>0<j) fun i j=>.int (i % j)) (tOp (rI Kt fun i j=>.int (i / j)) (ya 0) (tC (.int 5))) (tOp (rIx K) (ya 2) (tOp (rI0 fun i j=>.int (i - j)) (ya 3) (tC (.int 1))))) wQ)))) 1 [2,14,1] σ H Q D:=by
 have s16:=ye
 subst hg
 refine CompL.by (xs:=cs.map V.int) (fun i acc H'=>∃ ws:List (List Nat),acc=tW ws/\ws.length=i/\Same H H'/\H' D=some (.lst acc)/\∀ w ∈ ws,InW l w/\xf l.length w.length) ⟨[],rfl,rfl,zf hD,zb,fun w h=>(nomatch h)⟩ (fun i acc H' _ h=>by obtain⟨_,_,_,hs,_⟩:=h;exact SqL.of (hs _ _ hp)) ?_ ?_
 ·rintro i v acc H' hv ⟨ws,rfl,hi,hs,hH,hw⟩
  rw[au] at hv
  obtain⟨c,hc,rfl⟩:=rK.mp hv
  have hil:=(rD.mp hc).1
  obtain⟨p5,p41⟩:=Jk m1 m6
  have b0:=bt (c / 5) (b:=szA m) (by lia)
  have b1:=aY (c / 5) (b:=szA m) (by lia)
  rw[hσ]
  simp only[ud]
  rfl'
  refine⟨qk,⟨by decide,by decide⟩,.inl ⟨_,SqL.of (hs _ _ hSz),_,Ks m1 m6,_,rfl,by lia,WX (by lia) (by lia) b0 (by lia) fun w h1 h2=>⟨hH,by rw[aa];lia,CNx.mk (by rw[aa];exact hil) ⟨ws ++ [w],by simp [tW],by rw[am,hi];rfl,zF hs hD,zb,fun x hx=>?_⟩⟩⟩⟩
  rcases rF.mp hx with h | h
  ·exact hw x h
  ·rw[rE.mp h]
   exact⟨h2,by rw[hlm];exact zac m1 m6 (by lia)⟩
 ·rintro acc H' ⟨ws,rfl,hi,hs,hH,hw⟩
  rw[aa] at hi
  exact q ws H' hs hH (by lia) hw
def Zy(K:rC)(TB TB2:Addr):Sp:=fun vs H Q _=>∃(a:Addr) (ns:List Int),vs=[.ref a]/\SqL K H a (ns.map V.int)/\H TB=some (.tbl #[])/\H TB2=some (.tbl #[])/\∀ H',Q (.bl true) H'
theorem fZ:zm ["_law_script","_law_many","_law_letters_here","_law_cell","_law_rooms_here","_law_table_here","_law_kind","_law_least_here","_law_ways_here","_law_rules","_law_at","_law_handed","_law_weights","_law_system","_law_sizes","_law_words","_law_parts","_law_found","_law_refused"] ["_law_script"] (ze qy):=by nofun
theorem QO{f CO CR CW CT CH CV TB TB2:Addr}{fd:FuncData}(B:Bt mg)(TS:YN K mg CH)(MS:MkS P w K mg base CO CR CW CT CH)(F:Fun K "law" "law" qy f fd)(pT:Df P w K mg base CX0 1 "_law_letters" ["_law_cell","_law_many"] [] wk)(iS:Df P w K mg base CX0 1 "_law_cell_at" ["_law_script","_law_k"] [] (wf K))(pX:Df P w K mg base CX0 1 "_law_table" ["_law_many","_law_rooms_here","_law_cell"] [] qW)(pY:Df P w K mg base CX0 2 "_law_least" ["_law_table_here","_law_letters_here","_law_flipped"] [] (u8 K))(px:Df P w K mg base CX0 8 "_law_world_asked" ["_law_system"] [] (WF K CO CR CW CH CV))(pZ:Df P w K mg base CX0 6 "_law_order" ["_law_kind","_law_letters_here","_law_weights"] [] (jB K CO CR CW))(rj:Df P w K mg base CX0 1 "_law_word" ["_law_letters_here","_law_cell","_law_size"] [] x0)(ra:Df P w K mg base CX0 9 "_law_forms" ["_law_system","_law_table_here","_law_letters_here","_law_parts","_law_words"] [] (uX K CO CR CW CH TB))(rb:Df P w K mg base CX0 9 "_law_rooms" ["_law_found","_law_table_here","_law_letters_here","_law_parts","_law_words"] [] (uV K CV TB2)):FnOk P w K mg base CX0 10 f fd ["_law_script"] (Zy K TB TB2):=by
 refine F.ok fZ (fun vs H Q E h=>?_) (fun cdv A outer s H vs Q E hr h=>?_)
 ·obtain⟨a,cs,rfl,_⟩:=h
  rfl
 ·obtain⟨a,cs,rfl,hS,ht1,ht2,q⟩:=h
  refine⟨_,(zg (zk (i:=1) fZ.nd rfl (Or.inr rfl) (zv zL zi (zv yj (cl0 iS hr .nil rfl (za (pv 0) (za zi zc))) zi)))
   (zg (zk (i:=2) fZ.nd rfl (Or.inr rfl) (cl0 pT hr .nil rfl (za (cl0 iS hr .nil rfl (za (pv 0) (za zi zc))) (za (pv 1) zc))))
   (zg (zk (i:=3) fZ.nd rfl (.inl rfl) (cl0 iS hr .nil rfl (za (pv 0) (za zi zc))))
   (zg (zk (i:=4) fZ.nd rfl (.inl rfl) zi)
   (zg (zP (zE kK (pv 1) zi (zy _))
    (zd (zk (i:=4) fZ.nd rfl (.inl rfl) (zv zL zi (zv yj (pv 3) zi))))
    zu)
   (zg (zP (zE kK (pv 1) zi (zy _))
    (zd (zk (i:=4) fZ.nd rfl (.inl rfl) (zv qG zi (zv xq (zv yj (pv 3) zi) zi))))
    zu)
   (zg (zk (i:=5) fZ.nd rfl (.inl rfl) (cl0 pX hr .nil rfl (za (pv 1) (za (pv 4) (za (zv xq (pv 3) zi) zc)))))
   (zg (zk (i:=6) fZ.nd rfl (.inl rfl) (zv yj (cl0 iS hr .nil rfl (za (pv 0) (za zi zc))) zi))
   (zg (ZW (cl0 pY hr .nil rfl (za (pv 5) (za (pv 2) (za (yK kK (pv 6) zi (zy _)) zc)))) (uR (n:=3) rfl (zK (zp (i:=7) fZ.nd rfl (.inl rfl)) (zK (zp (i:=8) fZ.nd rfl (.inl rfl)) (zK (zp (i:=9) fZ.nd rfl (.inl rfl)) wS)))))
   (zg (zk (i:=10) fZ.nd rfl (.inl rfl) (zv yj (cl0 iS hr .nil rfl (za (pv 0) (za zi zc))) (zo zW rfl B.len aB (za (pv 9) zc))))
   (zg (zk (i:=11) fZ.nd rfl (.inl rfl) (zv zL (yq uT (pv 9) (yw (pv 10)) xI) (yq uT (pv 9) xI (yw (pv 10)))))
   (zg (zk (i:=12) fZ.nd rfl (.inl rfl) (zv Jm (xu (za (zv zL zi (zv yj (cl0 iS hr .nil rfl (za (pv 0) (za zi zc))) zi)) zc)) (pv 1)))
   (zg (zk (i:=13) fZ.nd rfl (.inl rfl) (KZ xe0 MS hr rfl TS.g (za (cl0 pZ hr .nil rfl (za (pv 6) (za (pv 2) (za (pv 12) zc)))) (za (pv 11) zc))))
   (zg (zk (i:=14) fZ.nd rfl (Or.inr rfl) (xu (za zi (za zi (za zi (za zi (za zi (za zi zc))))))))
   (zg (Zn (i:=15) fZ.nd rfl (.inl rfl) (.inl rfl) (own:=["_law_cell"]) (caps:=["_law_letters_here","_law_sizes","_law_many"]) (ix:=[2,14,1]) (tt:=ud) (te:=(je x0 [] E0 (zN (ya 1) (zN (ya 0) (zN (tOp (rI (fun _ j=>0<j) fun i j=>.int (i % j)) (tOp (rI Kt fun i j=>.int (i / j)) (ya 0) (tC (.int 5))) (tOp (rIx K) (ya 2) (tOp (rI0 fun i j=>.int (i - j)) (ya 3) (tC (.int 1))))) wQ))))) rfl (yJ (sc:=ze qy) rfl (by symm) (by symm) (by symm) rfl (by symm) (by symm) rfl) (yW (yq uT (pv 0) (yw zi) (yw zi))) (fun _ _ _ _ _ _=>zp (i:=0) (show List.Nodup [_,_,_,_] by decide) rfl (.inl rfl)) (fun _ _ _ _ _ _=>xl) (fun _ _ _ _ _ _=>(cl0 rj hr .nil rfl (za (pv 1) (za (pv 0) (za (zv yj (zv xq (pv 0) zi) (zV kB (pv 2) (zv qG (pv 3) zi) (fun _ _=>rfl))) zc))))))
   (zg (zk (i:=16) fZ.nd rfl (.inl rfl) (xN (za (pv 7) (za (pv 8) (za (pv 9) zc)))))
   (zg (zP (yA (vb (cl0 ra hr .nil rfl (za (pv 13) (za (pv 5) (za (pv 2) (za (pv 16) (za (zv zL (yq uT (pv 15) xI (yw zi)) (yq uT (pv 15) (yw (Jp VX zi)) xI)) zc)))))) (fun _=>rfl)))
    (zd (zq wx))
    zu)
   (zg (ZW (cl0 px hr .nil rfl (za (pv 13) zc)) (uR (n:=2) rfl (zK (zp (i:=17) fZ.nd rfl (.inl rfl)) (zK (zp (i:=18) fZ.nd rfl (.inl rfl)) wS))))
   (zg (zP (zE ZB (zo zW rfl B.len aB (za (pv 7) zc)) zi (zy _))
    (zd (zq (qK (pv 18) (Yh (yK op_isN' (pv 17) wD (zy _))))))
    zu)
   (zd (zq (qK (ZU (pv 18)) (Yh (cl0 rb hr .nil rfl (za (pv 17) (za (pv 5) (za (pv 2) (za (pv 16) (za (pv 15) zc))))))))))))))))))))))))))))),?_⟩
  have s16:=ye
  have s16:=ye
  have hT1:TabOk H TB lp lq:=⟨#[],ht1,trivial,.inl rfl⟩
  have hT2:TabOk H TB2 lp2 lq2:=⟨#[],ht2,trivial,.inl rfl⟩
  refine zj (fun σ H'=>H'=H/\∃ m:Nat,1<=m/\m<=6/\σ=[some (.ref a),some (.int (m:Nat)),none,none,none,none,none,none,none,none,none,none,none,none,none,none,none,none,none]) ?_ ?_
  ·rfl'
   have b0:=bt (yk cs 1) (b:=6) (by decide)
   have b1:=aY (yk cs 1) (b:=6) (by decide)
   exact wo hS (by decide) ⟨_,rfl,by decide,rfl,(1+yk cs 1 % 6).toNat,by lia,by lia,by lia⟩
  rintro σ H1 ⟨rfl,m,m1,m6,rfl⟩
  obtain⟨hg,hlm⟩:=XB (yk cs 0) m6 m1
  generalize hl:QF (yk cs 0) m=l at hg hlm
  obtain⟨_,_,lsm,lnd⟩:=of_decide_eq_true hg
  refine zj (fun σ H'=>H'=H1/\σ=[some (.ref a),some (.int (m:Nat)),some (.str (tx l)),none,none,none,none,none,none,none,none,none,none,none,none,none,none,none,none]) ?_ ?_
  ·rfl'
   exact wo hS (by decide) (Zp m6 ⟨rfl,by rw[hl]⟩)
  rintro σ H2 ⟨rfl,rfl⟩
  refine zj (fun σ H'=>H'=H2/\σ=[some (.ref a),some (.int (m:Nat)),some (.str (tx l)),some (.int (yk cs 2)),none,none,none,none,none,none,none,none,none,none,none,none,none,none,none]) ?_ ?_
  ·rfl'
   exact wo hS (by decide) ⟨rfl,rfl⟩
  rintro σ H3 ⟨rfl,rfl⟩
  generalize yk cs 2=c
  refine zj (fun σ H'=>H'=H3/\σ=[some (.ref a),some (.int (m:Nat)),some (.str (tx l)),some (.int c),some (.int 2),none,none,none,none,none,none,none,none,none,none,none,none,none,none]) ?_ ?_
  ·rfl'
  rintro σ H4 ⟨rfl,rfl⟩
  refine zj (fun σ H'=>H'=H4/\∃ n:Nat,1<=n/\n<=8/\(m≠1->n=2)/\σ=[some (.ref a),some (.int (m:Nat)),some (.str (tx l)),some (.int c),some (.int (n:Nat)),none,none,none,none,none,none,none,none,none,none,none,none,none,none]) ?_ ?_
  ·rfl'
   have b0:=bt c (b:=8) (by decide)
   have b1:=aY c (b:=8) (by decide)
   exact xx (fun h=>⟨by decide,(1+c % 8).toNat,by lia,by lia,fun z=>by lia,by lia⟩) fun h=>⟨2,by decide,by decide,fun _=>rfl,rfl⟩
  rintro σ H5 ⟨rfl,n0,n1,n8,hn,rfl⟩
  refine zj (fun σ H'=>H'=H5/\∃ n:Nat,1<=n/\n<=8/\(m=1\/(m=2/\n<=3)\/n=2)/\σ=[some (.ref a),some (.int (m:Nat)),some (.str (tx l)),some (.int c),some (.int (n:Nat)),none,none,none,none,none,none,none,none,none,none,none,none,none,none]) ?_ ?_
  ·rfl'
   have b0:=bt c (b:=3) (by decide)
   have b1:=aY c (b:=3) (by decide)
   exact xx (fun h=>⟨by decide,⟨by decide,by decide⟩,(3 - c % 3 / 2).toNat,by lia,by lia,by lia,by lia⟩) fun h=>⟨n0,n1,n8,by lia,rfl⟩
  rintro σ H6 ⟨rfl,n,n1,n8,hn,rfl⟩
  refine zj (fun σ H'=>∃(t:Addr) (rs:List Addr) (tab:List (List Int)),Same H6 H'/\TabAt H' t rs tab/\tab.length=n/\(∀ x ∈ tab,x.length=m/\∀ z ∈ x,0<=z/\z<(n:Int))/\σ=[some (.ref a),some (.int (m:Nat)),some (.str (tx l)),some (.int c),some (.int (n:Nat)),some (.ref t),none,none,none,none,none,none,none,none,none,none,none,none,none]) ?_ ?_
  ·rfl'
   exact⟨⟨by decide,by decide⟩,VA n1 n8 (by lia) fun t rs tab H' s' h1 h2 h3=>⟨s',t,rs,tab,h1,h2,h3,rfl⟩⟩
  rintro σ H7 ⟨t,rs0,tab,s7,hT,htl,htab,rfl⟩
  have hS7:=vh s7 hS
  have hT17:=hT1.same' s7
  have hT27:=hT2.same' s7
  have hGT:zY l tab:=YO n1 n8 htl fun x hx=>by rw[hlm];exact htab x hx
  refine zj (fun σ H'=>H'=H7/\∃ z:Int,0<=z/\z<3/\σ=[some (.ref a),some (.int (m:Nat)),some (.str (tx l)),some (.int c),some (.int (n:Nat)),some (.ref t),some (.int z),none,none,none,none,none,none,none,none,none,none,none,none]) ?_ ?_
  ·rfl'
   exact wo hS7 (by decide) ⟨_,rfl,by decide,rfl,yk cs 3 % 3,bt _ (by decide),aY _ (by decide),rfl⟩
  rintro σ H8 ⟨rfl,z,z0,z3,rfl⟩
  have v0:=bt (yk cs 4) (b:=1000000) (by decide)
  have v1:=aY (yk cs 4) (b:=1000000) (by decide)
  generalize hv:1+yk cs 4 % 1000000=v
  have hnb:∀ n ∈ ak m v,1<=n/\n<=1000000:=fun n hn=>by have:=eC hn;lia
  have hOE:OE l (ak m v) z.toNat:=⟨⟨hg,by lia,by rw[bG,hlm],hnb⟩,v,by lia,fun n hn=>eC hn⟩
  have hz1:decide (z=1)=decide (z.toNat=1):=by
   rw[cf,decide_eq_true_eq,decide_eq_true_eq]
   lia
  refine zj (fun σ H'=>∃(W:List (List Nat)) (R:List zB) (Dw Dy Dr:Addr) (rs:List Addr),Same H8 H'/\Lst (decide (z.toNat=1)) l (ltO z.toNat l (ak m v)) (zX l tab) W R/\W.length<=27/\H' Dw=some (.lst (tW W))/\TabAt H' Dy rs (W.map (zX l tab))/\LsA K H' Dr (R.map dR)/\σ=[some (.ref a),some (.int (m:Nat)),some (.str (tx l)),some (.int c),some (.int (n:Nat)),some (.ref t),some (.int z),some (.ref Dw),some (.ref Dy),some (.ref Dr),none,none,none,none,none,none,none,none,none]) ?_ ?_
  ·rfl'
   rw[hz1]
   refine⟨t,rs0,tab,l,_,ltO z.toNat l (ak m v),rfl,hT,hGT,hg,W7 hGT (by lia),vT hOE lnd,fun W R Dw Dy Dr p rs H' s' h1 h2 h3 h4 h5 h6=>?_⟩
   exact⟨p,rfl,_,SqT.of h3,rfl,_,_,rfl,_,_,rfl,_,_,rfl,rfl,s',W,R,h1,h2,Dw,h4,Dy,⟨rs,h5⟩,Dr,h6,rfl,rfl,rfl⟩
  rintro σ H9 ⟨W,R,Dw,Dy,Dr,rs,s9,hLst,hW27,hDw,hDy,hDr,rfl⟩
  obtain⟨-,hR1,hR100,-⟩:=Mt.of hg hGT hOE hLst hW27 hlm htl hn 0
  obtain⟨xs,hX,hI⟩:=id hDr
  have hxl:=hI.len
  rw[aa] at hxl
  refine zj (fun σ H'=>H'=H9/\∃ j:Nat,j<R.length/\σ=[some (.ref a),some (.int (m:Nat)),some (.str (tx l)),some (.int c),some (.int (n:Nat)),some (.ref t),some (.int z),some (.ref Dw),some (.ref Dy),some (.ref Dr),some (.int (j:Nat)),none,none,none,none,none,none,none,none]) ?_ ?_
  ·rfl'
   have b0:=bt (yk cs 4) (b:=(xs.length:Int)) (by lia)
   have b1:=aY (yk cs 4) (b:=(xs.length:Int)) (by lia)
   refine wo (vh s9 hS7) (by decide) ⟨_,.inl ⟨_,SqL.of hX,rfl⟩,_,rfl,by lia,rfl,(yk cs 4 % (xs.length:Int)).toNat,by lia,by lia⟩
  rintro σ H10 ⟨rfl,j,hj,rfl⟩
  obtain⟨hM,-,-,hsz⟩:=Mt.of hg hGT hOE hLst hW27 hlm htl hn j
  generalize hps:R.drop j ++ R.take j=ps at hM
  refine zj (fun σ H'=>∃(Hd:Addr),Same H10 H'/\LsA K H' Hd (ps.map dR)/\σ=[some (.ref a),some (.int (m:Nat)),some (.str (tx l)),some (.int c),some (.int (n:Nat)),some (.ref t),some (.int z),some (.ref Dw),some (.ref Dy),some (.ref Dr),some (.int (j:Nat)),some (.ref Hd),none,none,none,none,none,none,none]) ?_ ?_
  ·rfl'
   have e1:YB xs (some (j:Int)) none=xs.drop j:=by
    show cut xs (some (j:Int)) none=_
    rw[jg _ (by lia),aL]
   have e2:YB xs none (some (j:Int))=xs.take j:=by
    show cut xs none (some (j:Int))=_
    rw[Wo _ (by lia),aL]
   refine⟨xs,SqL.of hX,fun p hp=>⟨xs,SqL.of (zf hp _ _ hX),fun p1 hp1=>?_⟩⟩
   have sA:=zf (o:=.lst (YB xs (some (j:Int)) none)) hp
   have sB:=zf (o:=.lst (YB xs none (some (j:Int)))) hp1
   refine⟨_,sB _ _ zb,_,zb,by rw[e1,e2,bJ,aO];lia,fun p2 hp2=>⟨sA.trans (sB.trans (zf hp2)),_,zb,?_⟩⟩
   rw[<- hps,e1,e2,aE,e6,eZ]
   rw[e1,e2] at hp2
   rw[e1] at sA hp1
   rw[e1,e2] at sB
   exact Iss.same (sA.trans (sB.trans (zf hp2))) _ _ (Iss.append (Iss.drop j hI) (Iss.take j hI))
  rintro σ H11 ⟨Hd,s11,hHd,rfl⟩
  refine zj (fun σ H'=>∃(Wt:Addr),Same H11 H'/\H' Wt=some (.lst ((ak m v).map V.int))/\σ=[some (.ref a),some (.int (m:Nat)),some (.str (tx l)),some (.int c),some (.int (n:Nat)),some (.ref t),some (.int z),some (.ref Dw),some (.ref Dy),some (.ref Dr),some (.int (j:Nat)),some (.ref Hd),some (.ref Wt),none,none,none,none,none,none]) ?_ ?_
  ·rfl'
   refine wo (vh s11 (vh s9 hS7)) (by decide) ⟨_,rfl,by decide,by lia,fun p1 h1=>⟨p1,_,_,rfl,rfl,zb,by lia,by lia,by simp only[aI,db];lia,fun p hp=>?_⟩⟩
   rw[hv] at hp
   rw[Vx,aL,hv]
   exact⟨(zf h1).trans (zf hp),p,by rw[zb,List.map_replicate],rfl⟩
  rintro σ H12 ⟨Wt,s12,hWt,rfl⟩
  have hHd12:=hHd.same s12
  obtain⟨ys,hY,hJ⟩:=id hHd12
  have hlt:∀ p ∈ ps,zS z.toNat l (ak m v) p.2 p.1=true/\InW l p.1/\InW l p.2:=fun p hp=>by
   obtain⟨_,_,_,h4,_,_⟩:=hM.L.rul p ((hM.p p).mp hp)
   exact⟨h4.1,h4.2.2,h4.2.1⟩
  have hQ:RuL z.toNat l (ak m v) 40 ps:=⟨fun p hp=>by
   obtain⟨_,h2,_,_,_,h6⟩:=hM.L.rul p ((hM.p p).mp hp)
   have:=hM.L.ln _ h2
   lia,fun p hp=>(hlt p hp).2,fun p hp=>(hlt p hp).1⟩
  refine zj (fun σ H'=>Same H12 H'/\∃ y o qa:Addr,SysAt K CH H' y o qa ps/\OrdAt CO CR CW H' o z.toNat l (ak m v)/\σ=[some (.ref a),some (.int (m:Nat)),some (.str (tx l)),some (.int c),some (.int (n:Nat)),some (.ref t),some (.int z),some (.ref Dw),some (.ref Dy),some (.ref Dr),some (.int (j:Nat)),some (.ref Hd),some (.ref Wt),some (.ref y),none,none,none,none,none]) ?_ ?_
  ·rfl'
   refine⟨z,l,Wt,ak m v,rfl,z0,z3,hg,hWt,by rw[bG,hlm],hnb,fun o H' so ho=>?_⟩
   intro x dx hx hdx hne
   have sd:=zf (o:=.own x) hdx
   have k1:Same H' (upd (upd H' dx (.own x)) x (.ins CH dx [])):=fun b' o' e=>by
    rw[zh (zr e hx)]
    exact sd _ _ e
   have k2:=so.trans k1
   refine⟨x,dx,o,Hd,z.toNat,l,ak m v,ps,ys,rfl,zb,ho.same k1,hOE.g,k2 _ _ hY,Iss.same k2 _ _ hJ,hQ.inL (by decide),(fun i e=>by rw[hQ.fault] at e;cases e),fun _ q1 H'' kp hx' hq' hqn=>⟨rfl,?_⟩⟩
   have k3:Same H' H'':=fun b' o' e=>kp b' o' (fun z=>by rw[z,hx] at e;cases e) (k1 _ _ e)
   exact⟨so.trans k3,x,o,⟨q1,⟨dx,ys,hx',hq',Iss.same (so.trans k3) _ _ hJ⟩⟩,ho.same k3,rfl⟩
  rintro σ H13 ⟨s13,y,o,qa,hy,ho,rfl⟩
  refine zj (fun σ H'=>Same H13 H'/\∃ Sz:Addr,H' Sz=some (.lst [.int 41,.int 9,.int 7,.int 6,.int 6,.int 5])/\σ=[some (.ref a),some (.int (m:Nat)),some (.str (tx l)),some (.int c),some (.int (n:Nat)),some (.ref t),some (.int z),some (.ref Dw),some (.ref Dy),some (.ref Dr),some (.int (j:Nat)),some (.ref Hd),some (.ref Wt),some (.ref y),some (.ref Sz),none,none,none,none]) ?_ ?_
  ·rfl'
   exact⟨by lia,fun p hp=>⟨zf hp,zb⟩⟩
  rintro σ H14 ⟨s14,Sz,hSz,rfl⟩
  have s814:Same H8 H14:=s9.trans (s11.trans (s12.trans (s13.trans s14)))
  have s914:Same H10 H14:=s11.trans (s12.trans (s13.trans s14))
  have hS14:=vh s814 hS7
  refine zj (fun σ H'=>Same H14 H'/\∃(Wa:Addr) (ws:List (List Nat)),H' Wa=some (.lst (tW ws))/\ws.length<=63/\(∀ w ∈ ws,InW l w/\xf l.length w.length)/\σ=[some (.ref a),some (.int (m:Nat)),some (.str (tx l)),some (.int c),some (.int (n:Nat)),some (.ref t),some (.int z),some (.ref Dw),some (.ref Dy),some (.ref Dr),some (.int (j:Nat)),some (.ref Hd),some (.ref Wt),some (.ref y),some (.ref Sz),some (.ref Wa),none,none,none]) ?_ ?_
  ·rfl'
   refine⟨_,hS14,fun p hp=>?_⟩
   rw[XZ cs (by decide) (by decide)]
   refine⟨⟨_,SqL.of zb⟩,fun D hD=>Zg rfl rfl hlm m1 m6 (zf hp _ _ hSz) zb (by rw[aO];lia) hD fun ws H' s' h1 h2 h3=>⟨(zf hp).trans s',D,ws,h1,h2,h3,rfl⟩⟩
  rintro σ H15 ⟨s15,Wa,ws,hWa,hw63,hws,rfl⟩
  refine zj (fun σ H'=>Same H15 H'/\∃ pp:Addr,H' pp=some (.tup [.ref Dw,.ref Dy,.ref Dr])/\σ=[some (.ref a),some (.int (m:Nat)),some (.str (tx l)),some (.int c),some (.int (n:Nat)),some (.ref t),some (.int z),some (.ref Dw),some (.ref Dy),some (.ref Dr),some (.int (j:Nat)),some (.ref Hd),some (.ref Wt),some (.ref y),some (.ref Sz),some (.ref Wa),some (.ref pp),none,none]) ?_ ?_
  ·rfl'
   exact⟨by lia,fun p hp=>⟨zf hp,zb⟩⟩
  rintro σ H16 ⟨s16',pp,hpp,rfl⟩
  have s816:Same H8 H16:=s814.trans (s15.trans s16')
  have s916:Same H10 H16:=s914.trans (s15.trans s16')
  have s1316:Same H13 H16:=s14.trans (s15.trans s16')
  have hP:Pt K H16 l tab W R t rs0 Dw Dy Dr rs pp:=⟨hT.same s816,hpp,s916 _ _ hDw,hDy.same s916,hDr.same s916⟩
  have hy16:=hy.same s1316
  have ho16:=ho.same s1316
  have hWa16:=s16' _ _ hWa
  have hT116:=hT17.same' s816
  have hT216:=hT27.same' s816
  refine zj (fun σ H'=>Pt K H' l tab W R t rs0 Dw Dy Dr rs pp/\SysAt K CH H' y o qa ps/\OrdAt CO CR CW H' o z.toNat l (ak m v)/\H' Wa=some (.lst (tW ws))/\TabOk H' TB2 lp2 lq2/\σ=[some (.ref a),some (.int (m:Nat)),some (.str (tx l)),some (.int c),some (.int (n:Nat)),some (.ref t),some (.int z),some (.ref Dw),some (.ref Dy),some (.ref Dr),some (.int (j:Nat)),some (.ref Hd),some (.ref Wt),some (.ref y),some (.ref Sz),some (.ref Wa),some (.ref pp),none,none]) ?_ ?_
  ·rfl'
   refine⟨_,SqL.of hWa16,fun p hp=>⟨_,SqL.of (zf hp _ _ hWa16),fun p1 hp1=>?_⟩⟩
   obtain⟨wa,ea,ma,la⟩:=jV ws none (some 9)
   obtain⟨wb,eb,mb,lb⟩:=jV ws (some (-3)) none
   rw[ea] at hp1 ⊢
   rw[eb]
   have sB:=(zf (o:=.lst (tW wa)) hp).trans (zf (o:=.lst (tW wb)) hp1)
   refine⟨_,zf hp1 _ _ zb,_,zb,by rw[aa,aa];lia,fun p2 hp2=>?_⟩
   have sC:=sB.trans (zf (o:=.lst (tW wa ++ tW wb)) hp2)
   have hTC:=hT116.same' sC
   have hTD:=hT216.same' sC
   obtain⟨tb,htb,_⟩:=id hTC
   refine⟨y,o,qa,t,Dw,Dy,Dr,pp,p2,rs0,rs,ps,R,z.toNat,l,ak m v,tab,W,wa ++ wb,rfl,hy16.same sC,ho16.same sC,hM,hP.same sC,by rw[zb];simp [tW],fun w hw=>?_,hTC,fun H' sT oT=>⟨true,rfl,V1 ⟨(hP.same sC).samT sT htb,(hy16.same sC).samT sT htb,(ho16.same sC).samT sT htb,sT.at htb (sC _ _ hWa16) (fun _ z=>by cases z),?_⟩⟩⟩
   ·rcases rF.mp hw with h | h
    ·exact hws w (ma w h)
    ·exact hws w (mb w h)
   ·by_cases hTT:TB2=TB
    ·rw[hTT] at hTD ⊢
     exact oT _ _ (by symm) hTD
    ·exact TabOk.far hTD sT htb hTT
  rintro σ H17 ⟨hP17,hy17,ho17,hWa17,hT217,rfl⟩
  have hFo:W.length<=8->∀ w ∈ W,∀ c ∈ l,xw ps (w ++ [c])/\YK ps (w ++ [c])=wA W (zX l tab) (w ++ [c]):=fun h8 w hw c hc=>by
   obtain⟨J,j1,j2,j3,j4⟩:=hM.fo (in1 (hM.L.inl w hw) hc) (by rw[am];exact hsz h8 w hw)
   exact⟨⟨J,j1,j2,j3⟩,by rw[WR j1 j3,j4]⟩
  have hW1:=bT hM.L.nil
  have hMl:=hM.len
  refine zj (fun σ H'=>Same H17 H'/\((8<W.length/\σ=[some (.ref a),some (.int (m:Nat)),some (.str (tx l)),some (.int c),some (.int (n:Nat)),some (.ref t),some (.int z),some (.ref Dw),some (.ref Dy),some (.ref Dr),some (.int (j:Nat)),some (.ref Hd),some (.ref Wt),some (.ref y),some (.ref Sz),some (.ref Wa),some (.ref pp),some (.non),some (.bl true)])\/(W.length<=8/\∃(x tw:Addr) (rsw:List Addr),WorAt CV H' x l tw rsw (zaw ps l W)/\σ=[some (.ref a),some (.int (m:Nat)),some (.str (tx l)),some (.int c),some (.int (n:Nat)),some (.ref t),some (.int z),some (.ref Dw),some (.ref Dy),some (.ref Dr),some (.int (j:Nat)),some (.ref Hd),some (.ref Wt),some (.ref y),some (.ref Sz),some (.ref Wa),some (.ref pp),some (.ref x),some (.bl false)]))) ?_ ?_
  ·rfl'
   refine⟨y,o,qa,ps,z.toNat,l,ak m v,rfl,hy17,ho17,hg,hM.ne,hM.n,hM.ln,fun e p H' s' hp=>?_,fun ws' e=>?_⟩
   ·rw[hM.sw 8] at e
    have hC:8<W.length:=by
     by_cases hc:8<W.length
     ·exact hc
     ·rw[if_neg hc] at e
      cases e
    exact⟨p,rfl,_,SqT.of hp,rfl,_,_,rfl,_,_,rfl,rfl,s',.inl ⟨hC,rfl,rfl⟩⟩
   ·rw[hM.sw 8] at e
    by_cases hc:8<W.length
    ·rw[if_pos hc] at e
     cases e
    ·rw[if_neg hc] at e
     cases e
     refine⟨by lia,by lia,fun w hw=>by have:=hM.L.ln w (hM.mem.mp hw);lia,fun w hw c hc'=>?_,fun p x tw rsw H' s' hW hp=>⟨p,rfl,_,SqT.of hp,rfl,_,_,rfl,_,_,rfl,rfl,s',.inr ⟨by lia,x,⟨tw,rsw,hW⟩,rfl,rfl⟩⟩⟩
     obtain⟨e1,e2⟩:=hFo (by lia) w (hM.mem.mp hw) c hc'
     refine⟨e1,?_⟩
     rw[e2]
     exact hM.mem.mpr (hM.L.rep_is hM.o hM.a (in1 (hM.L.inl w (hM.mem.mp hw)) hc')).1
  rintro σ H18 ⟨s18,hc⟩
  have hP18:=hP17.same s18
  have hlW:(tW W).length=W.length:=aa ..
  rcases hc with ⟨hC,rfl⟩ | ⟨hC,x,tw,rsw,hX18,rfl⟩
  ·refine zj (fun _ _=>False) ?_ fun _ _ h=>h.elim
   rfl'
   exact⟨_,.inl ⟨_,SqL.of hP18.w,rfl⟩,xx (fun _=>q _) fun h=>h (by rw[hlW];lia)⟩
  ·refine zj (fun σ H'=>H'=H18/\σ=[some (.ref a),some (.int (m:Nat)),some (.str (tx l)),some (.int c),some (.int (n:Nat)),some (.ref t),some (.int z),some (.ref Dw),some (.ref Dy),some (.ref Dr),some (.int (j:Nat)),some (.ref Hd),some (.ref Wt),some (.ref y),some (.ref Sz),some (.ref Wa),some (.ref pp),some (.ref x),some (.bl false)]) ?_ ?_
   ·rfl'
    exact⟨_,.inl ⟨_,SqL.of hP18.w,rfl⟩,xx (fun h=>by rw[hlW] at h;lia) fun _=>trivial⟩
   rintro σ H19 ⟨rfl,rfl⟩
   rfl'
   exact⟨x,tw,t,Dw,Dy,Dr,pp,Wa,rsw,rs0,rs,ps,R,z.toNat,l,ak m v,tab,W,ws,rfl,hX18,hM,hC,fun w hw c hc=>(hFo hC w hw c hc).2,hP18,s18 _ _ hWa17,fun w hw=>⟨(hws w hw).1,by have:=(hws w hw).2;unfold xf at this;lia⟩,hw63,hT217.same' s18,fun H'=>q H'⟩
end
def FnE(K:rC)(x q:Str)(st:Stmt)(f:Addr):Prop:=∃ fd,Fun K x q st f fd
def FnA(K:rC)(x:Str)(st:Stmt)(f:Addr):Prop:=aA K rq x=some (some (.ref f))/\FnE K x x st f
theorem FnA.mk{K:rC}{x:Str}{st:Stmt}{f:Addr}{h:Heap}{mg:Str->Option Value}(q:FnA K x st f)(X:K.In h)(G:h.Ns rq mg):mg x=some (.ref f)/\aG K (.ref f)=true/\FnE K x x st f:=by
 obtain⟨a,fd,F⟩:=q
 exact⟨aM X G a,F.kp,fd,F⟩
theorem Ut{us:List Value}(h:us.length=1):∃ a,us=[a]:=List.length_eq_one_iff.mp h
theorem qm{us:List Value}(h:us.length=2):∃ a0 a1,us=[a0,a1]:=by
 cases us with
 | nil=>cases h
 | cons a r =>
  obtain⟨a1,rfl⟩:=Ut (Nat.succ.inj h)
  exact⟨a,a1,rfl⟩
theorem jJ{us:List Value}(h:us.length=3):∃ a0 a1 a2,us=[a0,a1,a2]:=by
 cases us with
 | nil=>cases h
 | cons a r =>
  obtain⟨a1,a2,rfl⟩:=qm (Nat.succ.inj h)
  exact⟨a,a1,a2,rfl⟩
theorem J2{us:List Value}(h:us.length=4):∃ a0 a1 a2 a3,us=[a0,a1,a2,a3]:=by
 cases us with
 | nil=>cases h
 | cons a r =>
  obtain⟨a1,a2,a3,rfl⟩:=jJ (Nat.succ.inj h)
  exact⟨a,a1,a2,a3,rfl⟩
theorem Ka{us:List Value}(h:us.length=5):∃ a0 a1 a2 a3 a4,us=[a0,a1,a2,a3,a4]:=by
 cases us with
 | nil=>cases h
 | cons a r =>
  obtain⟨a1,a2,a3,a4,rfl⟩:=J2 (Nat.succ.inj h)
  exact⟨a,a1,a2,a3,a4,rfl⟩
theorem zbm{us:List Value}(h:us.length=6):∃ a0 a1 a2 a3 a4 a5,us=[a0,a1,a2,a3,a4,a5]:=by
 cases us with
 | nil=>cases h
 | cons a r =>
  obtain⟨a1,a2,a3,a4,a5,rfl⟩:=Ka (Nat.succ.inj h)
  exact⟨a,a1,a2,a3,a4,a5,rfl⟩
theorem zbI{us:List Value}(h:us.length=7):∃ a0 a1 a2 a3 a4 a5 a6,us=[a0,a1,a2,a3,a4,a5,a6]:=by
 cases us with
 | nil=>cases h
 | cons a r =>
  obtain⟨a1,a2,a3,a4,a5,a6,rfl⟩:=zbm (Nat.succ.inj h)
  exact⟨a,a1,a2,a3,a4,a5,a6,rfl⟩
theorem all_mk{l:PySem.W.OpenLaw}{w:World}{K:rC}{h:Heap}{mg:Str->Option Value}{fa f0 f1 f2 f3 f4 f5 f6 f7 f8 f9 f10 f11 f12 f13 f14 f15 f16 f17 f18 f19 f20 f21 f22 f23 f24 f25 pz fY ge fQ fP fO fW fR gf fX fV gd fS:Addr}{cc TB:Addr}{cc2 TB2:Addr}(X:K.In h)(G:h.Ns rq mg)(hfa:mg "law" = some (.ref fa))(hlam:∃ a o fd,mg "_law_forms" = some (.ref a)/\h.get? a=some o/\o.data=.func fd/\fd.code=.ref cc)(hgT:rq≠TB)(hlam2:∃ a o fd,mg "_law_rooms" = some (.ref a)/\h.get? a=some o/\o.data=.func fd/\fd.code=.ref cc2)(hgT2:rq≠TB2)
{od6 an6 od8 an8 od23 an23 od24 an24 od25 an25:Option Addr}{sl6 sl8 sl23 sl24 sl25:Array (Option Value)}{oc6 kV6 dc6 pm6 cd6 ct6 oc8 kV8 dc8 pm8 cd8 ct8 oc23 kV23 dc23 pm23 cd23 ct23 oc24 kV24 dc24 pm24 cd24 ct24 oc25 kV25 dc25 pm25 cd25 ct25:Value}
  {t6 t7:Tok}
  {fI:Addr}
  {odI anI:Option Addr}
  {slI:Array (Option Value)}
  {ocI kVI dcI pmI cdI ctI:Value}
  {t8:Tok}
  {fU:Addr}
  {odU anU:Option Addr}
  {slU:Array (Option Value)}
  {ocU kVU dcU pmU cdU ctU:Value}
  {t9:Tok}
  {gH:Addr}
  {ie:Addr}
  {iM:Addr}
  {iC:Addr}
  {iD:Addr}
  {gP:Addr}
  {gJ:Addr}
  {gn:Addr}
  {lx:Addr}
  {gQ:Addr}
  {gy:Addr}
  {gz:Addr}
  {od_system_road an_system_road:Option Addr}
  {sl_system_road:Array (Option Value)}
  {oc_system_road kV_system_road dc_system_road pm_system_road cd_system_road ct_system_road:Value}
  {iq:Addr}
  {nj:Tok}
  {d1_system_road:Value}
  {d2_system_road:Option Addr}
  {d3_system_road:Nat}
  {d4_system_road:Array (Option Value)}
  {ik:Addr}
  {lT:Addr}
  {ly:Addr}
  {mD:Addr}
  {iV:Addr}
  {lA:Addr}
  {om:Addr}
  {mw:Tok}
  {d1_gone:Value}
  {d2_gone:Option Addr}
  {d3_gone:Nat}
  {d4_gone:Array (Option Value)}
  {gv:Addr}
  {gc:Tok}
  {d1_shortest_words:Value}
  {d2_shortest_words:Option Addr}
  {d3_shortest_words:Nat}
  {d4_shortest_words:Array (Option Value)}
  (a0:FnA K "is_small_letter" yl f0)
  (a1:FnA K "letters_of" xy f1)
  (a2:FnA K "stands_at" wL f2)
  (a3:FnA K "put" Qp f3)
  (a4:FnA K "first_within" yU f4)
  (a5:FnA K "first_from" xK f5)
  (a6:aA K rq "gone" = some (some (.ref f6))) (l6:K.lookup f6=some ⟨oc6,od6,.func (aZ "gone" "gone" (zR wF) (zD wF) (ze wF) (.ref om) kV6 dc6 pm6 an6 cd6 ct6),sl6⟩) (k6:bz K cd6 "gone" = true) (p6:aG K (.ref f6)=true)
  (a7:FnA K "one_letter_longer" z8 f7)
  (a8:aA K rq "shortest_words" = some (some (.ref f8))) (l8:K.lookup f8=some ⟨oc8,od8,.func (aZ "shortest_words" "shortest_words" (zR zw) (zD zw) (ze zw) (.ref gv) kV8 dc8 pm8 an8 cd8 ct8),sl8⟩) (k8:bz K cd8 "shortest_words" = true) (p8:aG K (.ref f8)=true)
  (a9:FnA K "table_of" wu f9)
  (a10:FnA K "row_of" uo f10)
  (a11:FnA K "world_of" wm f11)
  (a12:FnA K "_law_cell_at" uS f12)
  (a13:FnA K "_law_letters" uP f13)
  (a14:FnA K "_law_order" Zq f14)
  (a15:FnA K "_law_word" Wm f15)
  (a16:FnA K "_law_table" kY f16)
  (a17:FnA K "_law_ways" Wz f17)
  (a18:FnA K "_law_least" kP f18)
  (a19:FnA K "_law_world_asked" xk f19)
  (a20:FnA K "_law_leads" kM f20)
  (a21:FnA K "_law_rules_hold" xQ f21)
  (a22:FnA K "_law_pair" X9 f22)
  (a23:aA K rq "_law_forms" = some (some (.ref f23))) (l23:K.lookup f23=some ⟨oc23,od23,.func (aZ "_law_forms" "_law_forms" (zR xV) (zD xV) (ze xV) .none kV23 dc23 pm23 an23 cd23 ct23),sl23⟩) (k23:bz K cd23 "_law_forms" = true) (p23:aG K (.ref f23)=true)
  (a24:aA K rq "_law_rooms" = some (some (.ref f24))) (l24:K.lookup f24=some ⟨oc24,od24,.func (aZ "_law_rooms" "_law_rooms" (zR xT) (zD xT) (ze xT) .none kV24 dc24 pm24 an24 cd24 ct24),sl24⟩) (k24:bz K cd24 "_law_rooms" = true) (p24:aG K (.ref f24)=true)
  (a25:aA K rq "law" = some (some (.ref f25))) (l25:K.lookup f25=some ⟨oc25,od25,.func (aZ "law" "law" (zR qy) (zD qy) (ze qy) .none kV25 dc25 pm25 an25 cd25 ct25),sl25⟩) (k25:bz K cd25 "law" = true) (p25:aG K (.ref f25)=true)
  (g_LetterError:aA K rq "LetterError" = some (some (.ref pz)))
  (g_NoLetters:aA K rq "NoLetters" = some (some (.ref fY)))
  (g_NoOrder:aA K rq "NoOrder" = some (some (.ref ge)))
  (g_Order:aA K rq "Order" = some (some (.ref fQ)))
  (g_FromRight:aA K rq "FromRight" = some (some (.ref fP)))
  (g_ByWeights:aA K rq "ByWeights" = some (some (.ref fO)))
  (g_NotTurned:aA K rq "NotTurned" = some (some (.ref fW)))
  (g_System:aA K rq "System" = some (some (.ref fR)))
  (g_NoUse:aA K rq "NoUse" = some (some (.ref gf)))
  (g_TooFar:aA K rq "TooFar" = some (some (.ref fX)))
  (g_TooMany:aA K rq "TooMany" = some (some (.ref fV)))
  (g_NoWorld:aA K rq "NoWorld" = some (some (.ref gd)))
  (g_World:aA K rq "World" = some (some (.ref fS)))
  (kbb:aR K (.type "bool") (.type "bool")=some true)
  (kt:aR K (.type "tuple") (.type "tuple")=some true)
  (ki:aR K (.type "int") (.type "int")=some true)
  (kb:aR K (.type "int") (.type "bool")=some false)
  (kl:aR K (.type "list") (.type "list")=some true)
  (x7:cr K (.builtin "object.__class__") "__get__" = some (some (.builtin "getset_descriptor.__get__")))
  (x8:da K (.builtin "object.__class__")=some true)
  (x1:km K fY=true)
  (x2:ac K (.ref fY) "__setattr__" = some (some (.builtin "object.__setattr__")))
  (x3:ac K (.ref fY) "__getattribute__" = some (some (.builtin "BaseException.__getattribute__")))
  (x4:ac K (.ref fY) "__getattr__" = some none)
  (x5:aG K (.ref fY)=true)
  (x6:ac K (.ref fY) "__class__" = some (some (.builtin "object.__class__")))
  (x9:br K fY (.type "object")=some true)
  (xi:ac K (.ref fY) "__init__" = some (some (.builtin "ValueError.__init__")))
  (y1:km K ge=true)
  (y2:ac K (.ref ge) "__setattr__" = some (some (.builtin "object.__setattr__")))
  (y3:ac K (.ref ge) "__getattribute__" = some (some (.builtin "BaseException.__getattribute__")))
  (y4:ac K (.ref ge) "__getattr__" = some none)
  (y5:aG K (.ref ge)=true)
  (y6:ac K (.ref ge) "__class__" = some (some (.builtin "object.__class__")))
  (y9:br K ge (.type "object")=some true)
  (yi:ac K (.ref ge) "__init__" = some (some (.builtin "ValueError.__init__")))
  (most:aA K rq "MOST_LETTERS" = some (some (.int 6 t6)))
  (mostw:aA K rq "MOST_WEIGHT" = some (some (.int 1000000 t7)))
  (oA:bH K fQ dX=true)
  (oB:bD K fQ=true)
  (oC:cq K fQ=true)
  (oE:ac K (.ref fQ) "__setattr__" = some (some (.builtin "object.__setattr__")))
  (oF:cy K fQ=true)
  (oG:aG K (.ref fQ)=true)
  (oH:ac K (.ref fQ) "letters" = some none)
  (pJ:aR K (.ref fQ) (.ref fQ)=some true)
  (pK:ac K (.ref fQ) "__class__" = some (some (.builtin "object.__class__")))
  (pL:br K fQ (.type "object")=some true)
  (mE:bH K fP dX=true)
  (mF:bD K fP=true)
  (mG:cq K fP=true)
  (mH:ac K (.ref fP) "__setattr__" = some (some (.builtin "object.__setattr__")))
  (mI:cy K fP=true)
  (mJ:aG K (.ref fP)=true)
  (mK:ac K (.ref fP) "letters" = some none)
  (nO:aR K (.ref fP) (.ref fQ)=some true)
  (nP:ac K (.ref fP) "__class__" = some (some (.builtin "object.__class__")))
  (nQ:br K fP (.type "object")=some true)
  (mL:bH K fO dX=true)
  (mM:bD K fO=true)
  (mN:cq K fO=true)
  (mP:ac K (.ref fO) "__setattr__" = some (some (.builtin "object.__setattr__")))
  (mQ:cy K fO=true)
  (mS:aG K (.ref fO)=true)
  (mT:ac K (.ref fO) "letters" = some none)
  (nR:aR K (.ref fO) (.ref fQ)=some true)
  (nS:ac K (.ref fO) "__class__" = some (some (.builtin "object.__class__")))
  (nU:br K fO (.type "object")=some true)
  (nw_ByWeights:ac K (.ref fO) "weights" = some none)
  (sgO:cr K (.ref fQ) "__getattribute__" = some (some (.builtin "type.__getattribute__")))
  (rdO:fH K fQ (.type "type")=true)
  (win:aA K rq "WINDOW" = some (some (.int 128 t8)))
  (tt1:km K fW=true)
  (tt2:ac K (.ref fW) "__setattr__" = some (some (.builtin "object.__setattr__")))
  (tt3:ac K (.ref fW) "__getattribute__" = some (some (.builtin "BaseException.__getattribute__")))
  (tt4:ac K (.ref fW) "__getattr__" = some none)
  (tt5:aG K (.ref fW)=true)
  (tt6:ac K (.ref fW) "__class__" = some (some (.builtin "object.__class__")))
  (tt9:br K fW (.type "object")=some true)
  (nn:ac K (.ref fW) "number" = some none)
  (ini:ac K (.ref fW) "__init__" = some (some (.ref fI)))
  (lI:K.lookup fI=some ⟨ocI,odI,.func (aZ "__init__" "NotTurned.__init__" (zR zJ) (zD zJ) (ze zJ) .none kVI dcI pmI anI cdI ctI),slI⟩)
  (kI:bz K cdI "NotTurned.__init__" = true)
  (pI:aG K (.ref fI)=true)
  (fnI:aQ K (.ref fI)=true)
  (nV:bH K fR dX=true)
  (nW:bD K fR=true)
  (nX:cq K fR=true)
  (nY:ac K (.ref fR) "__setattr__" = some (some (.builtin "object.__setattr__")))
  (nZ:cy K fR=true)
  (oa:aG K (.ref fR)=true)
  (no_System:ac K (.ref fR) "order" = some none)
  (nr_System:ac K (.ref fR) "rules" = some none)
  (u1:km K gf=true)
  (u2:ac K (.ref gf) "__setattr__" = some (some (.builtin "object.__setattr__")))
  (u3:ac K (.ref gf) "__getattribute__" = some (some (.builtin "BaseException.__getattribute__")))
  (u4:ac K (.ref gf) "__getattr__" = some none)
  (u5:aG K (.ref gf)=true)
  (u6:ac K (.ref gf) "__class__" = some (some (.builtin "object.__class__")))
  (u9:br K gf (.type "object")=some true)
  (ua:ac K (.ref gf) "at" = some none)
  (iniU:ac K (.ref gf) "__init__" = some (some (.ref fU)))
  (lU:K.lookup fU=some ⟨ocU,odU,.func (aZ "__init__" "NoUse.__init__" (zR z9) (zD z9) (ze z9) .none kVU dcU pmU anU cdU ctU),slU⟩)
  (kU:bz K cdU "NoUse.__init__" = true)
  (pU:aG K (.ref fU)=true)
  (fnU:aQ K (.ref fU)=true)
  (v1:km K fX=true)
  (v2:ac K (.ref fX) "__setattr__" = some (some (.builtin "object.__setattr__")))
  (v3:ac K (.ref fX) "__getattribute__" = some (some (.builtin "BaseException.__getattribute__")))
  (v4:ac K (.ref fX) "__getattr__" = some none)
  (v5:aG K (.ref fX)=true)
  (v6:ac K (.ref fX) "__class__" = some (some (.builtin "object.__class__")))
  (v9:br K fX (.type "object")=some true)
  (vi:ac K (.ref fX) "__init__" = some (some (.builtin "ValueError.__init__")))
  (sFF:dA K (.ref fX) (.ref fX)=some true)
  (w1:km K fV=true)
  (w2:ac K (.ref fV) "__setattr__" = some (some (.builtin "object.__setattr__")))
  (w3:ac K (.ref fV) "__getattribute__" = some (some (.builtin "BaseException.__getattribute__")))
  (w4:ac K (.ref fV) "__getattr__" = some none)
  (w5:aG K (.ref fV)=true)
  (w6:ac K (.ref fV) "__class__" = some (some (.builtin "object.__class__")))
  (w9:br K fV (.type "object")=some true)
  (wi:ac K (.ref fV) "__init__" = some (some (.builtin "ValueError.__init__")))
  (nw1:km K gd=true)
  (nw2:ac K (.ref gd) "__setattr__" = some (some (.builtin "object.__setattr__")))
  (nw3:ac K (.ref gd) "__getattribute__" = some (some (.builtin "BaseException.__getattribute__")))
  (nw4:ac K (.ref gd) "__getattr__" = some none)
  (nw5:aG K (.ref gd)=true)
  (nw6:ac K (.ref gd) "__class__" = some (some (.builtin "object.__class__")))
  (nw9:br K gd (.type "object")=some true)
  (nwi:ac K (.ref gd) "__init__" = some (some (.builtin "ValueError.__init__")))
  (mostr:aA K rq "MOST_ROOMS" = some (some (.int 8 t9)))
  (oI:bH K fS dX=true)
  (oJ:bD K fS=true)
  (oK:cq K fS=true)
  (oM:ac K (.ref fS) "__setattr__" = some (some (.builtin "object.__setattr__")))
  (oN:cy K fS=true)
  (oO:aG K (.ref fS)=true)
  (oP:ac K (.ref fS) "letters" = some none)
  (nt_World:ac K (.ref fS) "table" = some none)
  (oQ:aR K (.ref fS) (.ref fS)=some true)
  (oR:ac K (.ref fS) "__class__" = some (some (.builtin "object.__class__")))
  (oS:br K fS (.type "object")=some true)
  (kMM:dA K (.ref fV) (.ref fV)=some true)
  (kMF:aR K (.ref fV) (.ref fX)=some false)
  (kMW:aR K (.ref fV) (.ref gd)=some false)
  (nsorted:aA K rq "sorted" = some none)
  (lV:ac K (.ref fQ) "__init__" = some (some (.ref gH)))
  (lX:FnE K "__init__" "Order.__init__" xH gH)
  (iN:aQ K (.ref gH)=true)
  (iX:ac K (.ref fQ) "weight" = some (some (.ref ie)))
  (iY:FnE K "weight" "Order.weight" yT ie)
  (ig:aQ K (.ref ie)=true)
  (lY:ac K (.ref fQ) "seen" = some (some (.ref iM)))
  (lZ:FnE K "seen" "Order.seen" xD iM)
  (iO:aQ K (.ref iM)=true)
  (iE:ac K (.ref fP) "seen" = some (some (.ref iC)))
  (iF:FnE K "seen" "FromRight.seen" yy iC)
  (iG:aQ K (.ref iC)=true)
  (iH:ac K (.ref fO) "__init__" = some (some (.ref iD)))
  (iI:FnE K "__init__" "ByWeights.__init__" yx iD)
  (iJ:aQ K (.ref iD)=true)
  (gT:ac K (.ref fO) "weight" = some (some (.ref gP)))
  (gU:FnE K "weight" "ByWeights.weight" zQ gP)
  (gX:aQ K (.ref gP)=true)
  (md:ac K (.ref fQ) "rank" = some (some (.ref gJ)))
  (mf:FnE K "rank" "Order.rank" yQ gJ)
  (gK:aQ K (.ref gJ)=true)
  (iZ:ac K (.ref fQ) "before" = some (some (.ref gn)))
  (lc:FnE K "before" "Order.before" yR gn)
  (gp:aQ K (.ref gn)=true)
  (lB:ac K (.ref fR) "__init__" = some (some (.ref lx)))
  (lC:FnE K "__init__" "System.__init__" xn lx)
  (lD:aQ K (.ref lx)=true)
  (gY:ac K (.ref fR) "first_use" = some (some (.ref gQ)))
  (gZ:FnE K "first_use" "System.first_use" yc gQ)
  (hO:aQ K (.ref gQ)=true)
  (gA:ac K (.ref fR) "is_shortest" = some (some (.ref gy)))
  (gB:FnE K "is_shortest" "System.is_shortest" zU gy)
  (gC:aQ K (.ref gy)=true)
  (iu:ac K (.ref fR) "road" = some (some (.ref gz)))
  (lE:K.lookup gz=some ⟨oc_system_road,od_system_road,.func (aZ "road" "System.road" (zR zG) (zD zG) (ze zG) (.ref iq) kV_system_road dc_system_road pm_system_road an_system_road cd_system_road ct_system_road),sl_system_road⟩)
  (lF:bz K cd_system_road "System.road" = true)
  (iv:aG K (.ref gz)=true)
  (iA:aQ K (.ref gz)=true)
  (iB:K.lookup iq=some ⟨d1_system_road,d2_system_road,.seq #[.int 4000 nj] d3_system_road,d4_system_road⟩)
  (il:ac K (.ref fR) "shortest" = some (some (.ref ik)))
  (im:FnE K "shortest" "System.shortest" yn ik)
  (io:aQ K (.ref ik)=true)
  (mh:ac K (.ref fS) "__init__" = some (some (.ref lT)))
  (mi:FnE K "__init__" "World.__init__" xP lT)
  (mj:aQ K (.ref lT)=true)
  (lG:ac K (.ref fS) "rooms" = some (some (.ref ly)))
  (lH:FnE K "rooms" "World.rooms" xj ly)
  (lJ:aQ K (.ref ly)=true)
  (mU:ac K (.ref fS) "led" = some (some (.ref mD)))
  (mV:FnE K "led" "World.led" wX mD)
  (mX:aQ K (.ref mD)=true)
  (lg:ac K (.ref fS) "parted" = some (some (.ref iV)))
  (lh:FnE K "parted" "World.parted" yX iV)
  (li:aQ K (.ref iV)=true)
  (lK:ac K (.ref fS) "holds" = some (some (.ref lA)))
  (lL:FnE K "holds" "World.holds" xt lA)
  (lM:aQ K (.ref lA)=true)
  (oo:K.lookup om=some ⟨d1_gone,d2_gone,.seq #[.int 4000 mw] d3_gone,d4_gone⟩)
  (gw:K.lookup gv=some ⟨d1_shortest_words,d2_shortest_words,.seq #[.int 8 gc] d3_shortest_words,d4_shortest_words⟩)
  (fcO:fJ K (.ref fQ) (.type "type") "__init__" = some (.val (.ref gH)))
  (fiR_init:ac K (.ref fP) "__init__" = some (some (.ref gH)))
  (fiR_weight:ac K (.ref fP) "weight" = some (some (.ref ie)))
  (fiW_seen:ac K (.ref fO) "seen" = some (some (.ref iM)))
  (fiR_rank:ac K (.ref fP) "rank" = some (some (.ref gJ)))
  (fiW_rank:ac K (.ref fO) "rank" = some (some (.ref gJ)))
  (fiR_before:ac K (.ref fP) "before" = some (some (.ref gn)))
  (fiW_before:ac K (.ref fO) "before" = some (some (.ref gn)))
  (b0:aA K rq "len" = some none)
  (b1:aA K rq "range" = some none)
  (b2:aA K rq "isinstance" = some none)
  (b3:aA K rq "str" = some none)
  (b4:aA K rq "int" = some none)
  (b5:aA K rq "tuple" = some none)
  (b6:aA K rq "list" = some none)
  (b7:aA K rq "bool" = some none)
  (b8:aA K rq "enumerate" = some none)
  (b9:aA K rq "all" = some none)
  (b10:aA K rq "ValueError" = some none)
  (b11:aA K rq "max" = some none)
  (b12:aA K rq "reversed" = some none)
  (b13:aA K rq "zip" = some none)
  (b14:aA K rq "sum" = some none)
  (b15:aA K rq "sorted" = some none)
  : ∃ fd:FuncData,(∀(s:Shared) (v:Value),BindsTo s fd ⟨[v],[]⟩ [("_law_script",v)])/\∀ base:Heap,K.In base->base.Ns rq mg->base.BuiltinsAt mg TB->PySem.W.CodeHd base cc TB->base.BuiltinsAt mg TB2->PySem.W.CodeHd base cc2 TB2->FnOk l.prog w K mg base CX0 10 fa fd ["_law_script"] (Zy K TB TB2):=by
 have e:=hfa.symm.trans (aM X G a25)
 cases e
 have B:Bt mg:=⟨aN X G b0,aN X G b1,aN X G b2,aN X G b3,aN X G b4,aN X G b5,aN X G b6,aN X G b7,aN X G b8,aN X G b9,aN X G b10,aN X G b11,aN X G b12,aN X G b13,aN X G b14,aN X G b15⟩
 obtain⟨M0,p0,_,F0⟩:=a0.mk X G
 have B0:=F0.binds (ps:=["sign"]) fun _ _ _ _ _ _ us hl=>by obtain⟨_,rfl⟩:=Ut hl;rfl
 obtain⟨M1,p1,_,F1⟩:=a1.mk X G
 have B1:=F1.binds (ps:=["text"]) fun _ _ _ _ _ _ us hl=>by obtain⟨_,rfl⟩:=Ut hl;rfl
 obtain⟨M2,p2,_,F2⟩:=a2.mk X G
 have B2:=F2.binds (ps:=["word","place","part"]) fun _ _ _ _ _ _ us hl=>by obtain⟨_,_,_,rfl⟩:=jJ hl;rfl
 obtain⟨M3,p3,_,F3⟩:=a3.mk X G
 have B3:=F3.binds (ps:=["word","place","old","new"]) fun _ _ _ _ _ _ us hl=>by obtain⟨_,_,_,_,rfl⟩:=J2 hl;rfl
 obtain⟨M4,p4,_,F4⟩:=a4.mk X G
 have B4:=F4.binds (ps:=["rules","word","start","end"]) fun _ _ _ _ _ _ us hl=>by obtain⟨_,_,_,_,rfl⟩:=J2 hl;rfl
 obtain⟨M5,p5,_,F5⟩:=a5.mk X G
 have B5:=F5.binds (ps:=["rules","word","start"]) fun _ _ _ _ _ _ us hl=>by obtain⟨_,_,_,rfl⟩:=jJ hl;rfl
 have F6:FunD K "gone" "gone" wF (.ref om) f6 (aZ "gone" "gone" (zR wF) (zD wF) (ze wF) (.ref om) kV6 dc6 pm6 an6 cd6 ct6):=⟨⟨_,_,_,_,_,_,_,_,_,rfl,l6,k6⟩⟩
 have M6:=aM X G a6
 obtain⟨M7,p7,_,F7⟩:=a7.mk X G
 have B7:=F7.binds (ps:=["system","words"]) fun _ _ _ _ _ _ us hl=>by obtain⟨_,_,rfl⟩:=qm hl;rfl
 have F8:FunD K "shortest_words" "shortest_words" zw (.ref gv) f8 (aZ "shortest_words" "shortest_words" (zR zw) (zD zw) (ze zw) (.ref gv) kV8 dc8 pm8 an8 cd8 ct8):=⟨⟨_,_,_,_,_,_,_,_,_,rfl,l8,k8⟩⟩
 have M8:=aM X G a8
 obtain⟨M9,p9,_,F9⟩:=a9.mk X G
 have B9:=F9.binds (ps:=["letters","table"]) fun _ _ _ _ _ _ us hl=>by obtain⟨_,_,rfl⟩:=qm hl;rfl
 obtain⟨M10,p10,_,F10⟩:=a10.mk X G
 have B10:=F10.binds (ps:=["system","words","word"]) fun _ _ _ _ _ _ us hl=>by obtain⟨_,_,_,rfl⟩:=jJ hl;rfl
 obtain⟨M11,p11,_,F11⟩:=a11.mk X G
 have B11:=F11.binds (ps:=["system"]) fun _ _ _ _ _ _ us hl=>by obtain⟨_,rfl⟩:=Ut hl;rfl
 obtain⟨M12,p12,_,F12⟩:=a12.mk X G
 have B12:=F12.binds (ps:=["_law_script","_law_k"]) fun _ _ _ _ _ _ us hl=>by obtain⟨_,_,rfl⟩:=qm hl;rfl
 obtain⟨M13,p13,_,F13⟩:=a13.mk X G
 have B13:=F13.binds (ps:=["_law_cell","_law_many"]) fun _ _ _ _ _ _ us hl=>by obtain⟨_,_,rfl⟩:=qm hl;rfl
 obtain⟨M14,p14,_,F14⟩:=a14.mk X G
 have B14:=F14.binds (ps:=["_law_kind","_law_letters_here","_law_weights"]) fun _ _ _ _ _ _ us hl=>by obtain⟨_,_,_,rfl⟩:=jJ hl;rfl
 obtain⟨M15,p15,_,F15⟩:=a15.mk X G
 have B15:=F15.binds (ps:=["_law_letters_here","_law_cell","_law_size"]) fun _ _ _ _ _ _ us hl=>by obtain⟨_,_,_,rfl⟩:=jJ hl;rfl
 obtain⟨M16,p16,_,F16⟩:=a16.mk X G
 have B16:=F16.binds (ps:=["_law_many","_law_rooms_here","_law_cell"]) fun _ _ _ _ _ _ us hl=>by obtain⟨_,_,_,rfl⟩:=jJ hl;rfl
 obtain⟨M17,p17,_,F17⟩:=a17.mk X G
 have B17:=F17.binds (ps:=["_law_table_here","_law_letters_here","_law_word_here"]) fun _ _ _ _ _ _ us hl=>by obtain⟨_,_,_,rfl⟩:=jJ hl;rfl
 obtain⟨M18,p18,_,F18⟩:=a18.mk X G
 have B18:=F18.binds (ps:=["_law_table_here","_law_letters_here","_law_flipped"]) fun _ _ _ _ _ _ us hl=>by obtain⟨_,_,_,rfl⟩:=jJ hl;rfl
 obtain⟨M19,p19,_,F19⟩:=a19.mk X G
 have B19:=F19.binds (ps:=["_law_system"]) fun _ _ _ _ _ _ us hl=>by obtain⟨_,rfl⟩:=Ut hl;rfl
 obtain⟨M20,p20,_,F20⟩:=a20.mk X G
 have B20:=F20.binds (ps:=["_law_world","_law_told","_law_room","_law_word_here","_law_due"]) fun _ _ _ _ _ _ us hl=>by obtain⟨_,_,_,_,_,rfl⟩:=Ka hl;rfl
 obtain⟨M21,p21,_,F21⟩:=a21.mk X G
 have B21:=F21.binds (ps:=["_law_world","_law_rules"]) fun _ _ _ _ _ _ us hl=>by obtain⟨_,_,rfl⟩:=qm hl;rfl
 obtain⟨M22,p22,_,F22⟩:=a22.mk X G
 have B22:=F22.binds (ps:=["_law_world","_law_one","_law_other","_law_same"]) fun _ _ _ _ _ _ us hl=>by obtain⟨_,_,_,_,rfl⟩:=J2 hl;rfl
 have F23:=fun_mk (st:=xV) l23 k23 p23
 have B23:=F23.binds (ps:=["_law_system","_law_table_here","_law_letters_here","_law_parts","_law_words"]) fun _ _ _ _ _ _ us hl=>by obtain⟨_,_,_,_,_,rfl⟩:=Ka hl;rfl
 have M23:=aM X G a23
 have F24:=fun_mk (st:=xT) l24 k24 p24
 have B24:=F24.binds (ps:=["_law_found","_law_table_here","_law_letters_here","_law_parts","_law_words"]) fun _ _ _ _ _ _ us hl=>by obtain⟨_,_,_,_,_,rfl⟩:=Ka hl;rfl
 have M24:=aM X G a24
 have F25:=fun_mk (st:=qy) l25 k25 p25
 have B25:=F25.binds (ps:=["_law_script"]) fun _ _ _ _ _ _ us hl=>by obtain⟨_,rfl⟩:=Ut hl;rfl
 have M25:=aM X G a25
 have HCC:cd23=.ref cc:=by
  obtain⟨ai,oi,fdi,m1,m2,m3,m4⟩:=hlam
  have e1:=m1.symm.trans (aM X G a23)
  cases e1
  have e2:=m2.symm.trans (X _ _ l23)
  cases e2
  cases m3
  exact m4
 have HCC2:cd24=.ref cc2:=by
  obtain⟨ai,oi,fdi,m1,m2,m3,m4⟩:=hlam2
  have e1:=m1.symm.trans (aM X G a24)
  cases e1
  have e2:=m2.symm.trans (X _ _ l24)
  cases e2
  cases m3
  exact m4
 refine⟨aZ "law" "law" (zR qy) (zD qy) (ze qy) .none kV25 dc25 pm25 an25 cd25 ct25,fun s v=>.of_eq rfl,fun base _ _ HBT HCH HBT2 HCH2=>?_⟩
 have XIl:XI K fY:=⟨⟨x1,x2,x3,x4,x5⟩,x6,x7,x8,x9⟩
 have XIo:XI K ge:=⟨⟨y1,y2,y3,y4,y5⟩,y6,x7,x8,y9⟩
 have TL:zaU K mg fY:=⟨XIl,xi,aM X G g_NoLetters,t6,aM X G most⟩
 have TN:zaI K mg ge:=⟨XIo,yi,aM X G g_NoOrder,t7,aM X G mostw⟩
 have TO:TOrd K mg fQ fP fO:=⟨⟨oA,oB,oC,oE⟩,⟨mE,mF,mG,mH⟩,⟨mL,mM,mN,mP⟩,aM X G g_Order,aM X G g_FromRight,aM X G g_ByWeights,oH,mK,mT,nw_ByWeights⟩
 have XIt:XI K fW:=⟨⟨tt1,tt2,tt3,tt4,tt5⟩,tt6,x7,x8,tt9⟩
 have TNt:TNT K mg fW:=⟨XIt,aM X G g_NotTurned,nn⟩
 have FI:=fun_mk (st:=zJ) lI kI pI
 have BI:=FI.binds (ps:=["self","number"]) fun _ _ _ _ _ _ us hl=>by obtain⟨_,_,rfl⟩:=qm hl;rfl
 have TD:DNT l.prog w K mg base fW:=⟨TNt,_,_,ini,fnI,vW TNt FI,BI⟩
 have TS:YN K mg fR:=⟨⟨nV,nW,nX,nY⟩,aM X G g_System,no_System,nr_System⟩
 have TWi:zaH mg:=⟨t8,aM X G win⟩
 have XIu:XI K gf:=⟨⟨u1,u2,u3,u4,u5⟩,u6,x7,x8,u9⟩
 have TNu:TNU K mg gf:=⟨XIu,aM X G g_NoUse,ua⟩
 have FU:=fun_mk (st:=z9) lU kU pU
 have BU:=FU.binds (ps:=["self","at"]) fun _ _ _ _ _ _ us hl=>by obtain⟨_,_,rfl⟩:=qm hl;rfl
 have TUd:DNU l.prog w K mg base gf:=⟨TNu,_,_,iniU,fnU,qZ TNu FU,BU⟩
 have XIf:XI K fX:=⟨⟨v1,v2,v3,v4,v5⟩,v6,x7,x8,v9⟩
 have TF:zaR K mg fX:=⟨XIf,vi,aM X G g_TooFar⟩
 have XIm:XI K fV:=⟨⟨w1,w2,w3,w4,w5⟩,w6,x7,x8,w9⟩
 have TM:UJ K mg fV:=⟨XIm,wi,aM X G g_TooMany⟩
 have XIq:XI K gd:=⟨⟨nw1,nw2,nw3,nw4,nw5⟩,nw6,x7,x8,nw9⟩
 have TNw:Jo K mg gd:=⟨XIq,nwi,aM X G g_NoWorld,t9,aM X G mostr⟩
 have CLw:Xp K mg fS:=⟨⟨oI,oJ,oK,oM⟩,aM X G g_World,oP,nt_World⟩
 have D0:Df l.prog w K mg base CX0 1 "is_small_letter" ["sign"] [] ux:=⟨_,_,Vo F0,M0,p0,B0⟩
 have D1:Df l.prog w K mg base (CXx l.prog w) 2 "letters_of" ["text"] [] (yC fY):=⟨_,_,jE B TL F1 D0,M1,p1,B1⟩
 have D2:Df l.prog w K mg base CX0 1 "stands_at" ["word","place","part"] [] yO:=⟨_,_,jT B F2,M2,p2,B2⟩
 have D3:Df l.prog w K mg base (CXx l.prog w) 3 "put" ["word","place","old","new"] [] (X7 gf):=⟨_,_,QL B TUd F3 D2,M3,p3,B3⟩
 obtain⟨_,gL⟩:=lX
 have pA:=gL.kp
 have ml:=gL.binds (ps:=["self","letters"]) fun _ _ _ _ _ _ us hl=>by obtain⟨_,_,rfl⟩:=qm hl;rfl
 have pB:DMk l.prog w K mg base CX0 3 fQ ["self","letters"] (uw K):=⟨_,_,⟨oF,lV,iN,oG⟩,xm B gL D1,ml⟩
 have DI:DOI l.prog w K mg base fQ:=⟨_,_,⟨sgO,rdO,fcO,pA⟩,xm B gL D1,ml⟩
 obtain⟨_,ij⟩:=iY
 have nc:=ij.kp
 have ng:=ij.binds (ps:=["self","word"]) fun _ _ _ _ _ _ us hl=>by obtain⟨_,_,rfl⟩:=qm hl;rfl
 have oU:DM l.prog w K mg base CX0 1 fQ "weight" ["self","word"] ja:=⟨_,_,⟨iX,ig,nc⟩,xF B ij,ng⟩
 obtain⟨_,iP⟩:=lZ
 have nE:=iP.kp
 have nF:=iP.binds (ps:=["self","word"]) fun _ _ _ _ _ _ us hl=>by obtain⟨_,_,rfl⟩:=qm hl;rfl
 have pC:DM l.prog w K mg base CX0 1 fQ "seen" ["self","word"] Yd:=⟨_,_,⟨lY,iO,nE⟩,vd B iP,nF⟩
 obtain⟨_,iK⟩:=iF
 have oq:=iK.kp
 have ot:=iK.binds (ps:=["self","word"]) fun _ _ _ _ _ _ us hl=>by obtain⟨_,_,rfl⟩:=qm hl;rfl
 have ou:DM l.prog w K mg base CX0 1 fP "seen" ["self","word"] kO:=⟨_,_,⟨iE,iG,oq⟩,vV B iK,ot⟩
 obtain⟨_,iL⟩:=iI
 have pV:=iL.kp
 have ow:=iL.binds (ps:=["self","letters","weights"]) fun _ _ _ _ _ _ us hl=>by obtain⟨_,_,_,rfl⟩:=jJ hl;rfl
 have oy:DMk l.prog w K mg base (CXx l.prog w) 4 fO ["self","letters","weights"] (jo K fO):=⟨_,_,⟨mQ,iH,iJ,mS⟩,vL B TO TN DI iL,ow⟩
 obtain⟨_,hV⟩:=gU
 have nH:=hV.kp
 have nI:=hV.binds (ps:=["self","word"]) fun _ _ _ _ _ _ us hl=>by obtain⟨_,_,rfl⟩:=qm hl;rfl
 have nJ:DM l.prog w K mg base CX0 1 fO "weight" ["self","word"] (Zc fO):=⟨_,_,⟨gT,gX,nH⟩,wN B TO hV,nI⟩
 have TT:TWS l.prog w K mg base fQ fP fO:=⟨TO,pB,⟨_,_,⟨mI,fiR_init,iN,mJ⟩,xm B gL D1,ml⟩,oy,oU,⟨_,_,⟨fiR_weight,ig,nc⟩,xF B ij,ng⟩,nJ,pC,ou,⟨_,_,⟨fiW_seen,iO,nE⟩,vd B iP,nF⟩⟩
 obtain⟨_,gM⟩:=mf
 have mn:=gM.kp
 have mq:=gM.binds (ps:=["self","word"]) fun _ _ _ _ _ _ us hl=>by obtain⟨_,_,rfl⟩:=qm hl;rfl
 have pD:DM l.prog w K mg base CX0 2 fQ "rank" ["self","word"] (Zi fQ fP fO):=⟨_,_,⟨md,gK,mn⟩,xo B TT gM,mq⟩
 have DRk:DR l.prog w K mg base fQ fP fO:=⟨fun C h=>by rcases h with e | e | e; (rw[e];exact⟨TO.cO,pD⟩); (rw[e];exact⟨TO.cR,⟨_,_,⟨fiR_rank,gK,mn⟩,xo B TT gM,mq⟩⟩); (rw[e];exact⟨TO.cW,⟨_,_,⟨fiW_rank,gK,mn⟩,xo B TT gM,mq⟩⟩)⟩
 obtain⟨_,gq⟩:=lc
 have lj:=gq.kp
 have lm:=gq.binds (ps:=["self","one","other"]) fun _ _ _ _ _ _ us hl=>by obtain⟨_,_,_,rfl⟩:=jJ hl;rfl
 have oV:DM l.prog w K mg base CX0 3 fQ "before" ["self","one","other"] (Xe fQ fP fO):=⟨_,_,⟨iZ,gp,lj⟩,yM B DRk gq,lm⟩
 have DBk:DB l.prog w K mg base fQ fP fO:=⟨fun C h=>by rcases h with e | e | e; (rw[e];exact⟨TO.cO,oV⟩); (rw[e];exact⟨TO.cR,⟨_,_,⟨fiR_before,gp,lj⟩,yM B DRk gq,lm⟩⟩); (rw[e];exact⟨TO.cW,⟨_,_,⟨fiW_before,gp,lj⟩,yM B DRk gq,lm⟩⟩)⟩
 obtain⟨_,lN⟩:=lC
 have re:=lN.kp
 have pc:=lN.binds (ps:=["self","order","rules"]) fun _ _ _ _ _ _ us hl=>by obtain⟨_,_,_,rfl⟩:=jJ hl;rfl
 have pf:DMk l.prog w K mg base (CXx l.prog w) 5 fR ["self","order","rules"] (jF K fQ fP fO fW fR):=⟨_,_,⟨nZ,lB,lD,oa⟩,qu B TD TS DBk lN,pc⟩
 have MS:MkS l.prog w K mg base fQ fP fO fW fR:=pf
 have D4:Df l.prog w K mg base CX0 1 "first_within" ["rules","word","start","end"] [] (wc K):=⟨_,_,uO B F4,M4,p4,B4⟩
 have D5:Df l.prog w K mg base CX0 2 "first_from" ["rules","word","start"] [] (vf K):=⟨_,_,jm B TWi F5 D4,M5,p5,B5⟩
 obtain⟨_,ic⟩:=gZ
 have nL:=ic.kp
 have nM:=ic.binds (ps:=["self","word"]) fun _ _ _ _ _ _ us hl=>by obtain⟨_,_,rfl⟩:=qm hl;rfl
 have nN:DM l.prog w K mg base CX0 3 fR "first_use" ["self","word"] (jn K fR):=⟨_,_,⟨gY,hO,nL⟩,wU B TS ic D5,nM⟩
 obtain⟨_,gD⟩:=gB
 have nk:=gD.kp
 have nq:=gD.binds (ps:=["self","word"]) fun _ _ _ _ _ _ us hl=>by obtain⟨_,_,rfl⟩:=qm hl;rfl
 have nv:DM l.prog w K mg base CX0 4 fR "is_shortest" ["self","word"] (Zj K fR):=⟨_,_,⟨gA,gC,nk⟩,xz B TS gD nN,nq⟩
 have O6:=Qd (P:=l.prog) (w:=w) (base:=base) B TF TUd F6 D5 D3
 have D6:Df l.prog w K mg base (CXx l.prog w) 4 "gone" ["rules","word","most"] [] (wH K fX):=⟨_,_,O6,M6,p6,fun s us hK hl=>by obtain⟨_,_,_,rfl⟩:=jJ (us:=us) (by simpa using hl);exact BindsTo.of_defaults rfl (hK _ _ oo) rfl rfl rfl⟩
 have D6d:Df l.prog w K mg base (CXx l.prog w) 4 "gone" ["rules","word","most"] [.int 4000 mw] (wH K fX):=⟨_,_,O6,M6,p6,fun s us hK hl=>by obtain⟨_,_,rfl⟩:=qm (us:=us) (by simpa using hl);exact BindsTo.of_defaults rfl (hK _ _ oo) rfl rfl rfl⟩
 have ph:FunD K "road" "System.road" zG (.ref iq) gz (aZ "road" "System.road" (zR zG) (zD zG) (ze zG) (.ref iq) kV_system_road dc_system_road pm_system_road an_system_road cd_system_road ct_system_road):=⟨⟨_,_,_,_,_,_,_,_,_,rfl,lE,lF⟩⟩
 have OM_system_road:=qt (P:=l.prog) (w:=w) (base:=base) B TS ph D6 D6d
 have rf:DM l.prog w K mg base (CXx l.prog w) 5 fR "road" ["self","word","most"] (Zl K fR fX):=⟨_,_,⟨iu,iA,iv⟩,OM_system_road,fun s us hK hl=>by obtain⟨_,_,_,rfl⟩:=jJ (us:=us) (by simpa using hl);exact BindsTo.of_defaults rfl (hK _ _ iB) rfl rfl rfl⟩
 have MMd_system_road:DMD l.prog w K mg base (CXx l.prog w) 5 fR "road" ["self","word","most"] [.int 4000 nj] (Zl K fR fX):=⟨_,_,⟨iu,iA,iv⟩,OM_system_road,fun s us hK hl=>by obtain⟨_,_,rfl⟩:=qm (us:=us) (by simpa using hl);exact BindsTo.of_defaults rfl (hK _ _ iB) rfl rfl rfl⟩
 obtain⟨_,ip⟩:=im
 have og:=ip.kp
 have oh:=ip.binds (ps:=["self","word"]) fun _ _ _ _ _ _ us hl=>by obtain⟨_,_,rfl⟩:=qm hl;rfl
 have lS:DM l.prog w K mg base (CXx l.prog w) 5 fR "shortest" ["self","word"] (vA K fR):=⟨_,_,⟨il,io,og⟩,vE B TS ip D6 D6d,oh⟩
 have D7:Df l.prog w K mg base CX0 5 "one_letter_longer" ["system","words"] [] (WK K fQ fP fO fR):=⟨_,_,wv B TO TS F7 nv,M7,p7,B7⟩
 have O8:=vN (P:=l.prog) (w:=w) (base:=base) B TM F8 D7
 have D8:Df l.prog w K mg base (CXx l.prog w) 6 "shortest_words" ["system","most"] [] (kL K fQ fP fO fV fR):=⟨_,_,O8,M8,p8,fun s us hK hl=>by obtain⟨_,_,rfl⟩:=qm (us:=us) (by simpa using hl);exact BindsTo.of_defaults rfl (hK _ _ gw) rfl rfl rfl⟩
 have D8d:Df l.prog w K mg base (CXx l.prog w) 6 "shortest_words" ["system","most"] [.int 8 gc] (kL K fQ fP fO fV fR):=⟨_,_,O8,M8,p8,fun s us hK hl=>by obtain⟨_,rfl⟩:=Ut (us:=us) (by simpa using hl);exact BindsTo.of_defaults rfl (hK _ _ gw) rfl rfl rfl⟩
 have D9:Df l.prog w K mg base (CXx l.prog w) 1 "table_of" ["letters","table"] [] wP:=⟨_,_,Zh B TNw F9,M9,p9,B9⟩
 obtain⟨_,mr⟩:=mi
 have rg:=mr.kp
 have pE:=mr.binds (ps:=["self","letters","table"]) fun _ _ _ _ _ _ us hl=>by obtain⟨_,_,_,rfl⟩:=jJ hl;rfl
 have pF:DMk l.prog w K mg base (CXx l.prog w) 4 fS ["self","letters","table"] (vo fS):=⟨_,_,⟨oN,mh,mj,oO⟩,qS B CLw mr D1 D9,pE⟩
 obtain⟨_,lP⟩:=lH
 have pi:=lP.kp
 have pj:=lP.binds (ps:=["self"]) fun _ _ _ _ _ _ us hl=>by obtain⟨_,rfl⟩:=Ut hl;rfl
 have nz:DM l.prog w K mg base CX0 1 fS "rooms" ["self"] (vj fS):=⟨_,_,⟨lG,lJ,pi⟩,qo B CLw lP,pj⟩
 obtain⟨_,mY⟩:=mV
 have pM:=mY.kp
 have pN:=mY.binds (ps:=["self","room","word"]) fun _ _ _ _ _ _ us hl=>by obtain⟨_,_,_,rfl⟩:=jJ hl;rfl
 have oj:DM l.prog w K mg base CX0 1 fS "led" ["self","room","word"] (uQ fS):=⟨_,_,⟨mU,mX,pM⟩,kD B CLw mY,pN⟩
 obtain⟨_,lr⟩:=lh
 have oX:=lr.kp
 have oY:=lr.binds (ps:=["self","one","other"]) fun _ _ _ _ _ _ us hl=>by obtain⟨_,_,_,rfl⟩:=jJ hl;rfl
 have nh:DM l.prog w K mg base CX0 2 fS "parted" ["self","one","other"] (xb fS):=⟨_,_,⟨lg,li,oX⟩,uC B CLw lr nz oj,oY⟩
 obtain⟨_,lQ⟩:=lL
 have pq:=lQ.kp
 have pw:=lQ.binds (ps:=["self","pact"]) fun _ _ _ _ _ _ us hl=>by obtain⟨_,_,rfl⟩:=qm hl;rfl
 have nA:DM l.prog w K mg base CX0 3 fS "holds" ["self","pact"] (xM K fS):=⟨_,_,⟨lK,lM,pq⟩,qr B CLw lQ nh,pw⟩
 have D10:Df l.prog w K mg base CX0 6 "row_of" ["system","words","word"] [] (vc K fQ fP fO fR):=⟨_,_,Xv B TO TS F10 lS,M10,p10,B10⟩
 have D11:Df l.prog w K mg base (CXx l.prog w) 7 "world_of" ["system"] [] (XW K fQ fP fO fV fR fS):=⟨_,_,kW B TO TS CLw F11 D8 D8d D10 pF,M11,p11,B11⟩
 have D12:Df l.prog w K mg base CX0 1 "_law_cell_at" ["_law_script","_law_k"] [] (wf K):=⟨_,_,YD B F12,M12,p12,B12⟩
 have D13:Df l.prog w K mg base CX0 1 "_law_letters" ["_law_cell","_law_many"] [] wk:=⟨_,_,Yp B F13,M13,p13,B13⟩
 have D14:Df l.prog w K mg base CX0 6 "_law_order" ["_law_kind","_law_letters_here","_law_weights"] [] (jB K fQ fP fO):=⟨_,_,VE B TT F14,M14,p14,B14⟩
 have D15:Df l.prog w K mg base CX0 1 "_law_word" ["_law_letters_here","_law_cell","_law_size"] [] x0:=⟨_,_,VP B F15,M15,p15,B15⟩
 have D16:Df l.prog w K mg base CX0 1 "_law_table" ["_law_many","_law_rooms_here","_law_cell"] [] qW:=⟨_,_,W1 B F16,M16,p16,B16⟩
 have D17:Df l.prog w K mg base CX0 1 "_law_ways" ["_law_table_here","_law_letters_here","_law_word_here"] [] wq:=⟨_,_,U9 B F17,M17,p17,B17⟩
 have D18:Df l.prog w K mg base CX0 2 "_law_least" ["_law_table_here","_law_letters_here","_law_flipped"] [] (u8 K):=⟨_,_,W8 B F18 D17,M18,p18,B18⟩
 have TA:zaJ K mg fV fX:=⟨aM X G g_TooFar,kMM,kMF⟩
 have D19:Df l.prog w K mg base CX0 8 "_law_world_asked" ["_law_system"] [] (WF K fQ fP fO fR fS):=⟨_,_,qv B TA TM F19 D11,M19,p19,B19⟩
 have D20:Df l.prog w K mg base CX0 2 "_law_leads" ["_law_world","_law_told","_law_room","_law_word_here","_law_due"] [] (vK K fS):=⟨_,_,Vk B ⟨kl,ki,kb,kbb⟩ CLw F20 oj,M20,p20,B20⟩
 have D21:Df l.prog w K mg base CX0 4 "_law_rules_hold" ["_law_world","_law_rules"] [] (ZV K fS):=⟨_,_,jx B CLw F21 nA,M21,p21,B21⟩
 have D22:Df l.prog w K mg base CX0 4 "_law_pair" ["_law_world","_law_one","_law_other","_law_same"] [] (uz K fS):=⟨_,_,UV B ⟨kl,ki,kb,kbb⟩ CLw F22 nA nh,M22,p22,B22⟩
 have D23:Df l.prog w K mg base CX0 9 "_law_forms" ["_law_system","_law_table_here","_law_letters_here","_law_parts","_law_words"] [] (uX K fQ fP fO fR TB):=⟨_,_,W4 B ⟨kl,ki,kb,kbb⟩ TS (aN X G nsorted) HCH HBT hgT F23 HCC D8 D8d D17 lS,M23,p23,B23⟩
 have D24:Df l.prog w K mg base CX0 9 "_law_rooms" ["_law_found","_law_table_here","_law_letters_here","_law_parts","_law_words"] [] (uV K fS TB2):=⟨_,_,VM B ⟨oQ,x7,x8,oR,oS⟩ CLw (aN X G nsorted) HCH2 HBT2 hgT2 F24 HCC2 D21 D20 D17 D22 nz,M24,p24,B24⟩
 exact QO B TS MS F25 D13 D12 D16 D18 D19 D14 D15 D23 D24
theorem walk{l:PySem.W.OpenLaw}{q:Program}{loose:List Str}{XP:(Str->Option Value)->Heap->Prop}{YP:World->Heap->Prop}{d:DefRec}{K:Params->rC}(hn:l.most=some 63)(hdf:d.params.defaults=[])
  (hY:∀(w:World) (h:Heap),YP w h->(K w.params).In h) (hj:((fj q).find? fun r=>r.name == ("_law_forms" : Str)).isSome=true) (hj':((fj q).find? fun r=>r.name == ("_law_rooms" : Str)).isSome=true) (hno:∀ w:World,Qu (K w.params)=true)
  (F:∀(w:World) (mg:Str->Option Value) (fa:Addr) (h:Heap) (cc T cc' T':Addr),(K w.params).In h->h.Ns rq mg->mg d.name=some (.ref fa)->(∃ a o fd,mg "_law_forms" = some (.ref a)/\h.get? a=some o/\o.data=.func fd/\fd.code=.ref cc)->rq≠T->(∃ a o fd,mg "_law_rooms" = some (.ref a)/\h.get? a=some o/\o.data=.func fd/\fd.code=.ref cc')->rq≠T' ->
   ∃ fd:FuncData,(∀(s:Shared) (u:Value),BindsTo s fd ⟨[u],[]⟩ [("_law_script",u)])/\∀ base:Heap,(K w.params).In base->base.Ns rq mg->base.BuiltinsAt mg T->PySem.W.CodeHd base cc T->base.BuiltinsAt mg T'->PySem.W.CodeHd base cc' T'->FnOk l.prog w (K w.params) mg base CX0 10 fa fd ["_law_script"] (Zy (K w.params) T T')) :
  PySem.W.WalkO q loose XP YP l.row.toRowW d [] (fun f vs=>fL f vs):=by
 obtain⟨din,hd⟩:=rR.mp hj
 obtain⟨din',hd'⟩:=rR.mp hj'
 have hnm:din.name="_law_forms":=by simpa using dJ hd
 have hnm':din'.name="_law_rooms":=by simpa using dJ hd'
 exact L3.walk_ofT2 (n:=63) (k:=10) (x:="_law_script") (CX:=fun _=>CX0) (din:=din) (din':=din') (sp:=fun w T T'=>Zy (K w.params) T T') hn (by decide) hdf ⟨rfl,by decide,by decide⟩ (cI hd) (cI hd') hY hno (fun w mg fa h cc T cc' T' a b c e g e' g'=>F w mg fa h cc T cc' T' a b c (by rw[hnm] at e;exact e) g (by rw[hnm'] at e';exact e') g') (fun _ _ a ns T T' hl hB hT hT2 hS=>⟨a,ns,rfl,hS,hT,hT2,fun _=>rfl⟩) fun _ _ _ _ _ z=>z
end LL
namespace PySem.W.Fast
def tw4149078539405489316:=Nat
def tw13292005690092805098:=Nat
def tw10455984319071426531:=Nat
def tw4691622783671914477:=Nat
def tw3757100360791219317:=Nat
def tw1228313682142381524:=Nat
def tw12421875155030614684:=Nat
def tw14315601654786994799:=Nat
def tw3928980613761570809:=Nat
def tw8395304548325351344:=Nat
def tw9197915197390334173:=Nat
def tw3343060003088217527:=Nat
def tw15044519872636302026:=Nat
def tw10211548353066252044:=Nat
def tw2989960792484299089:=Nat
def tw13164076803002824164:=Nat
def tw3698033579346012628:=Nat
def tw1053126617468357010:=Nat
def tw7635673746165914256:=Nat
def tw11377792766964295235:=Nat
def tw3078538861149821188:=Nat
def tw15473073832856948523:=Nat
def tw13136057481073518081:=Nat
def tw9072735287873423182:=Nat
def tw13642490184234991773:=Nat
def tw6297759876122321534:=Nat
def tw16642634645918594138:=Nat
def tw9065925814679092193:=Nat
def tw14385732938001787022:=Nat
def tw8493661445866683511:=Nat
def tw11056029722645860871:=Nat
def tw5984569475851668509:=Nat
def tw14769284625941433580:=Nat
def tw8220724205170471106:=Nat
def tw12901359707688697499:=Nat
def tw522730256782479515:=Nat
def tw3620114826323049868:=Nat
def tw12317518588828776783:=Nat
def tw4820599017544646426:=Nat
def tw15037621859572662799:=Nat
def tw11460129389896983336:=Nat
def tw2921428676047843063:=Nat
def tw3205548811342268432:=Nat
def tw7997877253931807440:=Nat
def tw18210435988413551065:=Nat
def tw3728500286299246816:=Nat
def tw9219887369354160647:=Nat
def tw14205248609011370509:=Nat
def tw15958405245843032391:=Nat
def tw8949958581221571562:=Nat
def tw7918013849337201892:=Nat
def tw9578631167078250090:=Nat
def tw802835158686405749:=Nat
def tw13057927200459189646:=Nat
def tw6656230161791211811:=Nat
def tw3310554524543261106:=Nat
def tw10393599843174017595:=Nat
def tw8360525629701260625:=Nat
def tw7890897836735798282:=Nat
def tw7022451031601483016:=Nat
def tw8103425639515745973:=Nat
def tw13819040751832896632:=Nat
def tw9817214601402900371:=Nat
def tw1156603850106328754:=Nat
def tw2133783071387336185:=Nat
def tw14253304721990267536:=Nat
def tw5900831837267035828:=Nat
def tw15245322060051263829:=Nat
def tw17823515064378929015:=Nat
def tw2504492631138926660:=Nat
def tw12918495210966899034:=Nat
def tw8283381214398979572:=Nat
def tw12523985364582594344:=Nat
def tw11345864443656807447:=Nat
def tw4480767121483500594:=Nat
def tw10234970238126183342:=Nat
def tw4868207749679206833:=Nat
def tw7394545780802780937:=Nat
def tw12495255666977252223:=Nat
def tw16685188747522838383:=Nat
def tw7688303888521097246:=Nat
def tw12650117295615489092:=Nat
def tw2208235883680247932:=Nat
def tw2769465781113930222:=Nat
def tw10220763594623396373:=Nat
def tw5350955052065507153:=Nat
def tw16024221854015934398:=Nat
def tw13139289220694597283:=Nat
def tw5046100266170167745:=Nat
def tw6313744511599691110:=Nat
def tw15695981298851658215:=Nat
def tw16022774455752938904:=Nat
def tw6619344719703806078:=Nat
def tw884520699926243557:=Nat
def tw6303811491158301823:=Nat
def tw275842294474350904:=Nat
def tw16794061113967869768:=Nat
def tw12878536915298410545:=Nat
def tw15392133082744131620:=Nat
def tw3623330778034113205:=Nat
def tw13740312890884236291:=Nat
def tw10020475015917120069:=Nat
def tw6079406372184250382:=Nat
def tw17907671282424468359:=Nat
def tw12798984879684473737:=Nat
def tw7673854286421149214:=Nat
def tw15705386587382727539:=Nat
def tw17743143043166020574:=Nat
def tw9771194665572720383:=Nat
def tw5560236488167045963:=Nat
def tw14664991579325340864:=Nat
def tw5835133002106780977:=Nat
def tw5571137218571211457:=Nat
def tw9174725491619766548:=Nat
def tw10184305165912354508:=Nat
def tw453557348915345202:=Nat
def tw3575132472279163302:=Nat
def tw15488858798583023955:=Nat
def tw16182077006688949876:=Nat
def tw14502470619557996924:=Nat
def tw7343875741352271405:=Nat
def tw4599263689886972292:=Nat
def tw6001819907781618331:=Nat
def tw7578324734392673524:=Nat
def tw16569207034808762769:=Nat
def tw17277710558545773817:=Nat
def tw16887185217444081459:=Nat
def tw8300997333409158872:=Nat
def tw255870679186646022:=Nat
def tw11893799529316874297:=Nat
def tw1231743590836489458:=Nat
def tw8731697447209300422:=Nat
def tw16400930707950296189:=Nat
def tw6084935380804641491:=Nat
def tw1150775916790346448:=Nat
def tw14241015569892209474:=Nat
def tw2645946431699693558:=Nat
def tw3573850911930178183:=Nat
def tw9671407491978896072:=Nat
def tw2149765042901427728:=Nat
def tw12977226093489678391:=Nat
def tw13881395538840161094:=Nat
def tw2805380222322062627:=Nat
def tw4713420393648476409:=Nat
def tw1391221504217995720:=Nat
def tw17740572763623956922:=Nat
def tw16487211503314442569:=Nat
def tw8827242741481820572:=Nat
def tw5610724528596628013:=Nat
def tw8236926001226918362:=Nat
def tw15480992977310305548:=Nat
def tw12825961535768716389:=Nat
def tw8905382946160660703:=Nat
def tw6846597819385469855:=Nat
def tw2486302752415247059:=Nat
def tw2709843203242176211:=Nat
def tw17679597910110801615:=Nat
def tw5480922495694926953:=Nat
def tw4327351871164955927:=Nat
def tw17436816149888655256:=Nat
def tw1648182589474159781:=Nat
def tw16114109592545842723:=Nat
def tw16737668398191276326:=Nat
def tw7305669387025605575:=Nat
def tw8752278502815711920:=Nat
def tw15779156682004068575:=Nat
def tw3154855172005357200:=Nat
def tw6459739953608696782:=Nat
def tw10686819159601200483:=Nat
def tw6938118703818909100:=Nat
def tw10546465403575225354:=Nat
def tw17446276409235554173:=Nat
def tw14603922509748702838:=Nat
def tw15460809516390963545:=Nat
def tw16315500027740013921:=Nat
def tw10779936481289785022:=Nat
def tw18334191671631645136:=Nat
def tw5621677501040416841:=Nat
def tw2881668871499228695:=Nat
def tw17087987210760405047:=Nat
def tw131004984642413568:=Nat
def tw5353187671300661801:=Nat
end PySem.W.Fast
open PySem PySem.W PyProof.Rows
set_option maxRecDepth 100000 in
set_option maxHeartbeats 0 in
theorem PySem.Challenge.cw_letterlaw_k73_whole_forms_and_rooms_holds : PySem.Challenge.rw_letterlaw_k73_whole_forms_and_rooms.Holds := by
 w_on;o_law;k_head; (case hw=>w_witness2)
 k_fill
 refine LL.walk (l:=PySem.Challenge.rw_letterlaw_k73_whole_forms_and_rooms) rfl rfl (fun w h Y=>PySem.W.km_in_of Y) ?hJJ ?hJK ?hNN ?hFF
 case hJJ=>first | kernel_rfl | rfl | decide +kernel
 case hJK=>first | kernel_rfl | rfl | decide +kernel
 case hNN=>intro w;first | kernel_rfl | rfl
 case hFF =>
  intro w mg fa h cc T cc2 T2 KX G hmg hlam hgT hlam2 hgT2
  refine' LL.all_mk KX G hmg hlam hgT hlam2 hgT2 ?a0 ?a1 ?a2 ?a3 ?a4 ?a5 ?a6 ?l6 ?k6 ?p6 ?a7 ?a8 ?l8 ?k8 ?p8 ?a9 ?a10 ?a11 ?a12 ?a13 ?a14 ?a15 ?a16 ?a17 ?a18 ?a19 ?a20 ?a21 ?a22 ?a23 ?l23 ?k23 ?p23 ?a24 ?l24 ?k24 ?p24 ?a25 ?l25 ?k25 ?p25 ?g_LetterError ?g_NoLetters ?g_NoOrder ?g_Order ?g_FromRight ?g_ByWeights ?g_NotTurned ?g_System ?g_NoUse ?g_TooFar ?g_TooMany ?g_NoWorld ?g_World ?kbb ?kt ?ki ?kb ?kl ?x7 ?x8 ?x1 ?x2 ?x3 ?x4 ?x5 ?x6 ?x9 ?xi ?y1 ?y2 ?y3 ?y4 ?y5 ?y6 ?y9 ?yi ?most ?mostw ?oA ?oB ?oC ?oE ?oF ?oG ?oH ?pJ ?pK ?pL ?mE ?mF ?mG ?mH ?mI ?mJ ?mK ?nO ?nP ?nQ ?mL ?mM ?mN ?mP ?mQ ?mS ?mT ?nR ?nS ?nU ?nw_ByWeights ?sgO ?rdO ?win ?tt1 ?tt2 ?tt3 ?tt4 ?tt5 ?tt6 ?tt9 ?nn ?ini ?lI ?kI ?pI ?fnI ?nV ?nW ?nX ?nY ?nZ ?oa ?no_System ?nr_System ?u1 ?u2 ?u3 ?u4 ?u5 ?u6 ?u9 ?ua ?iniU ?lU ?kU ?pU ?fnU ?v1 ?v2 ?v3 ?v4 ?v5 ?v6 ?v9 ?vi ?sFF ?w1 ?w2 ?w3 ?w4 ?w5 ?w6 ?w9 ?wi ?nw1 ?nw2 ?nw3 ?nw4 ?nw5 ?nw6 ?nw9 ?nwi ?mostr ?oI ?oJ ?oK ?oM ?oN ?oO ?oP ?nt_World ?oQ ?oR ?oS ?kMM ?kMF ?kMW ?nsorted ?lV ?lX ?iN ?iX ?iY ?ig ?lY ?lZ ?iO ?iE ?iF ?iG ?iH ?iI ?iJ ?gT ?gU ?gX ?md ?mf ?gK ?iZ ?lc ?gp ?lB ?lC ?lD ?gY ?gZ ?hO ?gA ?gB ?gC ?iu ?lE ?lF ?iv ?iA ?iB ?il ?im ?io ?mh ?mi ?mj ?lG ?lH ?lJ ?mU ?mV ?mX ?lg ?lh ?li ?lK ?lL ?lM ?oo ?gw ?fcO ?fiR_init ?fiR_weight ?fiW_seen ?fiR_rank ?fiW_rank ?fiR_before ?fiW_before ?b0 ?b1 ?b2 ?b3 ?b4 ?b5 ?b6 ?b7 ?b8 ?b9 ?b10 ?b11 ?b12 ?b13 ?b14 ?b15
  (case a0=>exact⟨by k_is,_,L2.fun_mk (by k_is) (by k_is) (by k_is)⟩)
  (case a1=>exact⟨by k_is,_,L2.fun_mk (by k_is) (by k_is) (by k_is)⟩)
  (case a2=>exact⟨by k_is,_,L2.fun_mk (by k_is) (by k_is) (by k_is)⟩)
  (case a3=>exact⟨by k_is,_,L2.fun_mk (by k_is) (by k_is) (by k_is)⟩)
  (case a4=>exact⟨by k_is,_,L2.fun_mk (by k_is) (by k_is) (by k_is)⟩)
  (case a5=>exact⟨by k_is,_,L2.fun_mk (by k_is) (by k_is) (by k_is)⟩)
  case a6|l6|k6|p6=>k_is
  (case a7=>exact⟨by k_is,_,L2.fun_mk (by k_is) (by k_is) (by k_is)⟩)
  case a8|l8|k8|p8=>k_is
  (case a9=>exact⟨by k_is,_,L2.fun_mk (by k_is) (by k_is) (by k_is)⟩)
  (case a10=>exact⟨by k_is,_,L2.fun_mk (by k_is) (by k_is) (by k_is)⟩)
  (case a11=>exact⟨by k_is,_,L2.fun_mk (by k_is) (by k_is) (by k_is)⟩)
  (case a12=>exact⟨by k_is,_,L2.fun_mk (by k_is) (by k_is) (by k_is)⟩)
  (case a13=>exact⟨by k_is,_,L2.fun_mk (by k_is) (by k_is) (by k_is)⟩)
  (case a14=>exact⟨by k_is,_,L2.fun_mk (by k_is) (by k_is) (by k_is)⟩)
  (case a15=>exact⟨by k_is,_,L2.fun_mk (by k_is) (by k_is) (by k_is)⟩)
  (case a16=>exact⟨by k_is,_,L2.fun_mk (by k_is) (by k_is) (by k_is)⟩)
  (case a17=>exact⟨by k_is,_,L2.fun_mk (by k_is) (by k_is) (by k_is)⟩)
  (case a18=>exact⟨by k_is,_,L2.fun_mk (by k_is) (by k_is) (by k_is)⟩)
  (case a19=>exact⟨by k_is,_,L2.fun_mk (by k_is) (by k_is) (by k_is)⟩)
  (case a20=>exact⟨by k_is,_,L2.fun_mk (by k_is) (by k_is) (by k_is)⟩)
  (case a21=>exact⟨by k_is,_,L2.fun_mk (by k_is) (by k_is) (by k_is)⟩)
  (case a22=>exact⟨by k_is,_,L2.fun_mk (by k_is) (by k_is) (by k_is)⟩)
  case a23|l23|k23|p23|a24|l24|k24|p24|a25|l25|k25|p25|g_LetterError|g_NoLetters|g_NoOrder|g_Order|g_FromRight|g_ByWeights|g_NotTurned|g_System|g_NoUse|g_TooFar|g_TooMany|g_NoWorld|g_World=>k_is
  (case kbb=>first | kernel_rfl | rfl)
  (case kt=>first | kernel_rfl | rfl)
  (case ki=>first | kernel_rfl | rfl)
  (case kb=>first | kernel_rfl | rfl)
  (case kl=>first | kernel_rfl | rfl)
  case x7|x8=>k_is
  (case x1=>first | kernel_rfl | rfl | decide +kernel)
  case x2|x3|x4|x5|x6|x9|xi=>k_is
  (case y1=>first | kernel_rfl | rfl | decide +kernel)
  case y2|y3|y4|y5|y6|y9|yi|most|mostw=>k_is
  (case oA=>first | kernel_rfl | rfl | k_is | decide +kernel)
  (case oB=>first | kernel_rfl | rfl | k_is)
  (case oC=>first | kernel_rfl | rfl | k_is | decide +kernel)
  case oE=>k_is
  (case oF=>first | kernel_rfl | rfl | k_is | decide +kernel)
  case oG|oH=>k_is
  (case pJ=>first | kernel_rfl | rfl)
  case pK|pL=>k_is
  (case mE=>first | kernel_rfl | rfl | k_is | decide +kernel)
  (case mF=>first | kernel_rfl | rfl | k_is)
  (case mG=>first | kernel_rfl | rfl | k_is | decide +kernel)
  case mH=>k_is
  (case mI=>first | kernel_rfl | rfl | k_is | decide +kernel)
  case mJ|mK=>k_is
  (case nO=>first | kernel_rfl | rfl)
  case nP|nQ=>k_is
  (case mL=>first | kernel_rfl | rfl | k_is | decide +kernel)
  (case mM=>first | kernel_rfl | rfl | k_is)
  (case mN=>first | kernel_rfl | rfl | k_is | decide +kernel)
  case mP=>k_is
  (case mQ=>first | kernel_rfl | rfl | k_is | decide +kernel)
  case mS|mT=>k_is
  (case nR=>first | kernel_rfl | rfl)
  case nS|nU|nw_ByWeights|sgO=>k_is
  (case rdO=>first | kernel_rfl | rfl | k_is | decide +kernel)
  case win=>k_is
  (case tt1=>first | kernel_rfl | rfl | decide +kernel)
  case tt2|tt3|tt4|tt5|tt6|tt9|nn|ini|lI|kI|pI=>k_is
  (case fnI=>first | kernel_rfl | rfl | k_is)
  (case nV=>first | kernel_rfl | rfl | k_is | decide +kernel)
  (case nW=>first | kernel_rfl | rfl | k_is)
  (case nX=>first | kernel_rfl | rfl | k_is | decide +kernel)
  case nY=>k_is
  (case nZ=>first | kernel_rfl | rfl | k_is | decide +kernel)
  case oa|no_System|nr_System=>k_is
  (case u1=>first | kernel_rfl | rfl | decide +kernel)
  case u2|u3|u4|u5|u6|u9|ua|iniU|lU|kU|pU=>k_is
  (case fnU=>first | kernel_rfl | rfl | k_is)
  (case v1=>first | kernel_rfl | rfl | decide +kernel)
  case v2|v3|v4|v5|v6|v9|vi|sFF=>k_is
  (case w1=>first | kernel_rfl | rfl | decide +kernel)
  case w2|w3|w4|w5|w6|w9|wi=>k_is
  (case nw1=>first | kernel_rfl | rfl | decide +kernel)
  case nw2|nw3|nw4|nw5|nw6|nw9|nwi|mostr=>k_is
  (case oI=>first | kernel_rfl | rfl | k_is | decide +kernel)
  (case oJ=>first | kernel_rfl | rfl | k_is)
  (case oK=>first | kernel_rfl | rfl | k_is | decide +kernel)
  case oM=>k_is
  (case oN=>first | kernel_rfl | rfl | k_is | decide +kernel)
  case oO|oP|nt_World=>k_is
  (case oQ=>first | kernel_rfl | rfl)
  case oR|oS|kMM=>k_is
  (case kMF=>first | kernel_rfl | rfl)
  (case kMW=>first | kernel_rfl | rfl)
  case nsorted|lV=>k_is
  (case lX=>exact⟨_,L2.fun_mk (by k_is) (by k_is) (by k_is)⟩)
  (case iN=>first | kernel_rfl | rfl | k_is)
  case iX=>k_is
  (case iY=>exact⟨_,L2.fun_mk (by k_is) (by k_is) (by k_is)⟩)
  (case ig=>first | kernel_rfl | rfl | k_is)
  case lY=>k_is
  (case lZ=>exact⟨_,L2.fun_mk (by k_is) (by k_is) (by k_is)⟩)
  (case iO=>first | kernel_rfl | rfl | k_is)
  case iE=>k_is
  (case iF=>exact⟨_,L2.fun_mk (by k_is) (by k_is) (by k_is)⟩)
  (case iG=>first | kernel_rfl | rfl | k_is)
  case iH=>k_is
  (case iI=>exact⟨_,L2.fun_mk (by k_is) (by k_is) (by k_is)⟩)
  (case iJ=>first | kernel_rfl | rfl | k_is)
  case gT=>k_is
  (case gU=>exact⟨_,L2.fun_mk (by k_is) (by k_is) (by k_is)⟩)
  (case gX=>first | kernel_rfl | rfl | k_is)
  case md=>k_is
  (case mf=>exact⟨_,L2.fun_mk (by k_is) (by k_is) (by k_is)⟩)
  (case gK=>first | kernel_rfl | rfl | k_is)
  case iZ=>k_is
  (case lc=>exact⟨_,L2.fun_mk (by k_is) (by k_is) (by k_is)⟩)
  (case gp=>first | kernel_rfl | rfl | k_is)
  case lB=>k_is
  (case lC=>exact⟨_,L2.fun_mk (by k_is) (by k_is) (by k_is)⟩)
  (case lD=>first | kernel_rfl | rfl | k_is)
  case gY=>k_is
  (case gZ=>exact⟨_,L2.fun_mk (by k_is) (by k_is) (by k_is)⟩)
  (case hO=>first | kernel_rfl | rfl | k_is)
  case gA=>k_is
  (case gB=>exact⟨_,L2.fun_mk (by k_is) (by k_is) (by k_is)⟩)
  (case gC=>first | kernel_rfl | rfl | k_is)
  case iu|lE|lF|iv=>k_is
  (case iA=>first | kernel_rfl | rfl | k_is)
  case iB|il=>k_is
  (case im=>exact⟨_,L2.fun_mk (by k_is) (by k_is) (by k_is)⟩)
  (case io=>first | kernel_rfl | rfl | k_is)
  case mh=>k_is
  (case mi=>exact⟨_,L2.fun_mk (by k_is) (by k_is) (by k_is)⟩)
  (case mj=>first | kernel_rfl | rfl | k_is)
  case lG=>k_is
  (case lH=>exact⟨_,L2.fun_mk (by k_is) (by k_is) (by k_is)⟩)
  (case lJ=>first | kernel_rfl | rfl | k_is)
  case mU=>k_is
  (case mV=>exact⟨_,L2.fun_mk (by k_is) (by k_is) (by k_is)⟩)
  (case mX=>first | kernel_rfl | rfl | k_is)
  case lg=>k_is
  (case lh=>exact⟨_,L2.fun_mk (by k_is) (by k_is) (by k_is)⟩)
  (case li=>first | kernel_rfl | rfl | k_is)
  case lK=>k_is
  (case lL=>exact⟨_,L2.fun_mk (by k_is) (by k_is) (by k_is)⟩)
  (case lM=>first | kernel_rfl | rfl | k_is)
  case oo|gw|fcO|fiR_init|fiR_weight|fiW_seen|fiR_rank|fiW_rank|fiR_before|fiW_before|b0|b1|b2|b3|b4|b5|b6|b7|b8|b9|b10|b11|b12|b13|b14|b15=>k_is
#print axioms PySem.Challenge.cw_letterlaw_k73_whole_forms_and_rooms_holds
