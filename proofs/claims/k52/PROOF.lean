import PyProof.Rows.All
import Wide.All
import OpenK.AllK
import Wide.FinOn
import PyProof.EqAt
import PyProof.EqKinds
import PyProof.NeKinds
import PyProof.TupleCall
import KE.KRevIter
import PyProof.ZipIter
import PyProof.Rows.SetFrom
import PyProof.StrWalks
import PyProof.DictStraight
import PyProof.StrLawsFrom
import PyProof.Rows.StrNews2
import KE.KMinBuiltin
import PyProof.Rows.CallKwBuiltin
import PyProof.Rows.SortShell
import KE.KSortTup
import KE.KBoundM
import KE.KLam
import KE.KDictLaws
import PyProof.DictWalks
import Lean
import PySem.Challenge.RW_letterlaw_k52_thin_lists_stay
set_option compiler.extract_closed false
local macro_rules | `(tactic| rintro $p* : _)=>`(tactic| rintro $(Lean.mkIdent `Gz):ident $(Lean.mkIdent `hGz):ident $p*)
local macro_rules | `(tactic| right)=>`(tactic| subst $(Lean.mkIdent `hGz))
local macro_rules | `($s⁻¹)=>`(($s).heap.objs.size)
local macro_rules | `(⋯)=>`(by lia)
local macro_rules | `(∅)=>`(by decide)
local macro_rules | `(tactic| erw [$[$a:term],*] $[$l:location]?)=>`(tactic| simp only [$[$a:term],*] $[$l:location]?)
local macro_rules | `(())=>`(List Nat)
local macro_rules | `(#[$a,*])=>if a.getElems.size>1 then `(⟨$a,*⟩) else Lean.Macro.throwUnsupported
open List renaming mem_map→aa,mem_cons→ac,getElem?_eq_some_iff→ae,mem_append→af,mem_singleton→ag,all_eq_true→ah,mem_range→aj,mem_filter→al,nodup_cons→am,mem_reverse→ap,length_pos_iff→aq,pairwise_append→ar,length_eq_zero_iff→au,mem_iff_getElem?→av,mem_filterMap→aw,nodup_iff_count→ax,pairwise_cons→ay,nodup_append→az
open Option renaming map_eq_some_iff→ak,isSome_iff_exists→ao
local macro_rules | `(tactic| symm)=>`(tactic| decide +kernel)
local macro_rules | `(tactic| nofun)=>`(tactic| exact⟨rfl,rfl,rfl,by decide +kernel,rfl,by decide +kernel,by decide +kernel⟩)
set_option Elab.async false
set_option linter.all false
set_option maxRecDepth 100000
set_option maxHeartbeats 4000000
namespace L2
open PySem PySem.Spec PyProof.Rows
noncomputable abbrev Key:=Sum Int Str
noncomputable def Qz:Key -> Value -> Bool
 | .inl k,v=>Value.isInt k v
 | .inr x,v=>Value.isStrOf x v
noncomputable def K8 (w:World):Key -> Int
 | .inl k=>hashInt k
 | .inr x=>hashStr w x
theorem zN:∀ {k:Key} {v:Value},Qz k v = true -> (∃ i t,k = Sum.inl i /\ v = Value.int i t) \/ (∃ x t,k = Sum.inr x /\ v = Value.str x t)
 | .inl i,v,h=>by
  obtain ⟨t,e⟩:=Value.isInt_shape (k:=i) (v:=v) h;exact .inl #[i,t,rfl,e]
 | .inr x,v,h=>by
  obtain ⟨t,e⟩:=Value.isStrOf_shape (x:=x) (v:=v) h;exact .inr #[x,t,rfl,e]
theorem Q9 (a b:Int):decide ((Sum.inl a:Key) = Sum.inl b) =(a == b):=by
 by_cases e:a = b
 ·subst e; simp
 ·have h:¬ (Sum.inl a:Key) = Sum.inl b:=fun q=>e (Sum.inl.inj q);rw [decide_eq_false h];exact (beq_eq_false_iff_ne.mpr e).symm
theorem Jg (a b:Str):decide ((Sum.inr a:Key) = Sum.inr b) = decide (a = b):=by
 by_cases e:a = b
 ·subst e; simp
 ·have h:¬ (Sum.inr a:Key) = Sum.inr b:=fun q=>e (Sum.inr.inj q);rw [decide_eq_false h,decide_eq_false e]
theorem Qu (a:Int) (b:Str):decide ((Sum.inl a:Key) = Sum.inr b) = false:=decide_eq_false (fun q=>nomatch q)
theorem U8 (a:Str) (b:Int):decide ((Sum.inr a:Key) = Sum.inl b) = false:=decide_eq_false (fun q=>nomatch q)
noncomputable def je (prog:Program) (w:World):PySem.KeyKind prog w Key where
 is:=Qz
 hash:=K8 w
 inj:=fun v a b ha hb=>by
  rcases zN ha with ⟨i,t,rfl,rfl⟩ | ⟨x,t,rfl,rfl⟩
  ·rcases zN hb with ⟨j,u,rfl,e⟩ | ⟨y,u,rfl,e⟩
   ·injection e with e1 _; rw [e1]
   ·exact nomatch e
  ·rcases zN hb with ⟨j,u,rfl,e⟩ | ⟨y,u,rfl,e⟩
   ·exact nomatch e
   ·injection e with e1 _; rw [e1]
 byValue:=fun k v h=>by
  rcases zN h with ⟨i,t,rfl,rfl⟩ | ⟨x,t,rfl,rfl⟩ <;> rfl
 pyHash:=fun hv h=>by
  rcases zN hv with ⟨i,t,rfl,rfl⟩ | ⟨x,t,rfl,rfl⟩
  ·exact wpAny_pyHash_int h
  ·exact wpAny_pyHash_str h
 eqBool:=fun hu hv h=>by
  rcases zN hu with ⟨i,t,rfl,rfl⟩ | ⟨x,t,rfl,rfl⟩
  ·rcases zN hv with ⟨j,u,rfl,rfl⟩ | ⟨y,u,rfl,rfl⟩
   ·rw [Q9]at h; exact wpAny_eqBool_int h
   ·rw [Qu]at h; exact SeqAt.EqAt.int_str i t y u _ _ _ _ h
  ·rcases zN hv with ⟨j,u,rfl,rfl⟩ | ⟨y,u,rfl,rfl⟩
   ·rw [U8]at h; exact SeqAt.EqAt.str_int x t j u _ _ _ _ h
   ·rw [Jg]at h; exact wpAny_eqBool_str h
 «strs»:=fun k x t v h=>by
  rcases zN h with ⟨i,u,rfl,e⟩ | ⟨y,u,rfl,e⟩
  ·exact nomatch e
  ·injection e with e1 _;subst e1;cases v <;> rfl
end L2
namespace L2
open PySem PySem.Spec PyProof.Rows
inductive V where
 | non | bl (b:Bool) | int (i:Int) | str (x:Str) | byt (b:Array UInt8) | flt (b:UInt64) | ref (a:Addr) | ty (n:String)
 deriving DecidableEq
def RelV:V -> Value -> Prop
 | .non,u=>u = Value.none
 | .bl b,u=>u = Value.bool b
 | .int i,u=>∃ t,u = Value.int i t
 | .str x,u=>∃ t,u = Value.str x t
 | .byt b,u=>∃ t,u = Value.bytes b t
 | .flt b,u=>∃ t,u = Value.float b t
 | .ref a,u=>u = Value.ref a
 | .ty n,u=>u = Value.type n
abbrev Vals:List V -> List Value -> Prop:=Paired RelV
theorem Vals.length {xs:List V} {us:List Value} (r:Vals xs us):xs.length = us.length:=Paired.length r
theorem Vals.get:∀ {xs:List V} {us:List Value} {i:Nat} {x:V},Vals xs us -> xs[i]? = some x -> ∃ u,us[i]? = some u /\ RelV x u
 | _,_,_,_,.nil,e=>by simp at e
 | _,_,0,_,.cons r _,e=>by simp at e; subst e; exact #[_,rfl,r]
 | _,_,i + 1,x,.cons _ t,e=>by
  obtain ⟨u,h1,h2⟩:=Vals.get (i:=i) (x:=x) t (by simpa using e);exact #[u,by simpa using h1,h2]
theorem Vals.set {x:V} {u:Value} (r:RelV x u):∀ {xs:List V} {us:List Value} (i:Nat),Vals xs us -> Vals (xs.set i x) (us.set i u)
 | _,_,_,.nil=>.nil
 | _,_,0,.cons _ t=>.cons r t
 | _,_,i + 1,.cons q t=>.cons q (Vals.set r i t)
theorem Vals.append {xs ys:List V} {us ws:List Value} (h:Vals xs us) (s:Vals ys ws):Vals (xs ++ ys) (us ++ ws):=by
 induction h with
 | nil=>exact s
 | cons r t ih=>exact .cons r ih
theorem Vals.take:∀ {xs:List V} {us:List Value} (n:Nat),Vals xs us -> Vals (xs.take n) (us.take n)
 | _,_,0,_=>.nil
 | _,_,_ + 1,.nil=>.nil
 | _,_,n + 1,.cons r t=>.cons r (Vals.take n t)
theorem Vals.drop:∀ {xs:List V} {us:List Value} (n:Nat),Vals xs us -> Vals (xs.drop n) (us.drop n)
 | _,_,0,r=>r
 | _,_,_ + 1,.nil=>.nil
 | _,_,n + 1,.cons _ t=>Vals.drop n t
def RelO:Option V -> Option Value -> Prop
 | some v,some u=>RelV v u
 | none,none=>True
 | _,_=>False
def KV {κ:Type}:List (κ × V) -> List (κ × Value) -> Prop:=Paired fun (p:κ × V) (q:κ × Value)=>p.1 = q.1 /\ RelV p.2 q.2
noncomputable def kV:Key -> V
 | .inl i=>.int i
 | .inr x=>.str x
inductive HO where
  | lst (xs:List V)
  | tup (xs:List V)
  | dK (kvs:List (Key × V)) | dT (kvs:List (List Key × V))
  | set (S:Int -> Bool) (n:Nat)
  | ins (C dx:Addr) (fs:List (Str × V))
  | own (x:Addr)
  | xd (fs:List (Str × V))
  | met (f x:Addr)
  | rng (lo hi:Int)
  | frz (o:Obj) (u:HO)
  | tbl (ps:Array Value)
  | ext (φ:Heap -> Prop)
noncomputable abbrev Hp:=Addr -> Option HO
noncomputable def upd (H:Hp) (a:Addr) (o:HO):Hp:=fun b=>if b = a then some o else H b
theorem zb {H:Hp} {a:Addr} {o:HO}:upd H a o a = some o:=by unfold upd; rw [if_pos rfl]
theorem zk {H:Hp} {a b:Addr} {o:HO} (h:b ≠ a):upd H a o b = H b:=by unfold upd; rw [if_neg h]
theorem zv {H:Hp} {a b:Addr} {o:HO} (h:H a = some o) (h':H b = none):a ≠ b:=by
 intro e; subst e; rw [h]at h'; cases h'
section
variable (P:Program) (w:World)
def ObjOk (H:Hp) (h:Heap) (a:Addr):HO -> Prop
 | .lst xs=>xs.length <= sizeLine /\ ∃ (its:List Value) (n:Nat),Vals xs its /\ h.get? a = some { cls:=.type "list",data:=.seq its.toArray n }
 | .tup xs=>xs.length <= sizeLine /\ ∃ its:List Value,Vals xs its /\ IsTup h a its.toArray
 | .dK kvs=>kvs.length <= sizeLine /\ (a == sysModules) = false /\ ∃ vs,KV kvs vs /\ h.DictOf (je P w) a vs
 | .dT kvs=>kvs.length <= sizeLine /\ (a == sysModules) = false /\ ∃ xs:List (List Key × Addr × Value),
   Paired (fun (p:List Key × V) (q:List Key × Addr × Value)=>p.1 = q.1 /\ H q.2.1 = some (.tup (p.1.map kV)) /\ RelV p.2 q.2.2) kvs xs /\
   ∃ o es ep,h.get? a = some o /\ o.ExactDict /\ o.data = .dict es ep /\ es.toList = xs.map (entryOfKey (tupleKind (je P w))) /\ (xs.map (·.1)).Nodup
 | .set S n=>h.SetOf (intKind P w) a S n
 | .ins C dx fs=>H dx = some (.own a) /\ fs.length <= 1000 /\ dx ≠ a /\ h.get? a = some (PySem.W.instObj C dx) /\
   ∃ mA,h.Ns1 dx mA /\ (∀ f,RelO (fs.lookup f) (mA f)) /\ PySem.Within mA (fs.map (·.1))
 | .own _=>∃ o,h.get? a = some o
 | .xd fs=>∃ mA,h.Ns1 a mA /\ ∀ f,RelO (fs.lookup f) (mA f)
 | .rng lo hi=>∃ t u v,h.get? a = some { cls:=.type "range",data:=.fields (List.toArray [.int lo t,.int hi u,.int 1 v]) }
 | .frz o u=>h.get? a = some o /\ ObjOk H h a u
 | .tbl ps=>h.get? a = some { cls:=.none,data:=.fields ps }
 | .met f x=>h.get? a = some (PySem.W.methodObj (.ref f) (.ref x))
 | .ext φ=>φ h /\ (∃ o,h.get? a = some o) /\ ∀ h1 h2:Heap,φ h1 -> (∀ o,h1.get? a = some o -> h2.get? a = some o) -> φ h2
def HOk (H:Hp) (h:Heap):Prop:=∀ a o,H a = some o -> ObjOk P w H h a o
end
section
variable {P:Program} {w:World} {H H':Hp} {h h':Heap} {a:Addr} {o:HO}
theorem ObjOk.lt (x:ObjOk P w H h a o):a < h.objs.size:=by
 cases o with
 | lst xs=>obtain ⟨_,_,_,_,e⟩:=x; exact Heap.lt_size e
 | tup xs=>obtain ⟨_,_,_,p⟩:=x; exact p.lt
 | dK kvs=>obtain ⟨_,_,_,_,o,_,_,e,_⟩:=x; exact Heap.lt_size e
 | dT kvs=>obtain ⟨_,_,_,_,o,_,_,e,_⟩:=x; exact Heap.lt_size e
 | set S n=>obtain ⟨o,_,_,_,e,_⟩:=x; exact Heap.lt_size e
 | ins C dx fs=>obtain ⟨_,_,_,e,_⟩:=x; exact Heap.lt_size e
 | own y=>obtain ⟨_,e⟩:=x; exact Heap.lt_size e
 | xd fs=>obtain ⟨_,⟨_,_,_,e,_⟩,_⟩:=x; exact Heap.lt_size e
 | rng lo hi=>obtain ⟨_,_,_,e⟩:=x; exact Heap.lt_size e
 | frz ob u=>obtain ⟨e,_⟩:=x; exact Heap.lt_size e
 | tbl ps=>exact Heap.lt_size (show h.get? a = some _ from x)
 | met f y=>exact Heap.lt_size (show h.get? a = some _ from x)
 | ext φ=>obtain ⟨_,⟨_,e⟩,_⟩:=x; exact Heap.lt_size e
theorem Paired.mapP {α β:Type} {F G:α -> β -> Prop} {l₁:List α} {l₂:List β} (h:Paired F l₁ l₂) (f:∀ a b,F a b -> G a b):Paired G l₁ l₂:=by
 induction h with
 | nil=>exact .nil
 | cons r t ih=>exact .cons (f _ _ r) ih
theorem ObjOk.stay (x:ObjOk P w H h a o) (k:∀ b u,(b = a \/ H b = some (.own a)) -> h.get? b = some u -> h'.get? b = some u)
  (ho:∀ b,H b = some (.own a) -> H' b = some (.own a)) (ht:∀ b xs,H b = some (.tup xs) -> H' b = some (.tup xs)):ObjOk P w H' h' a o:=by
 induction o with
 | lst xs=>obtain ⟨z,its,n,r,e⟩:=x; exact #[z,its,n,r,k _ _ (.inl rfl) e]
 | tup xs=>obtain ⟨z,its,r,ob,e,c⟩:=x; exact #[z,its,r,ob,k _ _ (.inl rfl) e,c]
 | dK kvs=>obtain ⟨z,y,vs,r,ob,es,ep,e,c⟩:=x; exact #[z,y,vs,r,ob,es,ep,k _ _ (.inl rfl) e,c]
 | dT kvs =>
  obtain ⟨z,y,xs,r,ob,es,ep,e,c⟩:=x;exact #[z,y,xs,Paired.mapP r fun p q z=>#[z.1,ht _ _ z.2.1,z.2.2],ob,es,ep,k _ _ (.inl rfl) e,c]
 | set S n=>obtain ⟨ob,es,ep,t,e,c⟩:=x; exact #[ob,es,ep,t,k _ _ (.inl rfl) e,c]
 | ins C dx fs =>
  obtain ⟨d,z,ne,e,mA,⟨od,es,ep,e2,c⟩,r⟩:=x;exact #[ho _ d,z,ne,k _ _ (.inl rfl) e,mA,#[od,es,ep,k _ _ (.inr d) e2,c],r]
 | own y=>obtain ⟨ob,e⟩:=x; exact #[ob,k _ _ (.inl rfl) e]
 | xd fs=>obtain ⟨mA,⟨od,es,ep,e,c⟩,r⟩:=x; exact #[mA,#[od,es,ep,k _ _ (.inl rfl) e,c],r]
 | rng lo hi=>obtain ⟨t,u,v,e⟩:=x; exact #[t,u,v,k _ _ (.inl rfl) e]
 | frz ob u ih=>obtain ⟨e,q⟩:=x; exact #[k _ _ (.inl rfl) e,ih q]
 | tbl ps =>
  have e:h.get? a = some { cls:=.none,data:=.fields ps }:=x;show h'.get? a = some { cls:=.none,data:=.fields ps };exact k a _ (.inl rfl) e
 | met f y =>
  have e:h.get? a = some (PySem.W.methodObj (.ref f) (.ref y)):=x;show h'.get? a = some (PySem.W.methodObj (.ref f) (.ref y));exact k a _ (.inl rfl) e
 | ext φ=>obtain ⟨p,⟨o,e⟩,st⟩:=x; exact #[st _ _ p fun o q=>k _ _ (.inl rfl) q,#[o,k _ _ (.inl rfl) e],st]
theorem HOk.lt (x:HOk P w H h) (e:H a = some o):a < h.objs.size:=(x a o e).lt
theorem HOk.fresh (x:HOk P w H h) (e:h.objs.size <= a):H a = none:=by
 cases q:H a with
 | none=>rfl
 | some u=>exact absurd (Nat.lt_of_lt_of_le (x.lt q) e) (Nat.lt_irrefl _)
theorem HOk.kept (x:HOk P w H h) (k:∀ b u,h.get? b = some u -> h'.get? b = some u):HOk P w H h':=fun a o e =>
 (x a o e).stay (fun b u _ q=>k b u q) (fun _ q=>q) fun _ _ q=>q
theorem HOk.laid (x:HOk P w H h) (k:∀ b u,h.get? b = some u -> h'.get? b = some u) (hp:h.objs.size <= a) (new:ObjOk P w (upd H a o) h' a o):HOk P w (upd H a o) h':=fun b u e=>by
 have hn:=x.fresh hp;by_cases hb:b = a
 ·subst hb; rw [zb]at e; cases e; exact new
 ·rw [zk hb]at e;exact (x b u e).stay (fun c v _ q=>k c v q) (fun c q=>by rw [zk (zv q hn)]; exact q) fun c xs q=>by rw [zk (zv q hn)]; exact q
end
def Rd (H:Hp) (a:Addr) (u:HO):Prop:=H a = some u \/ ∃ o,H a = some (.frz o u)
theorem Rd.ok {P:Program} {w:World} {H:Hp} {h:Heap} {a:Addr} {u:HO} (r:Rd H a u) (x:HOk P w H h):ObjOk P w H h a u:=by
 rcases r with r | ⟨o,r⟩
 ·exact x a u r
 ·obtain ⟨_,q⟩:=x a _ r;exact q
def Mut:Option HO -> Prop
 | some (.lst _)=>True
 | some (.dK _)=>True
 | some (.dT _)=>True
 | some (.set _ _)=>True
 | some (.ins _ _ _)=>True
 | some (.ext _)=>True
 | _=>False
section
variable {P:Program} {w:World} {H:Hp} {h h':Heap} {x e:Addr} {o':HO}
theorem HOk.write (ok:HOk P w H h) (mu:Mut (H x)) (he:e = x \/ H e = some (.own x)) (k:∀ b u,b ≠ e -> h.get? b = some u -> h'.get? b = some u) (heo:∃ u,h'.get? e = some u)
  (new:ObjOk P w (upd H x o') h' x o'):HOk P w (upd H x o') h':=fun b u q=>by
 have nown:∀ c y,H c = some (.own y) -> c ≠ x:=fun c y r z=>by subst z; rw [r]at mu; exact mu
 have ntup:∀ c xs,H c = some (.tup xs) -> c ≠ x:=fun c xs r z=>by subst z; rw [r]at mu; exact mu
 by_cases hb:b = x
 ·subst hb; rw [zb]at q; cases q; exact new
 ·rw [zk hb]at q;by_cases hbe:b = e
  ·have q':H b = some (.own x):=by
    rcases he with z | z
    ·exact absurd (hbe.trans z) hb
    ·rw [hbe]; exact z
   rw [q]at q'; cases q';obtain ⟨v,hv⟩:=heo;exact #[v,by rw [hbe]; exact hv]
  ·refine (ok b u q).stay (fun c v hc r=>k c v ?_ r) (fun c r=>by rw [zk (nown c b r)]; exact r) fun c xs r=>by rw [zk (ntup c xs r)]; exact r
   rcases hc with rfl | hc
   ·exact hbe
   ·rintro rfl;rcases he with z | z
    ·exact nown c b hc z
    ·rw [hc]at z; cases z; exact hb rfl
end
structure Un (fs ex:List Addr) (H H':Hp) (h h':Heap):Prop where
 keep:∀ b o,h.get? b = some o -> H b = none -> b ∉ fs -> b ∉ ex -> h'.get? b = some o
 slot:∀ b o,h.get? b = some o -> H b = none -> b ∈ fs -> b ∉ ex -> ∃ sl,h'.get? b = some { o with slots:=sl }
 free:∀ b o,h.get? b = some o -> H b = none -> b ∉ ex -> H' b = none
 there:∀ b o,h.get? b = some o -> b ∉ ex -> ∃ o',h'.get? b = some o'
 tups:∀ b xs,H b = some (.tup xs) -> H' b = some (.tup xs)
 frzs:∀ b o u,H b = some (.frz o u) -> H' b = some (.frz o u)
 tbls:∀ b ps,H b = some (.tbl ps) -> ∃ more,H' b = some (.tbl (ps ++ more))
section
variable {fs fs' ex ex':List Addr} {H H1 H2:Hp} {h h1 h2 h':Heap} {a x e:Addr} {o:HO}
theorem Un.any (u:Un fs ex H H1 h h1) {b:Addr} {ob:Obj} (q:h.get? b = some ob) (n:H b = none) (hx:b ∉ ex):∃ sl,h1.get? b = some { ob with slots:=sl }:=by
 by_cases hb:b ∈ fs
 ·exact u.slot b ob q n hb hx
 ·exact #[ob.slots,u.keep b ob q n hb hx]
theorem Un.kept (k:∀ b u,h.get? b = some u -> h'.get? b = some u):Un fs ex H H h h' :=
 #[fun b ob q _ _ _=>k b ob q,fun b ob q _ _ _=>#[ob.slots,k b ob q],fun _ _ _ n _=>n,fun b ob q _=>#[ob,k b ob q],fun _ _ q=>q,fun _ _ _ q=>q,fun _ ps q=>#[#[],by rw [q]; simp]]
theorem Un.refl:Un fs ex H H h h:=Un.kept fun _ _ q=>q
theorem Un.laid (k:∀ b u,h.get? b = some u -> h'.get? b = some u) (hp:h.objs.size <= a) (hn:H a = none):Un fs ex H (upd H a o) h h' where
 keep:=fun b u q _ _ _=>k b u q
 slot:=fun b u q _ _ _=>#[u.slots,k b u q]
 free:=fun b u q n _=>by rw [zk (Nat.ne_of_lt (Nat.lt_of_lt_of_le (Heap.lt_size q) hp))]; exact n
 there:=fun b u q _=>#[u,k b u q]
 tups:=fun b xs q=>by rw [zk (zv q hn)]; exact q
 frzs:=fun b u xs q=>by rw [zk (zv q hn)]; exact q
 tbls:=fun b ps q=>#[#[],by rw [zk (zv q hn),q]; simp]
theorem Un.write (mu:Mut (H x)) (he:e = x \/ H e = some (.own x)) (k:∀ b u,b ≠ e -> h.get? b = some u -> h'.get? b = some u) (heo:∃ u,h'.get? e = some u):Un fs ex H (upd H x o) h h':=by
 have hx:∀ b,H b = none -> b ≠ x:=fun b n z=>by subst z; rw [n]at mu; exact mu
 have hb:∀ b,H b = none -> b ≠ e:=fun b n z=>by
  subst z;rcases he with r | r
  ·exact hx b n r
  ·rw [n]at r; cases r
 have hm:∀ b u,H b = some u -> ¬ Mut (some u) -> b ≠ x:=fun b u q nm z=>by subst z; rw [q]at mu; exact nm mu
 refine #[fun b u q n _ _=>k b u (hb b n) q,fun b u q n _ _=>#[u.slots,k b u (hb b n) q],fun b u q n _=>by rw [zk (hx b n)]; exact n,fun b u q _=>?_,
  fun b xs q=>by rw [zk (hm b _ q fun z=>z)]; exact q,fun b u xs q=>by rw [zk (hm b _ q fun z=>z)]; exact q,fun b ps q=>#[#[],by rw [zk (hm b _ q fun z=>z),q]; simp]]
 by_cases hbe:b = e
 ·subst hbe; exact heo
 ·exact #[u,k b u hbe q]
end
noncomputable def trk (h:Heap) (H:Hp):List Addr:=(List.range h.objs.size).filter fun a=>(H a).isSome
noncomputable def Z8 (h:Heap) (H:Hp):Heap:=PySem.W.hideAll h (trk h H)
theorem Ys (h:Heap) (H:Hp):(Z8 h H).objs.size = h.objs.size:=PySem.W.hideAll_size _ _
theorem j7 {h:Heap} {H:Hp} {b:Addr} {o:Obj} (e:h.get? b = some o) (n:H b = none):(Z8 h H).get? b = some o :=
 PySem.W.hideAll_get _ e fun hm=>by
  have q:(H b).isSome = true:=(al.mp hm).2;rw [n]at q; simp at q
theorem UL {h:Heap} {H:Hp} {b:Addr} {o:Obj} (e:(Z8 h H).get? b = some o):h.get? b = some o /\ H b = none:=by
 have e':h.get? b = some o:=PySem.W.of_hideAll (trk h H) e;refine #[e',?_]
 cases q:H b with
 | none=>rfl
 | some x =>
  have hm:b ∈ trk h H:=al.mpr #[aj.mpr (Heap.lt_size e'),by simp [q]];have z:(Z8 h H).get? b = none:=PySem.W.hideAll_none (trk h H) hm;rw [z]at e; cases e
noncomputable def Ux (g h:Heap) (L:Addr):List (Addr × Obj):=(List.range h.objs.size).filterMap fun a=>if a = L \/ (g.get? a).isSome = true then none else (h.get? a).map fun o=>(a,o)
noncomputable def rest (g h:Heap) (L d:Addr):List (Addr × Obj):=(Ux g h L).filter fun p=>decide (p.1 ≠ d)
end L2
namespace L2
open PySem PySem.Spec PyProof.Rows
structure Mod (K:PySem.W.Frag) (mg:Str -> Option Value) (base:Heap):Prop where
 kin:K.In base
 glob:base.Ns mainGlobals mg
 blt:∃ mb,base.Ns builtinsNs mb /\ ∀ x:Str,x ≠ "__name__" -> mb x = bootBuiltins x
 nolimit:base.NoLimit
structure Cx where
 prog:Program
 w:World
 K:PySem.W.Frag
 mg:Str -> Option Value
 base:Heap
 A:Around
 N:List Str
 s₀:Shared
 H₀:Hp
 env:Env
 outer:List Env
 stack:List Env
 ex:List Addr
 fn:Str -> Bool
 calm:Bool
 pn:List (Addr × Obj)
 xe:Value -> Shared -> Prop
noncomputable def frs (l:List Env):List Addr:=l.filterMap (·.frame)
noncomputable abbrev Cx.fs (X:Cx):List Addr:=frs X.outer
def Vis (sc:Scope) (x:Str):Prop:=sc.names.lookup x = some .local \/ sc.names.lookup x = some .cell \/ sc.names.lookup x = some .free
def Loc (sc:Scope) (x:Str):Prop:=sc.names.lookup x = some .local \/ sc.names.lookup x = some .cell
def zac (env:Env) (h:Heap) (m:Str -> Option Value) (x:Str) (u:Value):Prop :=
 (env.kindOf x = some .local /\ m x = some u) \/ ((env.kindOf x = some .cell \/ env.kindOf x = some .free) /\ ∃ c,env.cells.lookup x = some c /\ h.IsCell c (some u))
structure Cx.Ok (X:Cx):Prop where
 mod:Mod X.K X.mg X.base
 kind:X.env.scope.kind = .function
 glob:X.env.globals = mainGlobals
 blt:X.env.builtins = builtinsNs
 above:X.s₀.heap.objs.size <= X.env.locals
 inj:∀ x y c,X.env.cells.lookup x = some c -> X.env.cells.lookup y = some c -> x = y
 has:∀ x,(X.env.kindOf x = some .cell \/ X.env.kindOf x = some .free) -> ∃ c,X.env.cells.lookup x = some c
 cab:∀ x c,X.fn x = true -> X.env.cells.lookup x = some c -> X.s₀.heap.objs.size <= c
 hd:X.calm = true -> X.A.handled = none
 frames:X.A.frames = some X.stack
 stk:X.stack = X.outer \/ (X.stack = X.env :: X.outer /\ X.env.frame = some X.env.locals)
 exf:∀ b ∈ X.ex,b ≠ X.env.locals /\ ∀ x c,X.env.cells.lookup x = some c -> c ≠ b
 bs:∀ b o,X.base.get? b = some o -> X.s₀.heap.get? b = some o /\ X.H₀ b = none
 bsz:X.base.objs.size <= X.s₀.heap.objs.size
 noex:∀ b o,X.base.get? b = some o -> b ∉ X.ex
 exfs:∀ b ∈ X.ex,b ∉ X.fs
 funs:X.s₀.heap.FunFrames X.base X.outer
 frf:∀ b ∈ X.fs,X.H₀ b = none
structure Inv (X:Cx) (pins:List (Addr × Obj)) (σ:List (Option V)) (H:Hp) (s:Shared):Prop where
 ok:X.Ok
 os:s.os = X.s₀.os
 bare:AllBare s.gens
 base:Un X.fs X.ex X.H₀ H X.s₀.heap s.heap
 loc:∃ m,s.heap.Ns X.env.locals m /\ ∀ (i:Nat) (x:Str) (v:V),X.N[i]? = some x -> σ[i]? = some (some v) -> Vis X.env.scope x -> ∃ u,RelV v u /\ zac X.env s.heap m x u
 cell:∀ x c,X.env.cells.lookup x = some c -> ∃ v,s.heap.IsCell c v
 free:H X.env.locals = none
 freeC:∀ x c,X.env.cells.lookup x = some c -> H c = none
 pin:∀ p ∈ X.pn ++ pins,s.heap.get? p.1 = some p.2 /\ H p.1 = none /\ p.1 ≠ X.env.locals /\ p.1 ∉ X.fs /\ ∀ v,p.2.data ≠ .cell v
 hok:HOk X.prog X.w H s.heap
 len:σ.length = X.N.length
section
variable {X:Cx} {pins:List (Addr × Obj)} {σ:List (Option V)} {H H':Hp} {s:Shared} {h':Heap}
theorem Cx.Ok.nofr (ok:X.Ok) {b:Addr} {o:Obj} (e:X.base.get? b = some o):b ∉ X.fs:=fun hb=>by
 have:=(ok.funs.mem hb).1;rw [e]at this; cases this
theorem Inv.bs (I:Inv X pins σ H s):∀ b o,X.base.get? b = some o -> s.heap.get? b = some o /\ H b = none:=fun b o e =>
 #[I.base.keep b o (I.ok.bs b o e).1 (I.ok.bs b o e).2 (I.ok.nofr e) (I.ok.noex b o e),I.base.free b o (I.ok.bs b o e).1 (I.ok.bs b o e).2 (I.ok.noex b o e)]
theorem Inv.bk (I:Inv X pins σ H s):∀ b o,X.base.get? b = some o -> s.heap.get? b = some o:=fun b o e=>(I.bs b o e).1
theorem Inv.mod (I:Inv X pins σ H s):Mod X.K X.mg X.base:=I.ok.mod
theorem Inv.kIn (I:Inv X pins σ H s):X.K.In s.heap:=I.ok.mod.kin.keeps I.bk
theorem Inv.nolimit (I:Inv X pins σ H s):s.heap.NoLimit:=I.ok.mod.nolimit.keeps I.bk
theorem Inv.fr (I:Inv X pins σ H s):∃ m,Fr X.base X.env.locals s.heap m :=
 let #[m,hn,_]:=I.loc
 #[m,hn,I.bk,Nat.le_trans I.ok.bsz I.ok.above]
theorem Inv.lt (I:Inv X pins σ H s):X.env.locals < s⁻¹:=let #[_,hn,_]:=I.loc; hn.lt
theorem Inv.sz (I:Inv X pins σ H s):X.s₀.heap.objs.size <= s⁻¹:=Nat.le_trans I.ok.above (Nat.le_of_lt I.lt)
theorem Inv.nofs (I:Inv X pins σ H s) {a:Addr} (h:s⁻¹ <= a):a ∉ X.fs:=fun hb=>by
 obtain ⟨_,o,ho,_⟩:=I.ok.funs.mem hb;exact absurd (Nat.lt_of_lt_of_le (Heap.lt_size ho) (Nat.le_trans I.sz h)) (Nat.lt_irrefl _)
theorem Inv.cne (I:Inv X pins σ H s):∀ x c,X.env.cells.lookup x = some c -> c ≠ X.env.locals:=fun x c e z=>by
 obtain ⟨v,o,ho,hd⟩:=I.cell x c e;obtain ⟨m,⟨o',es,ep,ho',hd',_⟩,_⟩:=I.loc;rw [z,ho']at ho; cases ho; rw [hd']at hd; cases hd
theorem Inv.funs (I:Inv X pins σ H s):s.heap.FunFrames X.base X.outer:=by
 have all:∀ (l:List Env),(∀ b ∈ frs l,b ∈ X.fs) -> X.s₀.heap.FunFrames X.base l -> s.heap.FunFrames X.base l:=by
  intro l
  induction l with
  | nil=>intro _ _; trivial
  | cons env r ih =>
   intro hs hl;obtain ⟨hk,⟨L,o,hf,hn,ho,hd⟩,hr⟩:=hl;have hL:L ∈ X.fs:=hs L (by unfold frs; rw [List.filterMap_cons,hf]; exact List.mem_cons_self);obtain ⟨sl,e⟩:=I.base.slot L o ho (I.ok.frf L hL) hL fun z=>I.ok.exfs L z hL;exact #[hk,#[L,_,hf,hn,e,hd],ih (fun b hb=>hs b (by unfold frs; rw [List.filterMap_cons,hf]; exact List.mem_cons_of_mem _ hb)) hr]
 exact all X.outer (fun _ hb=>hb) I.ok.funs
theorem Inv.stack (I:Inv X pins σ H s):s.heap.FunFrames X.base X.stack:=by
 rcases I.ok.stk with e | ⟨e,hf⟩
 ·rw [e]; exact I.funs
 ·rw [e];obtain ⟨m,hn,_⟩:=I.loc;refine .cons (by rw [I.ok.kind]; decide) hf hn ?_ I.funs;exact Heap.get?_none_of_le (Nat.le_trans I.ok.bsz I.ok.above)
theorem Inv.stkSub (I:Inv X pins σ H s):∀ b ∈ frs X.stack,b ∈ X.env.locals :: X.fs:=fun b hb=>by
 rcases I.ok.stk with e | ⟨e,hf⟩
 ·rw [e]at hb; exact List.mem_cons_of_mem _ hb
 ·rw [e]at hb;unfold frs at hb;rw [List.filterMap_cons,hf]at hb;exact hb
theorem Inv.stkFree (I:Inv X pins σ H s):∀ b ∈ frs X.stack,H b = none:=fun b hb=>by
 rcases ac.mp (I.stkSub b hb)with e | hb
 ·rw [e]; exact I.free
 ·obtain ⟨_,o,ho,_⟩:=I.ok.funs.mem hb;exact I.base.free b o ho (I.ok.frf b hb) fun z=>I.ok.exfs b z hb
theorem Inv.step {g':Array GenState} {t':Nat} {d':Drawn} {ch:List Addr} (I:Inv X pins σ H s)
  (hch:∀ b ∈ ch,(b ∈ X.ex \/ X.s₀.heap.objs.size <= b) /\ b ≠ X.env.locals /\ (∀ x c,X.env.cells.lookup x = some c -> c ≠ b) /\ ∀ p ∈ X.pn ++ pins,p.1 ≠ b)
  (keep:∀ b o,b ≠ X.env.locals -> b ∉ X.fs -> b ∉ ch -> s.heap.get? b = some o -> H b = none -> h'.get? b = some o)
  (slot:∀ b o,b ≠ X.env.locals -> b ∈ X.fs -> b ∉ ch -> s.heap.get? b = some o -> H b = none -> ∃ sl,h'.get? b = some { o with slots:=sl }) (free:∀ b o,b ∉ ch -> s.heap.get? b = some o -> H b = none -> H' b = none)
  (there:∀ b o,b ∉ ch -> s.heap.get? b = some o -> ∃ o',h'.get? b = some o')
  (tups:∀ b xs,H b = some (.tup xs) -> H' b = some (.tup xs)) (frzs:∀ b o u,H b = some (.frz o u) -> H' b = some (.frz o u)) (tbls:∀ b ps,H b = some (.tbl ps) -> ∃ more,H' b = some (.tbl (ps ++ more)))
  (ns:∀ m,s.heap.Ns X.env.locals m -> h'.Ns X.env.locals m) (hok:HOk X.prog X.w H' h') (hg:AllBare g') :
  Inv X pins σ H' { s with heap:=h',gens:=g',drawn:=d',toks:=t' }:=by
 have neL:∀ b o,X.s₀.heap.get? b = some o -> b ≠ X.env.locals:=fun b o e=>Nat.ne_of_lt (Nat.lt_of_lt_of_le (Heap.lt_size e) I.ok.above)
 have neC:∀ b o,X.s₀.heap.get? b = some o -> b ∉ X.ex -> b ∉ ch:=fun b o e hx hb=>by
  rcases (hch b hb).1 with z | z
  ·exact hx z
  ·exact absurd (Nat.lt_of_lt_of_le (Heap.lt_size e) z) (Nat.lt_irrefl _)
 have cellK:∀ x c,X.env.cells.lookup x = some c -> ∀ v,s.heap.IsCell c v -> h'.IsCell c v:=fun x c e v ⟨o,ho,hd⟩=>by
  have nch:c ∉ ch:=fun z=>(hch c z).2.2.1 x c e rfl;by_cases hc:c ∈ X.fs
  ·obtain ⟨sl,q⟩:=slot c o (I.cne x c e) hc nch ho (I.freeC x c e);exact #[_,q,hd]
  ·exact #[o,keep c o (I.cne x c e) hc nch ho (I.freeC x c e),hd]
 refine #[I.ok,I.os,hg,#[fun b o e n hb hx=>?_,fun b o e n hb hx=>?_,fun b o e n hx=>?_,fun b o e hx=>?_,fun b xs e=>tups b xs (I.base.tups b xs e),fun b o xs e=>frzs b o xs (I.base.frzs b o xs e),fun b ps e=>?_],?_,fun x c e=>?_,?_,fun x c e=>?_,fun p hp=>?_,hok,I.len]
 ·exact keep b o (neL b o e) hb (neC b o e hx) (I.base.keep b o e n hb hx) (I.base.free b o e n hx)
 ·obtain ⟨sl,e1⟩:=I.base.slot b o e n hb hx;obtain ⟨sl',e2⟩:=slot b _ (neL b o e) hb (neC b o e hx) e1 (I.base.free b o e n hx);exact #[sl',e2]
 ·obtain ⟨o',e1⟩:=I.base.there b o e hx;exact free b o' (neC b o e hx) e1 (I.base.free b o e n hx)
 ·obtain ⟨o',e1⟩:=I.base.there b o e hx;exact there b o' (neC b o e hx) e1
 ·obtain ⟨m1,e1⟩:=I.base.tbls b ps e;obtain ⟨m2,e2⟩:=tbls b _ e1;exact #[m1 ++ m2,by rw [e2,Array.append_assoc]]
 ·obtain ⟨m,hn,hl⟩:=I.loc;refine #[m,ns m hn,fun i x v e1 e2 e3=>?_];obtain ⟨u,r,l⟩:=hl i x v e1 e2 e3;refine #[u,r,?_];rcases l with l | ⟨k,c,e,z⟩
  ·exact .inl l
  ·exact .inr #[k,c,e,cellK x c e _ z]
 ·obtain ⟨v,z⟩:=I.cell x c e;exact #[v,cellK x c e v z]
 ·obtain ⟨m,⟨o,_,_,ho,_⟩,_⟩:=I.loc;exact free _ o (fun z=>(hch _ z).2.1 rfl) ho I.free
 ·obtain ⟨v,o,ho,hd⟩:=I.cell x c e;exact free c o (fun z=>(hch c z).2.2.1 x c e rfl) ho (I.freeC x c e)
 ·obtain ⟨e,n,ne,nf,d⟩:=I.pin p hp;have nch:p.1 ∉ ch:=fun z=>(hch p.1 z).2.2.2 p hp rfl;exact #[keep p.1 p.2 ne nf nch e n,free p.1 p.2 nch e n,ne,nf,d]
theorem Inv.un {t':Nat} (I:Inv X pins σ H s) (u:Un X.fs [] H H' s.heap h') (hok:HOk X.prog X.w H' h'):Inv X pins σ H' { s with heap:=h',toks:=t' }:=by
 obtain ⟨m,⟨o,es,ep,ho,r⟩,_⟩:=id I.loc;obtain ⟨sl,hL⟩:=u.any ho I.free (by simp)
 exact I.step (g':=s.gens) (d':=s.drawn) (ch:=[]) (fun _ z=>nomatch z) (fun b o _ hb _ e n=>u.keep b o e n hb (by simp)) (fun b o _ hb _ e n=>u.slot b o e n hb (by simp)) (fun b o _ e n=>u.free b o e n (by simp)) (fun b o _ e=>u.there b o e (by simp)) u.tups u.frzs u.tbls (fun m' hm=>by
  obtain ⟨o',es',ep',ho',r'⟩:=hm;rw [ho]at ho'; cases ho'
  exact #[_,es',ep',hL,r']) hok I.bare
theorem Inv.call {g':Array GenState} {t':Nat} {d':Drawn} {ch:List Addr} (I:Inv X pins σ H s) (u:Un (frs X.stack) ch H H' s.heap h') (hok:HOk X.prog X.w H' h') (hg:AllBare g')
  (hch:∀ b ∈ ch,(b ∈ X.ex \/ X.s₀.heap.objs.size <= b) /\ b ≠ X.env.locals /\ (∀ x c,X.env.cells.lookup x = some c -> c ≠ b) /\ ∀ p ∈ X.pn ++ pins,p.1 ≠ b) :
  Inv X pins σ H' { s with heap:=h',gens:=g',drawn:=d',toks:=t' }:=by
 obtain ⟨m,⟨o,es,ep,ho,r⟩,_⟩:=id I.loc;obtain ⟨sl,hL⟩:=u.any ho I.free fun z=>(hch _ z).2.1 rfl
 exact I.step (ch:=ch) hch (fun b o hL hb hc e n=>u.keep b o e n (fun z=>(ac.mp (I.stkSub b z)).elim hL hb) hc) (fun b o _ _ hc e n=>u.any e n hc) (fun b o hc e n=>u.free b o e n hc) (fun b o hc e=>u.there b o e hc) u.tups u.frzs u.tbls (fun m' hm=>by
  obtain ⟨o',es',ep',ho',r'⟩:=hm;rw [ho]at ho'; cases ho'
  exact #[_,es',ep',hL,r']) hok hg
theorem Inv.turned {t':Nat} {it:Addr} (I:Inv X pins σ H s) (k:∀ b o,b ≠ it -> s.heap.get? b = some o -> h'.get? b = some o) (hn:H it = none) (hL:it ≠ X.env.locals)
  (h1:it ∈ X.ex \/ X.s₀.heap.objs.size <= it) (h2:∀ x c,X.env.cells.lookup x = some c -> c ≠ it) (h3:∀ p ∈ X.pn ++ pins,p.1 ≠ it):Inv X pins σ H { s with heap:=h',toks:=t' }:=by
 have nit:∀ b u,H b = some u -> b ≠ it:=fun b u e z=>by rw [z,hn]at e; cases e
 refine I.step (g':=s.gens) (d':=s.drawn) (ch:=[it]) (fun b hb=>?_) (fun b o _ _ hc e _=>k b o (fun z=>hc (by simp [z])) e) (fun b o _ _ hc e _=>#[o.slots,k b o (fun z=>hc (by simp [z])) e]) (fun _ _ _ _ n=>n)
  (fun b o hc e=>#[o,k b o (fun z=>hc (by simp [z])) e]) (fun _ _ e=>e) (fun _ _ _ e=>e) (fun b ps e=>#[#[],by rw [e]; simp]) (fun m hm=>?_) (fun b u e=>?_) I.bare
 ·have e:b = it:=by simpa using hb
  subst e;exact #[h1,hL,h2,h3]
 ·obtain ⟨o,es,ep,ho,r⟩:=hm;exact #[o,es,ep,k _ o (Ne.symm hL) ho,r]
 ·refine (I.hok b u e).stay (fun c v hc q=>k c v ?_ q) (fun _ q=>q) fun _ _ q=>q;rcases hc with z | z
  ·rw [z]; exact nit b u e
  ·exact nit c _ z
theorem Inv.tok (I:Inv X pins σ H s) (t:Nat):Inv X pins σ H { s with toks:=t }:=I.un (h':=s.heap) (t':=t) Un.refl I.hok
theorem Inv.kept {t':Nat} (I:Inv X pins σ H s) (k:∀ b u,s.heap.get? b = some u -> h'.get? b = some u):Inv X pins σ H { s with heap:=h',toks:=t' }:=I.un (Un.kept k) (I.hok.kept k)
theorem Inv.laid {a:Addr} {o:HO} {t':Nat} (I:Inv X pins σ H s) (k:∀ b u,s.heap.get? b = some u -> h'.get? b = some u) (hp:s⁻¹ <= a) (new:ObjOk X.prog X.w (upd H a o) h' a o) :
  Inv X pins σ (upd H a o) { s with heap:=h',toks:=t' }:=I.un (Un.laid k hp (I.hok.fresh hp)) (I.hok.laid k hp new)
theorem Inv.write {x e:Addr} {o:HO} {t':Nat} (I:Inv X pins σ H s) (mu:Mut (H x)) (he:e = x \/ H e = some (.own x)) (k:∀ b u,b ≠ e -> s.heap.get? b = some u -> h'.get? b = some u) (heo:∃ u,h'.get? e = some u)
  (new:ObjOk X.prog X.w (upd H x o) h' x o):Inv X pins σ (upd H x o) { s with heap:=h',toks:=t' }:=I.un (Un.write mu he k heo) (I.hok.write mu he k heo new)
theorem Inv.weak {σ':List (Option V)} (I:Inv X pins σ H s) (hl:σ'.length = σ.length) (w:∀ (i:Nat) v,σ'[i]? = some (some v) -> σ[i]? = some (some v)):Inv X pins σ' H s :=
 #[I.ok,I.os,I.bare,I.base,let #[m,hn,hl']:=I.loc; #[m,hn,fun i x v e1 e2 e3=>hl' i x v e1 (w i v e2) e3],I.cell,I.free,I.freeC,I.pin,I.hok,hl.trans I.len]
theorem Inv.pins_of {pins':List (Addr × Obj)} (I:Inv X pins σ H s) (h:∀ p ∈ pins',s.heap.get? p.1 = some p.2 /\ H p.1 = none /\ p.1 ≠ X.env.locals /\ p.1 ∉ X.fs /\ ∀ v,p.2.data ≠ .cell v):Inv X pins' σ H s :=
 #[I.ok,I.os,I.bare,I.base,I.loc,I.cell,I.free,I.freeC,fun p hp=>(af.mp hp).elim (fun z=>I.pin p (List.mem_append_left _ z)) (h p),I.hok,I.len]
theorem jM {N:List Str} (hN:N.Nodup) {i j:Nat} {x:Str} (a:N[i]? = some x) (b:N[j]? = some x):i = j:=by
 obtain ⟨h1,e1⟩:=ae.mp a;obtain ⟨h2,e2⟩:=ae.mp b;exact (List.getElem_inj hN).mp (e1.trans e2.symm)
theorem qC {M:Model} {A:Around} {E:Value -> Shared -> Prop} {i:Nat} {x:Str} {v:V} {u:Value} {Q:Unit -> Shared -> Prop} (I:Inv X pins σ H s) (hN:X.N.Nodup) (hi:X.N[i]? = some x) (hx:Loc X.env.scope x) (r:RelV v u)
  (h:∀ s',Inv X pins (σ.set i (some v)) H s' -> (∃ a,Heap.SameBut a s.heap s'.heap /\ (a = X.env.locals \/ X.env.cells.lookup x = some a)) -> Q Unit.unit s') (hf:X.fn x = true \/ X.env.scope.names.lookup x = some .local:=by first | exact .inl rfl | exact .inr rfl | assumption):wpAny M A (storeName X.env x u) Q E s:=by
 obtain ⟨m,hn,hl⟩:=id I.loc;have hcls:(X.env.scope.kind == .class || (X.env.scope.kind == .module && X.env.locals != X.env.globals)) = false:=by rw [I.ok.kind]; rfl
 have hiσ:i < σ.length:=by rw [I.len]; exact (ae.mp hi).1
 have cne:=I.cne
 have tracked:∀ {a:Addr} {h':Heap},(∃ o,s.heap.get? a = some o /\ H a = none) -> Heap.SameBut a s.heap h' -> HOk X.prog X.w H h':=fun {a h'} ha hs b ob e=>by
  obtain ⟨_,_,hfree⟩:=ha;refine (I.hok b ob e).stay (fun c w' hc q=>(hs.2 c ?_).trans q) (fun _ q=>q) fun _ _ q=>q;rintro rfl;rcases hc with rfl | hc
  ·rw [hfree]at e; cases e
  ·rw [hfree]at hc; cases hc
 rcases hx with hk | hk
 ·refine wpAny_storeName_local hk hn (fun h' hn' hs=>?_) hcls;obtain ⟨oL,_,_,hoL,_⟩:=id hn;refine h _ #[I.ok,I.os,I.bare,#[fun b o e n hb hx=>?_,fun b o e n hb hx=>?_,I.base.free,fun b o e hx=>?_,I.base.tups,I.base.frzs,I.base.tbls],#[_,hn',fun j y v' e1 e2 e3=>?_],fun y c e=>?_,I.free,I.freeC,fun p hp=>?_,tracked #[oL,hoL,I.free] hs,by simpa using I.len] #[_,hs,.inl rfl]
  ·exact (hs.2 b (Nat.ne_of_lt (Nat.lt_of_lt_of_le (Heap.lt_size e) I.ok.above))).trans (I.base.keep b o e n hb hx)
  ·obtain ⟨sl,e1⟩:=I.base.slot b o e n hb hx;exact #[sl,(hs.2 b (Nat.ne_of_lt (Nat.lt_of_lt_of_le (Heap.lt_size e) I.ok.above))).trans e1]
  ·obtain ⟨o',e1⟩:=I.base.there b o e hx;exact #[o',(hs.2 b (Nat.ne_of_lt (Nat.lt_of_lt_of_le (Heap.lt_size e) I.ok.above))).trans e1]
  ·by_cases hj:j = i
   ·subst hj;rw [hi]at e1; cases e1;rw [List.getElem?_set_self hiσ]at e2;cases e2;exact #[u,r,.inl #[hk,by simp]]
   ·rw [List.getElem?_set_ne (Ne.symm hj)]at e2;obtain ⟨u',r',q⟩:=hl j y v' e1 e2 e3;refine #[u',r',?_];rcases q with ⟨k,e⟩ | ⟨k,c,e,z⟩
    ·refine .inl #[k,?_];have:y ≠ x:=fun e=>hj (jM hN e1 (e ▸ hi));simp [this,e]
    ·exact .inr #[k,c,e,z.sameBut hs (cne y c e)]
  ·obtain ⟨w',z⟩:=I.cell y c e;exact #[w',z.sameBut hs (cne y c e)]
  ·obtain ⟨e,n,ne,nf,d⟩:=I.pin p hp;exact #[(hs.2 p.1 ne).trans e,n,ne,nf,d]
 ·have hfn:X.fn x = true:=by
   rcases hf with z | z
   ·exact z
   ·rw [z]at hk; cases hk
  obtain ⟨c,hc⟩:=I.ok.has x (.inl hk);obtain ⟨w',z⟩:=I.cell x c hc;refine wpAny_storeName_cell I.ok.kind hk hc z (fun h' hc' hs=>?_);obtain ⟨oc,hoc,hocd⟩:=id z;refine h { s with heap:=h' } #[I.ok,I.os,I.bare,#[fun b o e n hb hx=>?_,fun b o e n hb hx=>?_,I.base.free,fun b o e hx=>?_,I.base.tups,I.base.frzs,I.base.tbls],#[m,hn.sameBut hs (Ne.symm (cne x c hc)),fun j y v' e1 e2 e3=>?_],fun y c' e=>?_,I.free,I.freeC,fun p hp=>?_,tracked #[oc,hoc,I.freeC x c hc] hs,by simpa using I.len] #[c,hs,.inr hc]
  ·exact (hs.2 b (Nat.ne_of_lt (Nat.lt_of_lt_of_le (Heap.lt_size e) (I.ok.cab x c hfn hc)))).trans (I.base.keep b o e n hb hx)
  ·obtain ⟨sl,e1⟩:=I.base.slot b o e n hb hx;exact #[sl,(hs.2 b (Nat.ne_of_lt (Nat.lt_of_lt_of_le (Heap.lt_size e) (I.ok.cab x c hfn hc)))).trans e1]
  ·obtain ⟨o',e1⟩:=I.base.there b o e hx;exact #[o',(hs.2 b (Nat.ne_of_lt (Nat.lt_of_lt_of_le (Heap.lt_size e) (I.ok.cab x c hfn hc)))).trans e1]
  ·by_cases hj:j = i
   ·subst hj;rw [hi]at e1; cases e1;rw [List.getElem?_set_self hiσ]at e2;cases e2;exact #[u,r,.inr #[.inl hk,c,hc,hc']]
   ·rw [List.getElem?_set_ne (Ne.symm hj)]at e2;obtain ⟨u',r',q⟩:=hl j y v' e1 e2 e3;refine #[u',r',?_];rcases q with q | ⟨k,c',e,z'⟩
    ·exact .inl q
    ·refine .inr #[k,c',e,z'.sameBut hs ?_];rintro rfl;exact hj (jM hN e1 (I.ok.inj _ _ _ e hc ▸ hi))
  ·by_cases hcc:c' = c
   ·subst hcc; exact #[_,hc']
   ·obtain ⟨w2,z2⟩:=I.cell y c' e;exact #[w2,z2.sameBut hs hcc]
  ·obtain ⟨e,n,ne,nf,d⟩:=I.pin p hp;refine #[(hs.2 p.1 ?_).trans e,n,ne,nf,d];intro q;rw [q,hoc]at e;have q':oc = p.2:=Option.some.inj e;exact d w' (by rw [<- q']; exact hocd)
theorem jw {M:Model} {A:Around} {E:Value -> Shared -> Prop} {i:Nat} {x:Str} {v:V} {u:Value} {Q:Unit -> Shared -> Prop} (I:Inv X pins σ H s) (hN:X.N.Nodup) (hi:X.N[i]? = some x) (hx:Loc X.env.scope x) (r:RelV v u)
  (h:∀ s',Inv X pins (σ.set i (some v)) H s' -> Q Unit.unit s') (hf:X.fn x = true \/ X.env.scope.names.lookup x = some .local:=by first | exact .inl rfl | exact .inr rfl | assumption):wpAny M A (storeName X.env x u) Q E s :=
 qC I hN hi hx r (fun s' I' _=>h s' I') hf
theorem Inv.call' {s':Shared} {ch:List Addr} (I:Inv X pins σ H s) (ho:s'.os = s.os) (u:Un (frs X.stack) ch H H' s.heap s'.heap) (hok:HOk X.prog X.w H' s'.heap) (hg:AllBare s'.gens)
  (hch:∀ b ∈ ch,(b ∈ X.ex \/ X.s₀.heap.objs.size <= b) /\ b ≠ X.env.locals /\ (∀ x c,X.env.cells.lookup x = some c -> c ≠ b) /\ ∀ p ∈ X.pn ++ pins,p.1 ≠ b):Inv X pins σ H' s':=by
 obtain ⟨h',g',d',t',o'⟩:=s';have e:o' = s.os:=ho;subst e;exact I.call (g':=g') (t':=t') (d':=d') u hok hg hch
end
noncomputable abbrev XK:=Value -> Option Addr -> Hp -> Prop
noncomputable abbrev St:=List (Option V)
noncomputable abbrev VK:=V -> Hp -> Prop
noncomputable abbrev TE:=St -> Hp -> VK -> Prop
noncomputable abbrev TT:=St -> Hp -> (Bool -> Hp -> Prop) -> Prop
noncomputable abbrev TA:=St -> Hp -> (List V -> Hp -> Prop) -> Prop
structure xW where
 nx:St -> Hp -> Prop
 rt:VK
 bk:St -> Hp -> Prop:=fun _ _=>False
 ct:St -> Hp -> Prop:=fun _ _=>False
noncomputable abbrev TS:=xW -> St -> Hp -> Prop
def EP (X:Cx) (pins:List (Addr × Obj)) (σ:St) (Q:VK) (u:Value) (s':Shared):Prop:=∃ v H',Inv X pins σ H' s' /\ RelV v u /\ Q v H'
def TP (X:Cx) (pins:List (Addr × Obj)) (σ:St) (Q:Bool -> Hp -> Prop) (b:Bool) (s':Shared):Prop:=∃ H',Inv X pins σ H' s' /\ Q b H'
def AP (X:Cx) (pins:List (Addr × Obj)) (σ:St) (Q:List V -> Hp -> Prop) (us:List Value) (s':Shared):Prop:=∃ vs H',Inv X pins σ H' s' /\ Vals vs us /\ Q vs H'
def SP (X:Cx) (pins:List (Addr × Obj)) (D:xW) (f:Flow) (s':Shared):Prop :=
 match f with
 | .next=>∃ σ' H',Inv X pins σ' H' s' /\ D.nx σ' H'
 | .brk=>∃ σ' H',Inv X pins σ' H' s' /\ D.bk σ' H'
 | .cont=>∃ σ' H',Inv X pins σ' H' s' /\ D.ct σ' H'
 | .ret u=>∃ v σ' H',Inv X pins σ' H' s' /\ RelV v u /\ D.rt v H'
def PE (X:Cx) (e:Expr) (t:TE):Prop :=
 ∀ (pins:List (Addr × Obj)) (s:Shared) (σ:St) (H:Hp) (Q:VK),Inv X pins σ H s -> t σ H Q -> wpAny (model X.prog X.w) X.A (eval e X.env) (EP X pins σ Q) X.xe s
def PT (X:Cx) (e:Expr) (t:TT):Prop :=
 ∀ (pins:List (Addr × Obj)) (s:Shared) (σ:St) (H:Hp) (Q:Bool -> Hp -> Prop),Inv X pins σ H s -> t σ H Q -> wpAny (model X.prog X.w) X.A (isTrue e X.env (eval e X.env)) (TP X pins σ Q) X.xe s
def PW (X:Cx) (e:Expr) (t:TT):Prop :=
 ∀ (whole:Sem Value) (pins:List (Addr × Obj)) (s:Shared) (σ:St) (H:Hp) (Q:Bool -> Hp -> Prop),Inv X pins σ H s -> t σ H Q -> wpAny (model X.prog X.w) X.A (isTrue e X.env whole) (TP X pins σ Q) X.xe s
theorem PW.pt {X:Cx} {e:Expr} {t:TT} (h:PW X e t):PT X e t:=h _
def PA (X:Cx) (es:List Expr) (t:TA):Prop :=
 ∀ (pos:Pos) (pins:List (Addr × Obj)) (s:Shared) (σ:St) (H:Hp) (Q:List V -> Hp -> Prop),Inv X pins σ H s -> t σ H Q -> wpAny (model X.prog X.w) X.A (spliced (backTo pos (starEach es X.env))) (AP X pins σ Q) X.xe s
def PS (X:Cx) (st:Stmt) (t:TS):Prop :=
 ∀ (pins:List (Addr × Obj)) (s:Shared) (σ:St) (H:Hp) (D:xW),Inv X pins σ H s -> t D σ H -> wpAny (model X.prog X.w) X.A (exec st X.env) (SP X pins D) X.xe s
def PSs (X:Cx) (st:List Stmt) (t:TS):Prop :=
 ∀ (pins:List (Addr × Obj)) (s:Shared) (σ:St) (H:Hp) (D:xW),Inv X pins σ H s -> t D σ H -> wpAny (model X.prog X.w) X.A (execs st X.env) (SP X pins D) X.xe s
theorem thn {α:Type} {t:Sem α} {Q Q':α -> Shared -> Prop} {M:Model} {A:Around} {E:Value -> Shared -> Prop} {s:Shared} (h:wpAny M A t Q E s) (hQ:∀ a s,Q a s -> Q' a s):wpAny M A t Q' E s:=wpAny_mono h hQ fun _ _ x=>x
theorem el5 {α β:Type} {a b c:α -> β -> Prop} {C:Prop} (f:∀ x y,a x y -> b x y -> c x y -> C):(∃ x y,a x y /\ b x y /\ c x y) -> C:=fun h=>Exists.elim h fun x h=>Exists.elim h fun y h=>f x y h.1 h.2.1 h.2.2
theorem el3 {α:Type} {a b:α -> Prop} {C:Prop} (f:∀ x,a x -> b x -> C):(∃ x,a x /\ b x) -> C:=fun h=>Exists.elim h fun x h=>f x h.1 h.2
theorem ua2 {a b C:Prop} (f:a -> b -> C):a /\ b -> C:=fun h=>f h.1 h.2
end L2
namespace L2
open PySem PySem.Spec PyProof.Rows
section
variable {X:Cx}
def onSl (σ:St) (i:Nat) (p:V -> Prop):Prop:=match σ[i]? with | some (some v)=>p v | _=>False
theorem onSl.of {σ:St} {i:Nat} {p:V -> Prop} (h:onSl σ i p):∃ v,σ[i]? = some (some v) /\ p v:=by
 unfold onSl at h;split at h
 ·exact #[_,by assumption,h]
 ·exact h.elim
def onInt (x:V) (p:Int -> Prop):Prop:=match x with | .int k=>p k | _=>False
theorem onInt.of {x:V} {p:Int -> Prop} (h:onInt x p):∃ k,x = .int k /\ p k:=by
 cases x <;> first | exact #[_,rfl,h] | exact h.elim
theorem onInt.to {x:V} {p:Int -> Prop} (h:∃ k,x = .int k /\ p k):onInt x p:=by
 obtain ⟨k,rfl,h⟩:=h;exact h
def onStr (x:V) (p:Str -> Prop):Prop:=match x with | .str k=>p k | _=>False
theorem onStr.of {x:V} {p:Str -> Prop} (h:onStr x p):∃ k,x = .str k /\ p k:=by
 cases x <;> first | exact #[_,rfl,h] | exact h.elim
theorem onStr.to {x:V} {p:Str -> Prop} (h:∃ k,x = .str k /\ p k):onStr x p:=by
 obtain ⟨k,rfl,h⟩:=h;exact h
def onBl (x:V) (p:Bool -> Prop):Prop:=match x with | .bl k=>p k | _=>False
theorem onBl.of {x:V} {p:Bool -> Prop} (h:onBl x p):∃ k,x = .bl k /\ p k:=by
 cases x <;> first | exact #[_,rfl,h] | exact h.elim
theorem onBl.to {x:V} {p:Bool -> Prop} (h:∃ k,x = .bl k /\ p k):onBl x p:=by
 obtain ⟨k,rfl,h⟩:=h;exact h
def onRef (x:V) (p:Addr -> Prop):Prop:=match x with | .ref k=>p k | _=>False
theorem onRef.of {x:V} {p:Addr -> Prop} (h:onRef x p):∃ k,x = .ref k /\ p k:=by
 cases x <;> first | exact #[_,rfl,h] | exact h.elim
theorem onRef.to {x:V} {p:Addr -> Prop} (h:∃ k,x = .ref k /\ p k):onRef x p:=by
 obtain ⟨k,rfl,h⟩:=h;exact h
def yf (i:Nat):TE:=fun σ H Q=>onSl σ i fun v=>Q v H
def tC (v:V):TE:=fun _ H Q=>Q v H
theorem UX {i:Nat} {x:Str} {pos:Pos} (hN:X.N[i]? = some x) (hv:Vis X.env.scope x) (hd:(x ==("__debug__" : Str)) = false:=by decide) (hcd:(x ==("__classdict__" : Str)) = false:=by decide):PE X (.Name x pos) (yf i):=by
 intro pins s σ H Q I h;obtain ⟨v,e,h⟩:=onSl.of h;obtain ⟨m,hn,hl⟩:=I.loc;obtain ⟨u,r,l⟩:=hl i x v hN e hv;have fin:EP X pins σ Q u s:=#[v,H,I,r,h];rcases l with ⟨hk,hm⟩ | ⟨hk,c,hc,hcell⟩
 ·exact wpAny_Name (wpAny_loadName_local I.ok.kind hk hn hm fin) hd
 ·rcases hk with hk | hk
  ·exact wpAny_Name (wpAny_loadName_cell I.ok.kind hk hc hcell fin) hd
  ·exact wpAny_Name (wpAny_loadName_free I.ok.kind hk hc hcell fin hcd) hd
theorem zd {i j pos}:PE X (.Constant (.int i) j pos) (tC (.int i)):=fun _ _ _ H _ I h=>wpAny_Constant_int #[.int i,H,I.tok _,#[_,rfl],h]
theorem xm {b j pos}:PE X (.Constant (.bool b) j pos) (tC (.bl b)):=fun _ _ _ H _ I h=>Constant_bool #[.bl b,H,I,rfl,h]
theorem vF {j pos}:PE X (.Constant .none j pos) (tC .non):=fun _ _ _ H _ I h=>Constant_none #[.non,H,I,rfl,h]
theorem yv {x j pos}:PE X (.Constant (.str x) j pos) (tC (.str x)):=fun _ _ _ H _ I h=>Calls.Constant_str #[.str x,H,I.tok _,#[_,rfl],h]
def Gl (X:Cx) (x:Str):Prop:=X.env.kindOf x = some .globalImplicit
theorem wH {E:Value -> Shared -> Prop} {pins:List (Addr × Obj)} {s:Shared} {σ:St} {H:Hp} {x:Str} {u:Value} {pos:Pos} {Q:Value -> Shared -> Prop} (I:Inv X pins σ H s) (hg:Gl X x) (hm:X.mg x = some u) (h:Q u s)
  (hd:(x ==("__debug__" : Str)) = false:=by decide):wpAny (model X.prog X.w) X.A (eval (.Name x pos) X.env) Q E s :=
 Calls.Name_function_global I.ok.kind hg (Calls.loadGlobal_global (by rw [I.ok.glob]; exact I.mod.glob.keeps I.bk) hm h) hd
theorem xR {E:Value -> Shared -> Prop} {pins:List (Addr × Obj)} {s:Shared} {σ:St} {H:Hp} {x:Str} {u:Value} {pos:Pos} {Q:Value -> Shared -> Prop} (I:Inv X pins σ H s) (hg:Gl X x) (hm:X.mg x = none) (hv:bootBuiltins x = some u) (h:Q u s)
  (hn:x ≠ "__name__":=by decide) (hd:(x ==("__debug__" : Str)) = false:=by decide):wpAny (model X.prog X.w) X.A (eval (.Name x pos) X.env) Q E s:=by
 obtain ⟨mb,h1,h2⟩:=I.mod.blt;exact Calls.Name_function_global I.ok.kind hg (Calls.loadGlobal_builtin (by rw [I.ok.glob]; exact I.mod.glob.keeps I.bk) hm (by rw [I.ok.blt]; exact h1.keeps I.bk) ((h2 x hn).trans hv) h) hd
theorem xx {x:Str} {v:V} {u:Value} {pos:Pos} (hg:Gl X x) (hm:X.mg x = some u) (r:RelV v u) (hd:(x ==("__debug__" : Str)) = false:=by decide):PE X (.Name x pos) (tC v) :=
 fun _ _ _ H _ I h=>wH I hg hm #[v,H,I,r,h] hd
theorem V9 {x:Str} {v:V} {u:Value} {pos:Pos} (hg:Gl X x) (hm:X.mg x = none) (hv:bootBuiltins x = some u) (r:RelV v u) (hn:x ≠ "__name__":=by decide) (hd:(x ==("__debug__" : Str)) = false:=by decide):PE X (.Name x pos) (tC v) :=
 fun _ _ _ H _ I h=>xR I hg hm hv #[v,H,I,r,h] hn hd
variable {a b:Expr} {ta tb:TE} {pos:Pos}
def PC (X:Cx) (op:CmpOp) (a b:Expr) (t:TE):Prop :=
 ∀ (pins:List (Addr × Obj)) (s:Shared) (σ:St) (H:Hp) (Q:VK),Inv X pins σ H s -> t σ H Q ->
  wpAny (model X.prog X.w) X.A (eval a X.env) (fun v s₁=>wpAny (model X.prog X.w) X.A (eval b X.env) (fun u s₂=>wpAny (model X.prog X.w) X.A (compareOp op v u) (EP X pins σ Q) X.xe s₂) X.xe s₁) X.xe s
theorem Xb (b:Expr) {op:CmpOp} (h:op ≠ .In) (h2:op ≠ .NotIn):behindInMarks op b = false:=by
 have e1:(op == CmpOp.In) = false:=by cases op <;> first | rfl | exact absurd rfl h
 have e2:(op == CmpOp.NotIn) = false:=by cases op <;> first | rfl | exact absurd rfl h2
 cases b <;> simp [behindInMarks,e1,e2]
theorem wg {op:CmpOp} {t:TE} (h:PC X op a b t) (h1:behindInMarks op b = false:=by first | exact Xb _ ∅ ∅ | rfl):PE X (.Compare a [op] [b] pos) t:=fun pins s σ H Q I hw=>wpAny_Compare1 (h pins s σ H Q I hw) h1
variable {tA tB':TT} {rest:List Expr}
def tOr (t u:TT):TT:=fun σ H Q=>t σ H fun c H1=>if c = true then Q true H1 else u σ H1 Q
def Jr (t:TT):TT:=fun σ H Q=>t σ H fun c H1=>Q (!c) H1
theorem qE (ha:PT X a tA):PW X (.BoolOp .Or [a] pos) tA:=by
 intro wh pins s σ H Q I h;refine isTrue_or (thn (ha pins s σ H Q I h) fun c s1 e=>?_)
 cases c with
 | false=>exact isTrue_or_nil e
 | true=>exact e
theorem ju (ha:PT X a tA) (hb:PW X (.BoolOp .Or (b :: rest) pos) tB'):PW X (.BoolOp .Or (a :: b :: rest) pos) (tOr tA tB'):=by
 intro wh pins s σ H Q I h;refine isTrue_or (thn (ha pins s σ H _ I h) fun c s1=>el3 fun H1 I1 q1=>?_)
 cases c with
 | true=>exact #[H1,I1,q1]
 | false=>exact hb wh pins s1 σ H1 Q I1 q1
theorem yn (ha:PT X a tA):PT X (.UnaryOp .Not a pos) (Jr tA):=by
 intro pins s σ H Q I h;exact isTrue_not (ha pins s σ H (fun c H1=>Q (!c) H1) I h)
def Xo (ta tb:TE):TE:=fun σ H Q=>ta σ H fun x H1=>onBl x fun c=>if c = true then tb σ H1 Q else Q (.bl false) H1
def ZQ (ta:TE):TE:=fun σ H Q=>ta σ H fun x H1=>onBl x fun c=>Q (.bl (!c)) H1
theorem QD {op} {t:TE} (h:PE X a t):PE X (.BoolOp op [a] pos) t:=fun pins s σ H Q I hw=>BoolOp_one (h pins s σ H Q I hw)
theorem QS (ha:PE X a ta) (hb:PE X (.BoolOp .And (b :: rest) pos) tb):PE X (.BoolOp .And (a :: b :: rest) pos) (Xo ta tb):=by
 intro pins s σ H Q I h;refine BoolOp_and (thn (ha pins s σ H _ I h) fun v s1=>el5 fun x H1 I1 r1 q1=>?_);obtain ⟨c,rfl,q1⟩:=onBl.of q1;cases r1;refine wpAny_truthy_bool ?_
 cases c with
 | true=>exact hb pins s1 σ H1 Q I1 q1
 | false=>exact #[.bl false,H1,I1,rfl,q1]
theorem WU (ha:PE X a ta):PE X (.UnaryOp .Not a pos) (ZQ ta):=by
 intro pins s σ H Q I h;refine UnaryOp_ (thn (ha pins s σ H _ I h) fun v s1=>el5 fun x H1 I1 r1 q1=>?_);obtain ⟨c,rfl,q1⟩:=onBl.of q1;cases r1;exact not_of (wpAny_truthy_bool #[.bl (!c),H1,I1,rfl,q1])
def tIf (t:TT) (ta tb:TE):TE:=fun σ H Q=>t σ H fun c H1=>if c = true then ta σ H1 Q else tb σ H1 Q
theorem XZ {c:Expr} (hc:PT X c tA) (ha:PE X a ta) (hb:PE X b tb):PE X (.IfExp c a b pos) (tIf tA ta tb):=by
 intro pins s σ H Q I h;refine wpAny_IfExp (thn (hc pins s σ H _ I h) fun d s1=>el3 fun H1 I1 q1=>?_)
 cases d with
 | true=>exact ha pins s1 σ H1 Q I1 q1
 | false=>exact hb pins s1 σ H1 Q I1 q1
end
end L2
namespace L2
open PySem PySem.Spec PyProof.Rows
def SqL (K:PySem.W.Frag) (H:Hp) (a:Addr) (xs:List V):Prop :=
 Rd H a (.lst xs) \/
  ∃ (o:Obj) (its:Array Value) (n:Nat),K.lookup a = some o /\ o.cls = .type "list" /\ o.dict = none /\ o.data = .seq its n /\ its.size <= sizeLine /\ Vals xs its.toList
def SqT (K:PySem.W.Frag) (H:Hp) (a:Addr) (xs:List V):Prop :=
 Rd H a (.tup xs) \/
  ∃ (o:Obj) (its:Array Value) (n:Nat),K.lookup a = some o /\ o.cls = .type "tuple" /\ o.data = .seq its n /\ its.size <= sizeLine /\ Vals xs its.toList
noncomputable def K3:Value -> Option V
 | .none=>some .non
 | .bool b=>some (.bl b)
 | .int i _=>some (.int i)
 | .str x _=>some (.str x)
 | .bytes b _=>some (.byt b)
 | .float b _=>some (.flt b)
 | .ref a=>some (.ref a)
 | .type n=>some (.ty n)
 | _=>none
theorem RelV.abs {x:V} {u:Value} (r:RelV x u):K3 u = some x:=by
 cases x with
 | non=>cases r; rfl
 | bl _=>cases r; rfl
 | int _=>obtain ⟨t,rfl⟩:=r; rfl
 | str _=>obtain ⟨t,rfl⟩:=r; rfl
 | byt _=>obtain ⟨t,rfl⟩:=r; rfl
 | flt _=>obtain ⟨t,rfl⟩:=r; rfl
 | ref _=>cases r; rfl
 | ty _=>cases r; rfl
theorem RelV.inj {x y:V} {u:Value} (r:RelV x u) (q:RelV y u):x = y:=Option.some.inj (r.abs.symm.trans q.abs)
theorem Vals.inj {xs ys:List V} {us:List Value} (h:Vals xs us) (h':Vals ys us):xs = ys:=by
 induction h generalizing ys with
 | nil =>
  cases h';rfl
 | cons r t ih =>
  cases h' with
  | cons r' t'=>rw [r.inj r',ih t']
section
variable {X:Cx} {pins:List (Addr × Obj)} {σ:St} {H:Hp} {s:Shared} {a:Addr} {xs ys:List V}
theorem SqL.of {K:PySem.W.Frag} (h:H a = some (.lst xs)):SqL K H a xs:=.inl (.inl h)
theorem SqT.of {K:PySem.W.Frag} (h:H a = some (.tup xs)):SqT K H a xs:=.inl (.inl h)
theorem Inv.list (I:Inv X pins σ H s) (h:SqL X.K H a xs):∃ its:List Value,Vals xs its /\ PlainL s.heap a its.toArray /\ xs.length <= sizeLine:=by
 rcases h with h | ⟨o,its,n,hk,hc,hd,hs,hz,r⟩
 ·obtain ⟨z,its,n,r,e⟩:=h.ok I.hok;exact #[its,r,#[_,n,e,rfl,rfl,rfl],z]
 ·refine #[its.toList,r,#[o,n,I.kIn a o hk,hc,hd,by simpa using hs],?_];have e:=r.length;simp only [Array.length_toList]at e;lia
theorem Inv.tuple (I:Inv X pins σ H s) (h:SqT X.K H a xs):∃ its:List Value,Vals xs its /\ IsTup s.heap a its.toArray /\ xs.length <= sizeLine:=by
 rcases h with h | ⟨o,its,n,hk,hc,hs,hz,r⟩
 ·obtain ⟨z,its,r,p⟩:=h.ok I.hok;exact #[its,r,p,z]
 ·refine #[its.toList,r,#[o,I.kIn a o hk,hc,n,by simpa using hs],?_];have e:=r.length;simp only [Array.length_toList]at e;lia
theorem Inv.list_inj (I:Inv X pins σ H s) (h:SqL X.K H a xs) (h':SqL X.K H a ys):xs = ys:=by
 obtain ⟨its,r,⟨o,n,e,_,_,d⟩,_⟩:=I.list h;obtain ⟨its',r',⟨o',n',e',_,_,d'⟩,_⟩:=I.list h';rw [e]at e'; cases e';rw [d]at d';injection d' with d1 _;have:its = its':=by simpa using congrArg Array.toList d1
 subst this;exact r.inj r'
theorem Inv.tuple_inj (I:Inv X pins σ H s) (h:SqT X.K H a xs) (h':SqT X.K H a ys):xs = ys:=by
 obtain ⟨its,r,⟨o,e,_,n,d⟩,_⟩:=I.tuple h;obtain ⟨its',r',⟨o',e',_,n',d'⟩,_⟩:=I.tuple h';rw [e]at e'; cases e';rw [d]at d';injection d' with d1 _;have:its = its':=by simpa using congrArg Array.toList d1
 subst this;exact r.inj r'
end
noncomputable abbrev Cx.wish (X:Cx) (E:Value -> Shared -> Prop):Cx:={ X with xe:=E }
noncomputable abbrev Cx.nox (X:Cx):Cx:=X.wish fun _ _=>False
theorem Cx.Ok.wish {X:Cx} (ok:X.Ok) (E:Value -> Shared -> Prop):(X.wish E).Ok :=
 #[ok.mod,ok.kind,ok.glob,ok.blt,ok.above,ok.inj,ok.has,ok.cab,ok.hd,ok.frames,ok.stk,ok.exf,ok.bs,ok.bsz,ok.noex,ok.exfs,ok.funs,ok.frf]
theorem Cx.Ok.unwish {X:Cx} {E:Value -> Shared -> Prop} (ok:(X.wish E).Ok):X.Ok :=
 #[ok.mod,ok.kind,ok.glob,ok.blt,ok.above,ok.inj,ok.has,ok.cab,ok.hd,ok.frames,ok.stk,ok.exf,ok.bs,ok.bsz,ok.noex,ok.exfs,ok.funs,ok.frf]
section
variable {X:Cx} {pins:List (Addr × Obj)} {σ:St} {H:Hp} {s:Shared} {E:Value -> Shared -> Prop}
theorem Inv.wish (I:Inv X pins σ H s) (E:Value -> Shared -> Prop):Inv (X.wish E) pins σ H s:=#[I.ok.wish E,I.os,I.bare,I.base,I.loc,I.cell,I.free,I.freeC,I.pin,I.hok,I.len]
theorem Inv.unwish (I:Inv (X.wish E) pins σ H s):Inv X pins σ H s:=#[I.ok.unwish,I.os,I.bare,I.base,I.loc,I.cell,I.free,I.freeC,I.pin,I.hok,I.len]
theorem SP.unwish {D:xW} {f:Flow} {s':Shared} (h:SP (X.wish E) pins D f s'):SP X pins D f s':=by
 cases f with
 | next=>obtain ⟨σ',H',I,q⟩:=h; exact #[σ',H',I.unwish,q]
 | brk=>obtain ⟨σ',H',I,q⟩:=h; exact #[σ',H',I.unwish,q]
 | cont=>obtain ⟨σ',H',I,q⟩:=h; exact #[σ',H',I.unwish,q]
 | ret u=>obtain ⟨v,σ',H',I,r,q⟩:=h; exact #[v,σ',H',I.unwish,r,q]
theorem PSs.nox {st:List Stmt} {t:TS} (h:PSs X.nox st t):PSs X st t:=fun pins s σ H D I hw =>
 wpAny_mono (h pins s σ H D (I.wish _) hw) (fun _ _ q=>q.unwish) fun _ _ z=>False.elim z
end
section
variable {X:Cx} {st:Stmt} {rest:List Stmt} {t u:TS} {e:Expr} {te:TE} {pos:Pos}
def Wd:TS:=fun D σ H=>D.nx σ H
def Jj (t u:TS):TS:=fun D σ H=>t { D with nx:=u D } σ H
theorem zu:PSs X [] Wd:=fun _ _ σ H _ I h=>wpAny_execs_nil #[σ,H,I,h]
theorem zy (h1:PS X st t) (h2:PSs X rest u):PSs X (st :: rest) (Jj t u):=by
 intro pins s σ H D I h;refine wpAny_execs_cons (thn (h1 pins s σ H { D with nx:=u D } I h) fun f s1 q=>?_)
 cases f with
 | next =>
  obtain ⟨σ',H',I',q⟩:=q;exact h2 pins s1 σ' H' D I' q
 | ret v=>exact q
 | brk=>exact q
 | cont=>exact q
theorem zf (h1:PS X st t):PSs X [st] t:=by
 intro pins s σ H D I h;refine wpAny_execs_cons (thn (h1 pins s σ H D I h) fun f s1 q=>?_)
 cases f with
 | next=>exact wpAny_execs_nil q
 | ret v=>exact q
 | brk=>exact q
 | cont=>exact q
theorem Inv.quiet {pins:List (Addr × Obj)} {σ:St} {H:Hp} {s:Shared} (I:Inv X pins σ H s):interactive X.env = false:=by simp [interactive,I.ok.kind]
def X5 (te:TE):TS:=fun D σ H=>te σ H fun _ H1=>D.nx σ H1
theorem yQ (he:PE X e te) (hs:swapsWith e none pos.line X.env = pure false:=by rfl):PS X (.Expr e pos) (X5 te):=by
 intro pins s σ H D I h;exact wpAny_Expr_any (thn (he pins s σ H _ I h) fun v s1=>el5 fun x H1 I1 r1 q1=>#[σ,H1,I1,q1]) I.quiet hs
def Jm (te:TE):TS:=fun D σ H=>te σ H D.rt
theorem zo (he:PE X e te):PS X (.Return (some e) pos) (Jm te):=by
 intro pins s σ H D I h;exact wpAny_Return_some (thn (he pins s σ H _ I h) fun v s1=>el5 fun x H1 I1 r1 q1=>#[x,σ,H1,I1,r1,q1])
def Jk (c:TT) (t u:TS):TS:=fun D σ H=>c σ H fun b H1=>if b = true then t D σ H1 else u D σ H1
theorem yb {c:Expr} {a b:List Stmt} {tc:TT} (hc:PT X c tc) (ha:PSs X a t) (hb:PSs X b u):PS X (.If c a b pos) (Jk tc t u):=by
 intro pins s σ H D I h;refine wpAny_If (thn (hc pins s σ H _ I h) fun d s1=>el3 fun H1 I1 q1=>?_)
 cases d with
 | true=>exact ha pins s1 σ H1 D I1 q1
 | false=>exact hb pins s1 σ H1 D I1 q1
end
noncomputable abbrev TG:=V -> St -> Hp -> (St -> Hp -> Prop) -> Prop
noncomputable abbrev TGs:=List V -> St -> Hp -> (St -> Hp -> Prop) -> Prop
def PG (X:Cx) (target:Expr) (t:TG):Prop :=
 ∀ (pins:List (Addr × Obj)) (s:Shared) (σ:St) (H:Hp) (v:V) (u:Value) (Q:St -> Hp -> Prop),Inv X pins σ H s -> RelV v u -> t v σ H Q ->
  wpAny (model X.prog X.w) X.A (assign target X.env u) (fun _ s'=>∃ σ' H',Inv X pins σ' H' s' /\ Q σ' H') X.xe s
def PGs (X:Cx) (ts:List Expr) (t:TGs):Prop :=
 ∀ (pins:List (Addr × Obj)) (s:Shared) (σ:St) (H:Hp) (vs:List V) (us:List Value) (Q:St -> Hp -> Prop),Inv X pins σ H s -> Vals vs us -> t vs σ H Q ->
  wpAny (model X.prog X.w) X.A (assignInOrder ((assignEach ts X.env).map (·.2)) us) (fun _ s'=>∃ σ' H',Inv X pins σ' H' s' /\ Q σ' H') X.xe s
section
variable {X:Cx} {pos:Pos}
def yW (i:Nat):TG:=fun v σ H Q=>Q (σ.set i (some v)) H
theorem zF {i:Nat} {x:Str} (hN:X.N.Nodup) (hi:X.N[i]? = some x) (hx:Loc X.env.scope x) (hf:X.fn x = true \/ X.env.scope.names.lookup x = some .local:=by first | exact .inl rfl | exact .inr rfl | assumption):PG X (.Name x pos) (yW i):=by
 intro pins s σ H v u Q I r h;exact wpAny_assign_Name (jw I hN hi hx r (fun s' I'=>#[_,H,I',h]) hf)
def JM:TGs:=fun vs σ H Q=>vs = [] /\ Q σ H
def VS (t:TG) (u:TGs):TGs:=fun vs σ H Q=>∃ v r,vs = v :: r /\ t v σ H fun σ' H'=>u r σ' H' Q
theorem VW:PGs X [] JM:=by
 intro pins s σ H vs us Q I r h;obtain ⟨e,h⟩:=h;subst e;cases r;exact assignInOrder_nil #[σ,H,I,h]
theorem j0 {e:Expr} {es:List Expr} {t:TG} {u:TGs} (h1:PG X e t) (h2:PGs X es u)
  (hs:(assignEach (e :: es) X.env).map (·.2) = assign e X.env ::(assignEach es X.env).map (·.2):=by rfl):PGs X (e :: es) (VS t u):=by
 intro pins s σ H vs us Q I r h;obtain ⟨v,vr,e1,h⟩:=h;subst e1
 cases r with
 | cons r rr =>
  rw [hs];refine assignInOrder_cons (thn (h1 pins s σ H _ _ _ I r h) fun _ s1 ⟨σ1,H1,I1,q1⟩=>?_);exact h2 pins s1 σ1 H1 _ _ Q I1 rr q1
def JP (K:PySem.W.Frag) (n:Nat) (t:TGs):TG:=fun v σ H Q=>∃ a xs,v = .ref a /\ SqT K H a xs /\ xs.length = n /\ t xs σ H Q
theorem Qg {es:List Expr} {k:Nat} {t:TGs} {n:Nat} (hc:X.calm = true) (h:PGs X es t)
  (hn:(assignEach es X.env).length = n:=by rfl) (hst:(assignEach es X.env).findIdx? (·.1) = none:=by rfl):PG X (.Tuple es k pos) (JP X.K n t):=by
 intro pins s σ H v u Q I r hw;obtain ⟨a,xs,e1,hq,hl,hw⟩:=hw;subst e1;cases r;obtain ⟨its,rv,ht,hz⟩:=I.tuple hq;refine assign_Tuple_tuple (I.ok.hd hc) ht (by simp [hn,<- hl,rv.length]) hst fun h' hx=>?_;have I1:Inv X pins σ H { s with heap:=h' }:=I.kept (t':=s.toks) fun b o e=>hx b o (Nat.ne_of_lt (Heap.lt_size e)) e;exact h pins _ σ H xs _ Q I1 (by simpa using rv) hw
def QJ (te:TE) (g:TG):TS:=fun D σ H=>te σ H fun x H1=>g x σ H1 D.nx
theorem WM {i:Nat} {x:Str} {e:Expr} {te:TE} {pos':Pos} (hN:X.N.Nodup) (hi:X.N[i]? = some x) (hx:Loc X.env.scope x) (he:PE X e te) (hs:swapsWith e (some (.Name x pos')) pos.line X.env = pure false:=by rfl) (hf:X.fn x = true \/ X.env.scope.names.lookup x = some .local:=by first | exact .inl rfl | exact .inr rfl | assumption) :
  PS X (.Assign [.Name x pos'] e pos) (QJ te (yW i)):=by
 intro pins s σ H D I h;refine wpAny_Assign_Name (thn (he pins s σ H _ I h) fun v s1=>el5 fun y H1 I1 r1 q1=>?_) hs;exact jw I1 hN hi hx r1 (fun s2 I2=>#[_,H1,I2,q1]) hf
def YW (c:TT) (tb:TS):TS:=fun D σ H=>∃ W:Nat -> St -> Hp -> Prop,(∃ m,W m σ H) /\ ∀ m σ H,W m σ H ->
 c σ H fun b H1=>if b = true then ∃ N:St -> Hp -> Prop,(∀ σ' H',N σ' H' -> ∃ m',m' < m /\ W m' σ' H') /\ tb { D with nx:=N,ct:=N,bk:=D.nx } σ H1 else D.nx σ H1
theorem jQ {c:Expr} {body:List Stmt} {tc:TT} {tb:TS} (hp:PassesOwn (model X.prog X.w) X.A X.env X.xe) (hc:PT X c tc) (hb:PSs X body tb):PS X (.While c body [] pos) (YW tc tb):=by
 intro pins s σ H D I h;obtain ⟨W,⟨m0,w0⟩,turn⟩:=h;refine wpAny_While (codeAny_whileLoop (fun n s'=>∃ σ' H',Inv X pins σ' H' s' /\ W n σ' H') ?_ m0 #[σ,H,I,w0]);rintro n s1 ⟨σ1,H1,I1,w1⟩;refine wpAny_passesOwn hp (thn (hc pins s1 σ1 H1 _ I1 (turn n σ1 H1 w1)) fun b s2=>el3 fun H2 I2 q2=>?_)
 cases b with
 | true =>
  obtain ⟨N,hN,q2⟩:=q2;rw [if_pos rfl];refine wpAny_passesOwn hp (thn (hb pins s2 σ1 H2 _ I2 q2) fun f s3 q3=>?_)
  cases f with
  | next =>
   obtain ⟨σ3,H3,I3,n3⟩:=q3;obtain ⟨m',hm,w3⟩:=hN σ3 H3 n3;exact #[m',hm,σ3,H3,I3,w3]
  | cont =>
   obtain ⟨σ3,H3,I3,n3⟩:=q3;obtain ⟨m',hm,w3⟩:=hN σ3 H3 n3;exact #[m',hm,σ3,H3,I3,w3]
  | brk=>exact q3
  | ret v=>exact q3
 | false =>
  rw [if_neg Bool.false_ne_true];exact wpAny_execs_nil #[σ1,H2,I2,q2]
end
structure It where
 go:Nat -> Hp -> Prop
 yld:Nat -> Hp -> V -> Hp -> Prop
 stop:Nat -> Hp -> Prop
def yV (X:Cx) (pins:List (Addr × Obj)) (H:Hp) (b:Addr):Prop :=
 H b = none /\ b ≠ X.env.locals /\ b ∉ X.fs /\ (b ∈ X.ex \/ X.s₀.heap.objs.size <= b) /\ (∀ x c,X.env.cells.lookup x = some c -> c ≠ b) /\ ∀ p ∈ X.pn ++ pins,p.1 ≠ b
theorem Inv.fpOk {X:Cx} {pins:List (Addr × Obj)} {σ:St} {H H':Hp} {s:Shared} {b:Addr} (I:Inv X pins σ H s) (hb:s⁻¹ <= b) (hn:H' b = none):yV X pins H' b:=by
 refine #[hn,Nat.ne_of_gt (Nat.lt_of_lt_of_le I.lt hb),I.nofs hb,.inr (Nat.le_trans I.sz hb),fun x c e z=>?_,fun p hp z=>?_]
 ·obtain ⟨v,q⟩:=I.cell x c e;exact absurd (Nat.lt_of_lt_of_le q.lt (by rw [z]; exact hb)) (Nat.lt_irrefl _)
 ·exact absurd (Nat.lt_of_lt_of_le (Heap.lt_size (I.pin p hp).1) (by rw [z]; exact hb)) (Nat.lt_irrefl _)
structure Wq (P:Program) (w:World) (K:PySem.W.Frag) (tg:Expr) (J:It) (fp:List Addr) (it:Addr) (tn:Nat -> Heap -> Prop):Prop where
 mem:it ∈ fp
 obj:∀ i h,tn i h -> ∀ b ∈ fp,∃ o,h.get? b = some o /\ ∀ v,o.data ≠ .cell v
 keep:∀ i h h',tn i h -> (∀ b ∈ fp,∀ o,h.get? b = some o -> h'.get? b = some o) -> tn i h'
 item:∀ (X:Cx),X.prog = P -> X.w = w -> X.K = K -> X.calm = true -> ∀ (i:Nat) (pins:List (Addr × Obj)) (s:Shared) (σ:St) (H:Hp) (E:Value -> Shared -> Prop),Inv X pins σ H s -> (∀ b ∈ fp,yV X pins H b) -> tn i s.heap -> J.go i H ->
  wpAny (model P w) X.A (pyNext (.ref it)) (fun r s1=>∃ u,r = some u /\
   wpAny (model P w) X.A (letOwnedTupleGo tg (.ref it) u) (fun _ s2=>∃ x H',Inv X pins σ H' s2 /\ RelV x u /\ J.yld i H x H' /\ tn (i + 1) s2.heap /\ ∀ b ∈ fp,H' b = none) E s1) E s
 done:∀ (X:Cx),X.prog = P -> X.w = w -> X.K = K -> X.calm = true -> ∀ (i:Nat) (pins:List (Addr × Obj)) (s:Shared) (σ:St) (H:Hp) (E:Value -> Shared -> Prop),Inv X pins σ H s -> (∀ b ∈ fp,yV X pins H b) -> tn i s.heap -> J.stop i H ->
  wpAny (model P w) X.A (pyNext (.ref it)) (fun r s1=>r = none /\ Inv X pins σ H s1) E s
 self:∀ (A:Around) (i:Nat) (s:Shared) (Q:Value -> Shared -> Prop) (E:Value -> Shared -> Prop),tn i s.heap -> Q (.ref it) s -> wpAny (model P w) A (pyIter (.ref it)) Q E s
noncomputable abbrev TI:=St -> Hp -> (It -> Hp -> Prop) -> Prop
def PIE (X:Cx) (pins:List (Addr × Obj)) (σ:St) (tg:Expr) (R:It -> Hp -> Prop) (itv:Value) (s2:Shared):Prop :=
 ∃ (it:Addr) (fp:List Addr) (tn:Nat -> Heap -> Prop) (J:It) (H':Hp),itv = .ref it /\ Inv X pins σ H' s2 /\ Wq X.prog X.w X.K tg J fp it tn /\ tn 0 s2.heap /\ (∀ b ∈ fp,yV X pins H' b) /\ R J H'
def PI (X:Cx) (tg iter:Expr) (wi:TI):Prop :=
 ∀ (pins:List (Addr × Obj)) (s:Shared) (σ:St) (H:Hp) (R:It -> Hp -> Prop),Inv X pins σ H s -> wi σ H R ->
  wpAny (model X.prog X.w) X.A (eval iter X.env) (fun v s1=>wpAny (model X.prog X.w) X.A (pyIter v) (PIE X pins σ tg R) X.xe s1) X.xe s
theorem Xs {M:Model} {A:Around} {E:Value -> Shared -> Prop} {s:Shared} {tg:Expr} {it:Addr} {u:Value} {o:Obj} {n:String} {vs:Array Value} {Q:Unit -> Shared -> Prop} (ho:s.heap.get? it = some o) (hc:o.cls = .type n) (hd:o.data = .fields vs)
    (hn:["enumerate", "zip", "dict_itemiterator", "dict_reverseitemiterator", "odict_iterator", "itertools.zip_longest", "itertools.pairwise"].contains n = false) (hQ:Q Unit.unit s):wpAny M A (letOwnedTupleGo tg (.ref it) u) Q E s:=by
  unfold letOwnedTupleGo
  cases tg <;> first
    | exact wpAny_pure hQ
    | (cases u <;> first
        | exact wpAny_pure hQ
        | (refine wpAny_bind (wpAny_load ho ?_)
           rw [hc,hd];show wpAny M A (if (["enumerate", "zip", "dict_itemiterator", "dict_reverseitemiterator", "odict_iterator", "itertools.zip_longest", "itertools.pairwise"].contains n && vs[0]? == some (rawInt _)) = true then _ else _) Q E s;rw [if_neg (by intro h; rw [hn,Bool.false_and]at h; cases h)]
           exact wpAny_pure hQ))
noncomputable def Itl (K:PySem.W.Frag) (a:Addr):It :=
 #[fun i H=>∃ xs x,SqL K H a xs /\ xs[i]? = some x,fun i H x H'=>H' = H /\ ∀ xs,SqL K H a xs -> xs[i]? = some x,fun i H=>∃ xs,SqL K H a xs /\ xs.length <= i]
noncomputable def Itt (K:PySem.W.Frag) (a:Addr):It :=
 #[fun i H=>∃ xs x,SqT K H a xs /\ xs[i]? = some x,fun i H x H'=>H' = H /\ ∀ xs,SqT K H a xs -> xs[i]? = some x,fun i H=>∃ xs,SqT K H a xs /\ xs.length <= i]
noncomputable def Itr (lo:Int) (n:Nat):It:=#[fun i _=>i < n,fun i H x H'=>H' = H /\ x = .int (lo + i),fun i _=>n <= i]
theorem Zo {P:Program} {w:World} {K:PySem.W.Frag} {tg:Expr} (a it:Addr):Wq P w K tg (Itl K a) [it] it (fun i h=>h.IsListIter it a i) where
 mem:=by simp
 obj:=fun i h st b hb=>by
  have e:b = it:=by simpa using hb
  subst e;obtain ⟨o,e,c,d⟩:=st;exact #[o,e,fun v z=>by rw [d]at z; cases z]
 keep:=fun i h h' st k=>st.at fun o e=>k it (by simp) o e
 item:=by
  intro X hP hw hK hc i pins s σ H E I hf st hg;subst hP hw hK;obtain ⟨xs,x,hq,hx⟩:=hg;obtain ⟨its,rv,p,hz⟩:=I.list hq;obtain ⟨u,hu,ru⟩:=rv.get hx;obtain ⟨f0,f1,f2,f3,f4,f5⟩:=hf it (by simp);refine wpAny_pyNext_list_item st p.isList (x:=u) (by simpa using hu) fun h' st' sb=>?_;have I1:Inv X pins σ H { s with heap:=h' }:=I.turned (t':=s.toks) (fun b o hb e=>(sb.2 b hb).trans e) f0 f1 f3 f4 f5;obtain ⟨o,e,c,d⟩:=id st';exact #[u,rfl,Xs (s:={ s with heap:=h' }) e c d ∅ #[x,H,I1,ru,#[rfl,fun ys hy=>by rw [I.list_inj hy hq]; exact hx],st',fun b hb=>(hf b hb).1]]
 done:=by
  intro X hP hw hK hc i pins s σ H E I hf st hg;subst hP hw hK;obtain ⟨xs,hq,hx⟩:=hg;obtain ⟨its,rv,p,hz⟩:=I.list hq;obtain ⟨f0,f1,f2,f3,f4,f5⟩:=hf it (by simp);have hl:=rv.length;exact wpAny_pyNext_list_end (I.ok.hd hc) st p.isList (by simp; lia) fun h' eb=>#[rfl,I.turned (t':=s.toks) (fun b o hb e=>eb b o hb e) f0 f1 f3 f4 f5]
 self:=fun _ _ _ _ _ st h=>wpAny_pyIter_listiter st h
theorem kM {P:Program} {w:World} {K:PySem.W.Frag} {tg:Expr} (it:Addr) (lo:Int) (n:Nat):Wq P w K tg (Itr lo n) [it] it (fun i h=>IsRangeIter h it (lo + (i:Nat) * 1) ((n:Int) - (i:Nat)) 1) where
 mem:=by simp
 obj:=fun i h st b hb=>by
  have e:b = it:=by simpa using hb
  subst e
  exact #[_,st,fun v z=>by
   have z':Data.fields _ = Data.cell v:=z
   cases z']
 keep:=fun i h h' st k=>k it (by simp) _ st
 item:=by
  intro X hP hw hK hc i pins s σ H E I hf st hg;subst hP hw hK;obtain ⟨f0,f1,f2,f3,f4,f5⟩:=hf it (by simp);have W:=Walks.range (prog:=X.prog) (w:=X.w) (I.ok.hd hc) it lo 1 n;refine W.item i s _ _ hg st fun v h' tk hv st' kk=>?_;obtain ⟨t,rfl⟩:=hv;have I1:Inv X pins σ H { s with heap:=h',toks:=tk }:=I.turned (fun b o hb e=>kk b o (by simpa using hb) e) f0 f1 f3 f4 f5;refine #[_,rfl,Xs (s:={ s with heap:=h',toks:=tk }) (n:="range_iterator") st' rfl rfl ∅ #[.int (lo + i),H,I1,#[t,?_],#[rfl,rfl],st',fun b hb=>(hf b hb).1]];rw [Int.mul_one]
 done:=by
  intro X hP hw hK hc i pins s σ H E I hf st hg;subst hP hw hK;obtain ⟨f0,f1,f2,f3,f4,f5⟩:=hf it (by simp);exact wpAny_pyNext_range_end (I.ok.hd hc) st (by have:n <= i:=hg; lia) fun h' eb=>#[rfl,I.turned (t':=s.toks) (fun b o hb e=>eb b o hb e) f0 f1 f3 f4 f5]
 self:=fun _ _ _ _ _ st h=>wpAny_pyIter_rangeiter st h
end L2
namespace L2
open PySem PySem.Spec PyProof.Rows
section
variable {X:Cx} {tg:Expr}
def UH (K:PySem.W.Frag) (tl:TE):TI:=fun σ H R=>tl σ H fun x H1=>∃ a,x = .ref a /\ (∃ xs,SqL K H1 a xs) /\ R (Itl K a) H1
def zad (K:PySem.W.Frag) (tl:TE):TI:=fun σ H R=>tl σ H fun x H1=>∃ a,x = .ref a /\ (∃ xs,SqT K H1 a xs) /\ R (Itt K a) H1
theorem yi {l:Expr} {tl:TE} (hl:PE X l tl):PI X tg l (UH X.K tl):=by
 intro pins s σ H R I h;refine thn (hl pins s σ H _ I h) fun v s1=>el5 fun x H1 I1 r1 q1=>?_;obtain ⟨a,e,⟨xs,hq⟩,q⟩:=q1;subst e;cases r1;obtain ⟨its,rv,p,hz⟩:=I1.list hq;refine wpAny_pyIter_list p.isList ?_;refine #[s1⁻¹,[s1⁻¹],_,_,H1,rfl,I1.kept (t':=s1.toks) fun b o e=>Heap.get?_push_of_some _ e,Zo a _,#[_,Heap.get?_push_size _ rfl,rfl,rfl],fun b hb=>?_,q];have e:b = s1⁻¹:=by simpa using hb
 subst e;exact I1.fpOk (Nat.le_refl _) (I1.hok.fresh (Nat.le_refl _))
theorem XB {pins:List (Addr × Obj)} {σ:St} {H:Hp} {s:Shared} {R:It -> Hp -> Prop} {E:Value -> Shared -> Prop} {lo hi:Int} {t u v:Tok} {tk:Nat} (I:Inv X pins σ H s) (h1:-(2 ^ 62) <= lo) (h2:lo < 2 ^ 62) (h3:-(2 ^ 62) <= hi) (h4:hi < 2 ^ 62)
  (q:R (Itr lo (hi - lo).toNat) H):wpAny (model X.prog X.w) X.A (pyIter (.ref s⁻¹)) (PIE X pins σ tg R) E { s with heap:=s.heap.push { cls:=.type "range",data:=.fields (List.toArray [.int lo t,.int hi u,.int 1 v]) },toks:=tk }:=by
 refine wpAny_pyIter_range (IsRange.new ..) (small_one h1 h2 h3 h4) ?_;have I1:Inv X pins σ H { s with heap:=s.heap.push { cls:=.type "range",data:=.fields (List.toArray [.int lo t,.int hi u,.int 1 v]) },toks:=tk }:=I.kept fun b o e=>Heap.get?_push_of_some _ e
 refine #[(s.heap.push { cls:=.type "range",data:=.fields (List.toArray [.int lo t,.int hi u,.int 1 v]) }).objs.size,[(s.heap.push { cls:=.type "range",data:=.fields (List.toArray [.int lo t,.int hi u,.int 1 v]) }).objs.size],_,_,H,rfl,
  I1.kept (t':=tk) fun b o e=>Heap.get?_push_of_some _ e,kM _ lo (hi - lo).toNat,?_,fun b hb=>?_,q]
 ·have e1:lo + ((0:Nat):Int) * 1 = lo:=by simp
  have e2:(((hi - lo).toNat:Nat):Int) - ((0:Nat):Int) = Builtin.Range.rangeSize lo hi 1:=by rw [rangeSize_one]; split <;> lia
  show IsRangeIter _ _ (lo + ((0:Nat):Int) * 1) ((((hi - lo).toNat:Nat):Int) - ((0:Nat):Int)) 1;rw [e1,e2];exact Heap.get?_push_size _ rfl
 ·have e:b =(s.heap.push { cls:=.type "range",data:=.fields (List.toArray [.int lo t,.int hi u,.int 1 v]) }).objs.size:=by simpa using hb
  subst e;exact I1.fpOk (Nat.le_refl _) (I1.hok.fresh (Nat.le_refl _))
def VU (ta:TA):TI:=fun σ H R=>ta σ H fun vs H1=>∃ j:Int,vs = [.int j] /\ -(2 ^ 62) <= j /\ j < 2 ^ 62 /\ R (Itr 0 j.toNat) H1
def Kb (ta:TA):TI:=fun σ H R=>ta σ H fun vs H1=>∃ i j:Int,vs = [.int i,.int j] /\ (-(2 ^ 62) <= i /\ i < 2 ^ 62 /\ -(2 ^ 62) <= j /\ j < 2 ^ 62) /\ R (Itr i (j - i).toNat) H1
theorem yI {a:Expr} {ta:TA} {p pos:Pos} (hg:Gl X "range") (hm:X.mg "range" = none) (ha:PA X [a] ta) (hs:starEach [a] X.env = [(false,eval a X.env)]:=by rfl):PI X tg (.Call (.Name "range" p) [a] [] pos) (VU ta):=by
 intro pins s σ H R I h;refine Call_ (xR I hg hm boot_range (PyProof.Rows.callWith_type1 (thn (ha pos pins s σ H _ I h) fun us s1=>el5 fun vs H1 I1 r1 q1=>?_) hs rfl));obtain ⟨j,e,q1,q2,q⟩:=q1;subst e
 cases r1 with
 | cons r rr =>
  cases rr;obtain ⟨t,rfl⟩:=r;exact call_range_1 (XB I1 ⋯ ⋯ q1 q2 (by simpa using q))
def Xa (wi:TI) (g:TG) (tb:TS):TS:=fun D σ H=>wi σ H fun J H1=>∃ W:Nat -> Nat -> St -> Hp -> Prop,(∃ m,W 0 m σ H1) /\ ∀ i m σ H,W i m σ H ->
 (J.stop i H /\ D.nx σ H) \/ (J.go i H /\ ∃ N:St -> Hp -> Prop,(∀ σ' H',N σ' H' -> ∃ m',m' < m /\ W (i + 1) m' σ' H') /\ ∀ x H',J.yld i H x H' -> g x σ H' fun σ2 H2=>tb { D with nx:=N,ct:=N,bk:=D.nx } σ2 H2)
noncomputable def vp (fp:List Addr) (h:Heap):List (Addr × Obj):=fp.filterMap fun b=>(h.get? b).map fun o=>(b,o)
theorem yl {fp:List Addr} {h:Heap} {b:Addr} {o:Obj} (hb:b ∈ fp) (e:h.get? b = some o):(b,o) ∈ vp fp h:=aw.mpr #[b,hb,by rw [e]; rfl]
theorem ZF {fp:List Addr} {h:Heap} {p:Addr × Obj} (hp:p ∈ vp fp h):p.1 ∈ fp /\ h.get? p.1 = some p.2:=by
 obtain ⟨b,hb,e⟩:=aw.mp hp
 cases q:h.get? b with
 | none=>rw [q]at e; cases e
 | some o =>
  rw [q]at e;have e':(b,o) = p:=Option.some.inj e;subst e';exact #[hb,q]
theorem Inv.pinned {pins:List (Addr × Obj)} {σ:St} {H:Hp} {s:Shared} {fp:List Addr} (I:Inv X pins σ H s) (hf:∀ b ∈ fp,yV X pins H b) (ho:∀ b ∈ fp,∃ o,s.heap.get? b = some o /\ ∀ v,o.data ≠ .cell v):Inv X (pins ++ vp fp s.heap) σ H s :=
 I.pins_of fun p hp=>(af.mp hp).elim (fun z=>I.pin p (List.mem_append_right _ z)) fun z=>by
  obtain ⟨hb,e⟩:=ZF z;obtain ⟨f0,f1,f2,_⟩:=hf p.1 hb;obtain ⟨o,e',d⟩:=ho p.1 hb;rw [e]at e'; cases e';exact #[e,f0,f1,f2,d]
theorem Inv.unpinned {pins pl:List (Addr × Obj)} {σ:St} {H:Hp} {s:Shared} (I:Inv X (pins ++ pl) σ H s):Inv X pins σ H s:=I.pins_of fun p hp=>I.pin p (List.mem_append_right _ (List.mem_append_left _ hp))
theorem yH {iter:Expr} {body:List Stmt} {wi:TI} {g:TG} {tb:TS} {pos:Pos} (hp:PassesOwn (model X.prog X.w) X.A X.env X.xe) (hc:X.calm = true) (hi:PI X tg iter wi) (hg:PG X tg g) (hb:PSs X body tb)
  (hs:∀ x,foldedSetIterable iter X.env x = pure x:=by intro _; rfl):PS X (.For tg iter body [] pos) (Xa wi g tb):=by
 intro pins s σ H D I h;refine wpAny_For (thn (hi pins s σ H _ I h) fun v s1 h1=>thn h1 fun itv s2 h2=>?_) hs;obtain ⟨it,fp,tn,J,H2,e,I2,T,st2,f2,W,⟨m0,w0⟩,turn⟩:=h2;subst e;have stat:∀ {H':Hp},(∀ b ∈ fp,H' b = none) -> ∀ b ∈ fp,yV X pins H' b:=fun hn b hb=>#[hn b hb,(f2 b hb).2];refine codeAny_forLoop_any (fun n s'=>∃ i σ' H',Inv X pins σ' H' s' /\ tn i s'.heap /\ (∀ b ∈ fp,H' b = none) /\ W i n σ' H') ?_ m0 #[0,σ,H2,I2,st2,fun b hb=>(f2 b hb).1,w0];rintro n s3 ⟨i,σ3,H3,I3,st3,fr3,w3⟩;rcases turn i n σ3 H3 w3 with ⟨stop,qn⟩ | ⟨go,N,hN,step⟩
 ·refine wpAny_passesOwn hp (thn (T.done X rfl rfl rfl hc i pins s3 σ3 H3 X.xe I3 (stat fr3) st3 stop) fun r s4 ⟨hr,I4⟩=>?_);subst hr;exact wpAny_execs_nil #[σ3,H3,I4,qn]
 ·refine wpAny_passesOwn hp (thn (T.item X rfl rfl rfl hc i pins s3 σ3 H3 X.xe I3 (stat fr3) st3 go) fun r s4 ⟨u,hr,h4⟩=>?_);subst hr;refine wpAny_passesOwn hp (thn h4 fun _ s5=>el5 fun x H5 I5 r5 q_z=>?_);obtain ⟨y5,st5,fr5⟩:=q_z;have I5':=I5.pinned (stat fr5) (T.obj _ _ st5);refine wpAny_passesOwn hp (thn (hg _ s5 σ3 H5 x u _ I5' r5 (step x H5 y5)) fun _ s6 ⟨σ6,H6,I6,q6⟩=>?_);refine wpAny_passesOwn hp (thn (hb _ s6 σ6 H6 _ I6 q6) fun f s7 q7=>?_)
  have again:∀ {σ7:St} {H7:Hp},Inv X (pins ++ vp fp s5.heap) σ7 H7 s7 -> N σ7 H7 -> ∃ m,m < n /\ ∃ i σ' H',Inv X pins σ' H' s7 /\ tn i s7.heap /\ (∀ b ∈ fp,H' b = none) /\ W i m σ' H':=fun {σ7 H7} I7 n7=>by
   obtain ⟨m',hm,w7⟩:=hN σ7 H7 n7;refine #[m',hm,i + 1,σ7,H7,I7.unpinned,T.keep _ _ _ st5 fun b hb o e=>(I7.pin (b,o) (List.mem_append_right _ (List.mem_append_right _ (yl hb e)))).1,fun b hb=>?_,w7];obtain ⟨o,e,d⟩:=T.obj _ _ st5 b hb;exact (I7.pin (b,o) (List.mem_append_right _ (List.mem_append_right _ (yl hb e)))).2.1
  cases f with
  | next=>obtain ⟨σ7,H7,I7,n7⟩:=q7; exact again I7 n7
  | cont=>obtain ⟨σ7,H7,I7,n7⟩:=q7; exact again I7 n7
  | brk=>obtain ⟨σ7,H7,I7,q7⟩:=q7; exact #[σ7,H7,I7.unpinned,q7]
  | ret v=>obtain ⟨x7,σ7,H7,I7,r7,q7⟩:=q7; exact #[x7,σ7,H7,I7.unpinned,r7,q7]
end
theorem XM {K:PySem.W.Frag} {a:Addr} {xs:List V} {g:TG} {tb:TS} {D:xW} {σ:St} {H:Hp} (Pv:Nat -> St -> Hp -> Prop) (h0:Pv 0 σ H) (hl:∀ i σ H,i <= xs.length -> Pv i σ H -> SqL K H a xs)
  (hs:∀ i x σ H,xs[i]? = some x -> Pv i σ H -> g x σ H fun σ2 H2=>tb { D with nx:=Pv (i + 1),ct:=Pv (i + 1),bk:=D.nx } σ2 H2) (hd:∀ σ H,Pv xs.length σ H -> D.nx σ H) :
  ∃ W:Nat -> Nat -> St -> Hp -> Prop,(∃ m,W 0 m σ H) /\ ∀ i m σ H,W i m σ H ->
   ((Itl K a).stop i H /\ D.nx σ H) \/ ((Itl K a).go i H /\ ∃ N:St -> Hp -> Prop,(∀ σ' H',N σ' H' -> ∃ m',m' < m /\ W (i + 1) m' σ' H') /\ ∀ x H',(Itl K a).yld i H x H' -> g x σ H' fun σ2 H2=>tb { D with nx:=N,ct:=N,bk:=D.nx } σ2 H2):=by
 refine #[fun i m σ H=>m = xs.length - i /\ i <= xs.length /\ Pv i σ H,#[xs.length,by simp,Nat.zero_le _,h0],?_];rintro i m σ H ⟨rfl,hi,p⟩;have q:=hl i σ H hi p;by_cases hlt:i < xs.length
 ·refine .inr #[#[xs,xs[i],q,by simp [hlt]],Pv (i + 1),fun σ' H' p'=>#[xs.length - (i + 1),⋯,rfl,hlt,p'],fun x H' y=>?_];obtain ⟨e,y⟩:=y;subst e;exact hs i x σ _ (y xs q) p
 ·have e:i = xs.length:=⋯;subst e;exact .inl #[#[xs,q,Nat.le_refl _],hd σ H p]
theorem YT {lo:Int} {n:Nat} {g:TG} {tb:TS} {D:xW} {σ:St} {H:Hp} (Pv:Nat -> St -> Hp -> Prop) (h0:Pv 0 σ H)
  (hs:∀ i σ H,i < n -> Pv i σ H -> g (.int (lo + i)) σ H fun σ2 H2=>tb { D with nx:=Pv (i + 1),ct:=Pv (i + 1),bk:=D.nx } σ2 H2) (hd:∀ σ H,Pv n σ H -> D.nx σ H) :
  ∃ W:Nat -> Nat -> St -> Hp -> Prop,(∃ m,W 0 m σ H) /\ ∀ i m σ H,W i m σ H ->
   ((Itr lo n).stop i H /\ D.nx σ H) \/ ((Itr lo n).go i H /\ ∃ N:St -> Hp -> Prop,(∀ σ' H',N σ' H' -> ∃ m',m' < m /\ W (i + 1) m' σ' H') /\ ∀ x H',(Itr lo n).yld i H x H' -> g x σ H' fun σ2 H2=>tb { D with nx:=N,ct:=N,bk:=D.nx } σ2 H2):=by
 refine #[fun i m σ H=>m = n - i /\ i <= n /\ Pv i σ H,#[n,by simp,Nat.zero_le _,h0],?_];rintro i m σ H ⟨rfl,hi,p⟩;by_cases hlt:i < n
 ·refine .inr #[hlt,Pv (i + 1),fun σ' H' p'=>#[n - (i + 1),⋯,rfl,hlt,p'],fun x H' y=>?_];obtain ⟨e,y⟩:=y;subst e y;exact hs i σ _ hlt p
 ·have e:i = n:=⋯;subst e;exact .inl #[Nat.le_refl _,hd σ H p]
end L2
namespace L2
open PySem PySem.Spec PyProof.Rows
noncomputable abbrev R2:=V -> V -> Hp -> VK -> Prop
def OpR (X:Cx) (f:Value -> Value -> Sem Value) (r:R2):Prop :=
 ∀ (pins:List (Addr × Obj)) (s:Shared) (σ:St) (H:Hp) (x y:V) (v u:Value) (Q:VK),Inv X pins σ H s -> RelV x v -> RelV y u -> r x y H Q ->
  wpAny (model X.prog X.w) X.A (f v u) (EP X pins σ Q) X.xe s
def UnR (X:Cx) (f:Value -> Sem Value) (r:V -> Hp -> VK -> Prop):Prop :=
 ∀ (pins:List (Addr × Obj)) (s:Shared) (σ:St) (H:Hp) (x:V) (v:Value) (Q:VK),Inv X pins σ H s -> RelV x v -> r x H Q ->
  wpAny (model X.prog X.w) X.A (f v) (EP X pins σ Q) X.xe s
def wX (X:Cx) (f:Value) (r:List V -> Hp -> VK -> Prop):Prop :=
 ∀ (pins:List (Addr × Obj)) (s:Shared) (σ:St) (H:Hp) (xs:List V) (us:List Value) (Q:VK),Inv X pins σ H s -> Vals xs us -> r xs H Q ->
  wpAny (model X.prog X.w) X.A (call f us) (EP X pins σ Q) X.xe s
def zaa (X:Cx) (r:V -> Hp -> (Bool -> Hp -> Prop) -> Prop):Prop :=
 ∀ (pins:List (Addr × Obj)) (s:Shared) (σ:St) (H:Hp) (x:V) (v:Value) (Q:Bool -> Hp -> Prop),Inv X pins σ H s -> RelV x v -> r x H Q ->
  wpAny (model X.prog X.w) X.A (truthy v) (TP X pins σ Q) X.xe s
def tOp (r:R2) (ta tb:TE):TE:=fun σ H Q=>ta σ H fun x H1=>tb σ H1 fun y H2=>r x y H2 Q
def tUn (r:V -> Hp -> VK -> Prop) (ta:TE):TE:=fun σ H Q=>ta σ H fun x H1=>r x H1 Q
def rI (C:Int -> Int -> Prop) (g:Int -> Int -> V):R2:=fun x y H Q=>onInt x fun i=>onInt y fun j=>C i j /\ Q (g i j) H
def rI0 (g:Int -> Int -> V):R2:=fun x y H Q=>onInt x fun i=>onInt y fun j=>Q (g i j) H
def rU (g:Int -> V):V -> Hp -> VK -> Prop:=fun x H Q=>onInt x fun i=>Q (g i) H
section
variable {X:Cx} {a b c:Expr} {ta tb tc:TE} {pos:Pos}
theorem JK (ha:PE X a ta) (hb:PE X b tb) {pins:List (Addr × Obj)} {s:Shared} {σ:St} {H:Hp} {R:V -> V -> Hp -> Prop} (I:Inv X pins σ H s)
  (h:ta σ H fun x H1=>tb σ H1 fun y H2=>R x y H2) {Q:Value -> Shared -> Prop} {f:Value -> Value -> Sem Value}
  (hf:∀ v u s2 x y H2,Inv X pins σ H2 s2 -> RelV x v -> RelV y u -> R x y H2 -> wpAny (model X.prog X.w) X.A (f v u) Q X.xe s2) :
  wpAny (model X.prog X.w) X.A (eval a X.env) (fun v s₁=>wpAny (model X.prog X.w) X.A (eval b X.env) (fun u s₂=>wpAny (model X.prog X.w) X.A (f v u) Q X.xe s₂) X.xe s₁) X.xe s:=by
 refine thn (ha pins s σ H _ I h) fun v s1=>el5 fun x H1 I1 r1 q1=>?_;refine thn (hb pins s1 σ H1 _ I1 q1) fun u s2=>el5 fun y H2 I2 r2 q2=>?_;exact hf v u s2 x y H2 I2 r1 r2 q2
theorem zr {op:Operator} {r:R2} (ho:OpR X (binaryOp op) r) (ha:PE X a ta) (hb:PE X b tb):PE X (.BinOp a op b pos) (tOp r ta tb):=by
 intro pins s σ H Q I h;exact wpAny_BinOp (JK ha hb I h fun v u s2 x y H2 I2 rx ry q=>ho pins s2 σ H2 x y v u Q I2 rx ry q)
theorem JE {op:UnaryOp} {r:V -> Hp -> VK -> Prop} (ho:UnR X (unaryOp op) r) (ha:PE X a ta):PE X (.UnaryOp op a pos) (tUn r ta):=by
 intro pins s σ H Q I h;exact UnaryOp_ (thn (ha pins s σ H _ I h) fun v s1=>el5 fun x H1 I1 r1 q1=>ho pins s1 σ H1 x v Q I1 r1 q1)
theorem opI {f:Value -> Value -> Sem Value} {C:Int -> Int -> Prop} {g:Int -> Int -> Int}
  (rule:∀ (i j:Int) (t u:Tok) (s:Shared) (Q:Value -> Shared -> Prop) (E:Value -> Shared -> Prop),C i j -> Q (.int (g i j) s.toks) { s with toks:=s.toks + 1 } -> wpAny (model X.prog X.w) X.A (f (.int i t) (.int j u)) Q E s) :
  OpR X f (rI C fun i j=>.int (g i j)):=by
 intro pins s σ H x y v u Q I rx ry h;obtain ⟨i,rfl,h2⟩:=onInt.of h;obtain ⟨j,rfl,hc,q⟩:=onInt.of h2;obtain ⟨t,rfl⟩:=rx;obtain ⟨t',rfl⟩:=ry;exact rule i j t t' s _ _ hc #[.int (g i j),H,I.tok _,#[_,rfl],q]
theorem KF {f:Value -> Value -> Sem Value} {g:Int -> Int -> Int}
  (rule:∀ (i j:Int) (t u:Tok) (s:Shared) (Q:Value -> Shared -> Prop) (E:Value -> Shared -> Prop),Q (.int (g i j) s.toks) { s with toks:=s.toks + 1 } -> wpAny (model X.prog X.w) X.A (f (.int i t) (.int j u)) Q E s) :
  OpR X f (rI0 fun i j=>.int (g i j)):=by
 intro pins s σ H x y v u Q I rx ry h;obtain ⟨i,rfl,h2⟩:=onInt.of h;obtain ⟨j,rfl,q⟩:=onInt.of h2;obtain ⟨t,rfl⟩:=rx;obtain ⟨t',rfl⟩:=ry;exact rule i j t t' s _ _ #[.int (g i j),H,I.tok _,#[_,rfl],q]
theorem Jp {f:Value -> Value -> Sem Value} {g:Int -> Int -> Bool}
  (rule:∀ (i j:Int) (t u:Tok) (s:Shared) (Q:Value -> Shared -> Prop) (E:Value -> Shared -> Prop),Q (.bool (g i j)) s -> wpAny (model X.prog X.w) X.A (f (.int i t) (.int j u)) Q E s) :
  OpR X f (rI0 fun i j=>.bl (g i j)):=by
 intro pins s σ H x y v u Q I rx ry h;obtain ⟨i,rfl,h2⟩:=onInt.of h;obtain ⟨j,rfl,q⟩:=onInt.of h2;obtain ⟨t,rfl⟩:=rx;obtain ⟨t',rfl⟩:=ry;exact rule i j t t' s _ _ #[.bl (g i j),H,I,rfl,q]
def K6 (i j:Int):Prop:=0 < j /\ j < 1073741824
def CMul (i j:Int):Prop:=(-(2 ^ 64) < i /\ i < 2 ^ 64) \/ (-(2 ^ 64) < j /\ j < 2 ^ 64)
theorem CMul.ok {i j:Int} (h:CMul i j):IntMulOk i j:=by
 rcases h with ⟨h1,h2⟩ | ⟨h1,h2⟩
 ·exact .of_left (intBits_le_64 h1 h2)
 ·exact .of_right (intBits_le_64 h1 h2)
theorem z8:OpR X (binaryOp .Add) (rI0 fun i j=>.int (i + j)):=KF fun _ _ _ _ _ _ _ q=>add_int q
theorem vD:OpR X (binaryOp .Sub) (rI0 fun i j=>.int (i - j)):=KF fun _ _ _ _ _ _ _ q=>sub_int q
theorem qA:OpR X (binaryOp .Mult) (rI CMul fun i j=>.int (i * j)):=opI fun _ _ _ _ _ _ _ hc q=>mul_int q hc.ok
theorem yN:OpR X (binaryOp .FloorDiv) (rI K6 fun i j=>.int (i / j)):=opI fun i j _ _ _ _ _ hc q=>by
 have h1:(0:Int) < j:=hc.1;have h2:j < 1073741824:=hc.2;exact floordiv_int ⋯ (by rw [Int.fdiv_eq_ediv_of_nonneg i ⋯]; exact q) (.inl (PyProof.noPylong_small ⋯))
theorem yG:OpR X (binaryOp .Mod) (rI (fun _ j=>0 < j) fun i j=>.int (i % j)):=opI fun i j _ _ _ _ _ hc q=>by
 have h1:(0:Int) < j:=hc;exact mod_int' ⋯ (by rw [Int.fmod_eq_emod_of_nonneg i ⋯]; exact q)
theorem unI {f:Value -> Sem Value} {g:Int -> Int}
  (rule:∀ (i:Int) (t:Tok) (s:Shared) (Q:Value -> Shared -> Prop) (E:Value -> Shared -> Prop),Q (.int (g i) s.toks) { s with toks:=s.toks + 1 } -> wpAny (model X.prog X.w) X.A (f (.int i t)) Q E s) :
  UnR X f (rU fun i=>.int (g i)):=by
 intro pins s σ H x v Q I rx h;obtain ⟨i,rfl,q⟩:=onInt.of h;obtain ⟨t,rfl⟩:=rx;exact rule i t s _ _ #[.int (g i),H,I.tok _,#[_,rfl],q]
theorem Je:UnR X (unaryOp .USub) (rU fun i=>.int (-i)):=unI fun _ _ _ _ _ q=>neg_int q
end
noncomputable def We:V -> V -> Bool
 | .non,.non=>true | .non,.int _=>true | .int _,.non=>true | .non,.bl _=>true | .bl _,.non=>true | .non,.str _=>true | .str _,.non=>true
 | .int _,.int _=>true | .bl _,.bl _=>true | .str _,.str _=>true | .byt _,.byt _=>true
 | .int _,.str _=>true | .str _,.int _=>true | .bl _,.str _=>true | .str _,.bl _=>true
 | _,_=>false
def rEq:R2:=fun x y H Q=>match x,y with | .int a,.int b=>Q (.bl (decide (a = b))) H | .str a,.str b=>Q (.bl (decide (a = b))) H | x,y=>We x y = true /\ Q (.bl (decide (x = y))) H
theorem rEq_is {x y:V} {H:Hp} {Q:VK}:rEq x y H Q =(We x y = true /\ Q (.bl (decide (x = y))) H):=by
 cases x <;> cases y <;> first | rfl | (show Q _ H =(true = true /\ Q _ H); rw [eq_self,true_and]; congr 2; exact decide_eq_decide.mpr #[fun h=>by rw [h],fun h=>by cases h; rfl])
def rNe:R2:=fun x y H Q=>match x,y with | .int a,.int b=>Q (.bl (!decide (a = b))) H | .str a,.str b=>Q (.bl (!decide (a = b))) H | x,y=>We x y = true /\ Q (.bl (!decide (x = y))) H
theorem rNe_is {x y:V} {H:Hp} {Q:VK}:rNe x y H Q =(We x y = true /\ Q (.bl (!decide (x = y))) H):=by
 cases x <;> cases y <;> first | rfl | (show Q _ H =(true = true /\ Q _ H); rw [eq_self,true_and]; congr 2; congr 1; exact decide_eq_decide.mpr #[fun h=>by rw [h],fun h=>by cases h; rfl])
theorem YM {i j:Int}:decide (V.int i = V.int j) =(i == j):=by
 rw [Bool.eq_iff_iff];simp
theorem Wy {i j:Bool}:decide (V.bl i = V.bl j) =(i == j):=by
 rw [Bool.eq_iff_iff];simp
theorem Yd {i j:Str}:decide (V.str i = V.str j) =(i == j):=by
 rw [Bool.eq_iff_iff];simp
theorem ZN {i j:Array UInt8}:decide (V.byt i = V.byt j) =(i.toList == j.toList):=by
 rw [Bool.eq_iff_iff];cases i;cases j;simp
section
variable {X:Cx} {a b c:Expr} {ta tb tc:TE} {pos:Pos}
theorem zG {pins:List (Addr × Obj)} {σ:St} {H:Hp} {s:Shared} {Q:VK} {k k':Bool} (I:Inv X pins σ H s) (q:Q (.bl k) H) (e:k = k'):EP X pins σ Q (.bool k') s:=by
 subst e;exact #[.bl k,H,I,rfl,q]
theorem Yn:OpR X (compareOp .Eq) rEq:=by
 intro pins s σ H x y v u Q I rx ry h;obtain ⟨hs,q⟩:=rEq_is.mp h
 cases x with
 | non =>
  cases rx
  cases y with
  | non=>cases ry; exact PySem.EqNone.eq_none_none (zG I q (by simp))
  | bl j=>cases ry; exact PySem.EqNone.eq_none_bool (zG I q (by simp))
  | int j=>obtain ⟨t',rfl⟩:=ry; exact PySem.EqNone.eq_none_int (zG I q (by simp))
  | str j=>obtain ⟨t',rfl⟩:=ry; exact PySem.EqNone.eq_none_str (zG I q (by simp))
  | _=>exact absurd (show false = true from hs) Bool.false_ne_true
 | bl i =>
  cases rx
  cases y with
  | non=>cases ry; exact PySem.EqNone.eq_bool_none (zG I q (by simp))
  | bl j=>cases ry; exact eq_bool (zG I q Wy)
  | str j=>obtain ⟨t',rfl⟩:=ry; exact PySem.EqMixed.eq_bool_str (zG I q (by simp))
  | _=>exact absurd (show false = true from hs) Bool.false_ne_true
 | int i =>
  obtain ⟨t,rfl⟩:=rx
  cases y with
  | non=>cases ry; exact PySem.EqNone.eq_int_none (zG I q (by simp))
  | int j=>obtain ⟨t',rfl⟩:=ry; exact eq_int (zG I q YM)
  | str j=>obtain ⟨t',rfl⟩:=ry; exact PySem.EqMixed.eq_int_str (zG I q (by simp))
  | _=>exact absurd (show false = true from hs) Bool.false_ne_true
 | str i =>
  obtain ⟨t,rfl⟩:=rx
  cases y with
  | non=>cases ry; exact PySem.EqNone.eq_str_none (zG I q (by simp))
  | bl j=>cases ry; exact PySem.EqMixed.eq_str_bool (zG I q (by simp))
  | int j=>obtain ⟨t',rfl⟩:=ry; exact PySem.EqMixed.eq_str_int (zG I q (by simp))
  | str j=>obtain ⟨t',rfl⟩:=ry; exact eq_str (zG I q Yd)
  | _=>exact absurd (show false = true from hs) Bool.false_ne_true
 | byt i =>
  obtain ⟨t,rfl⟩:=rx
  cases y with
  | byt j=>obtain ⟨t',rfl⟩:=ry; exact PySem.W.eq_bytes (zG I q ZN)
  | _=>exact absurd (show false = true from hs) Bool.false_ne_true
 | _=>cases y <;> exact absurd (show false = true from hs) Bool.false_ne_true
theorem Vm:OpR X (compareOp .NotEq) rNe:=by
 intro pins s σ H x y v u Q I rx ry h;obtain ⟨hs,q⟩:=rNe_is.mp h
 cases x with
 | non =>
  cases rx
  cases y with
  | non=>cases ry; exact PySem.EqNone.ne_none_none (zG I q (by simp))
  | bl j=>cases ry; exact PySem.EqNone.ne_none_bool (zG I q (by simp))
  | int j=>obtain ⟨t',rfl⟩:=ry; exact PySem.EqNone.ne_none_int (zG I q (by simp))
  | str j=>obtain ⟨t',rfl⟩:=ry; exact PySem.EqNone.ne_none_str (zG I q (by simp))
  | _=>exact absurd (show false = true from hs) Bool.false_ne_true
 | bl i =>
  cases rx
  cases y with
  | non=>cases ry; exact PySem.EqNone.ne_bool_none (zG I q (by simp))
  | bl j=>cases ry; exact ne_bool (zG I q (congrArg not Wy))
  | str j=>obtain ⟨t',rfl⟩:=ry; exact PySem.EqMixed.ne_bool_str (zG I q (by simp))
  | _=>exact absurd (show false = true from hs) Bool.false_ne_true
 | int i =>
  obtain ⟨t,rfl⟩:=rx
  cases y with
  | non=>cases ry; exact PySem.EqNone.ne_int_none (zG I q (by simp))
  | int j=>obtain ⟨t',rfl⟩:=ry; exact ne_int (zG I q (congrArg not YM))
  | str j=>obtain ⟨t',rfl⟩:=ry; exact PySem.EqMixed.ne_int_str (zG I q (by simp))
  | _=>exact absurd (show false = true from hs) Bool.false_ne_true
 | str i =>
  obtain ⟨t,rfl⟩:=rx
  cases y with
  | non=>cases ry; exact PySem.EqNone.ne_str_none (zG I q (by simp))
  | bl j=>cases ry; exact PySem.EqMixed.ne_str_bool (zG I q (by simp))
  | int j=>obtain ⟨t',rfl⟩:=ry; exact PySem.EqMixed.ne_str_int (zG I q (by simp))
  | str j=>obtain ⟨t',rfl⟩:=ry; exact ne_str (zG I q (congrArg not Yd))
  | _=>exact absurd (show false = true from hs) Bool.false_ne_true
 | byt i =>
  obtain ⟨t,rfl⟩:=rx
  cases y with
  | byt j=>obtain ⟨t',rfl⟩:=ry; exact PySem.W.ne_bytes (zG I q (congrArg not ZN))
  | _=>exact absurd (show false = true from hs) Bool.false_ne_true
 | _=>cases y <;> exact absurd (show false = true from hs) Bool.false_ne_true
theorem V7:OpR X (compareOp .Lt) (rI0 fun i j=>.bl (decide (i < j))):=Jp fun _ _ _ _ _ _ _ q=>lt_int q
theorem J1:OpR X (compareOp .LtE) (rI0 fun i j=>.bl (decide (i <= j))):=Jp fun _ _ _ _ _ _ _ q=>le_int q
theorem Wc:OpR X (compareOp .Gt) (rI0 fun i j=>.bl (decide (j < i))):=Jp fun _ _ _ _ _ _ _ q=>gt_int q
theorem Jz:OpR X (compareOp .GtE) (rI0 fun i j=>.bl (decide (j <= i))):=Jp fun _ _ _ _ _ _ _ q=>ge_int q
theorem Vt:OpR X (compareOp .IsNot) (fun x y H Q=>y = .non /\ Q (.bl (!decide (x = .non))) H):=by
 intro pins s σ H x y v u Q I rx ry h;obtain ⟨rfl,q⟩:=h;cases ry;refine isnot_none_gen (zG I q ?_)
 cases x <;> first
  | (cases rx; rfl)
  | (obtain ⟨t,rfl⟩:=rx; rfl)
theorem zP (b:Expr) {op:CmpOp} (h:op ≠ .In:=by decide) (h2:op ≠ .NotIn:=by decide):behindInMarks op b = false:=by
 have e1:(op == CmpOp.In) = false:=by cases op <;> first | rfl | exact absurd rfl h
 have e2:(op == CmpOp.NotIn) = false:=by cases op <;> first | rfl | exact absurd rfl h2
 cases b <;> simp [behindInMarks,e1,e2]
theorem vJ {op:CmpOp} {r:R2} (ho:OpR X (compareOp op) r) (ha:PE X a ta) (hb:PE X b tb) (hm:behindInMarks op b = false):PE X (.Compare a [op] [b] pos) (tOp r ta tb):=by
 intro pins s σ H Q I h;exact wpAny_Compare1 (JK ha hb I h fun v u s2 x y H2 I2 rx ry q=>ho pins s2 σ H2 x y v u Q I2 rx ry q) hm
def YB (t:TE):TT:=fun σ H Q=>t σ H fun x H'=>onBl x fun k=>Q k H'
theorem zK {op:CmpOp} {r:R2} (ho:OpR X (compareOp op) r) (ha:PE X a ta) (hb:PE X b tb) (hm:behindInMarks op b = false):PT X (.Compare a [op] [b] pos) (YB (tOp r ta tb)):=by
 intro pins s σ H Q I h
 refine wpAny_isTrue_Compare1 (thn (ha pins s σ H _ I h) fun v s1=>el5 fun x H1 I1 r1 q1=>thn (hb pins s1 σ H1 _ I1 q1) fun u s2=>el5 fun y H2 I2 r2 q2 =>
  thn (ho pins s2 σ H2 x y v u _ I2 r1 r2 q2) fun c s3=>el5 fun z H3 I3 r3 q3=>?_) hm
 obtain ⟨k,rfl,q3⟩:=onBl.of q3;cases r3;exact wpAny_truthy_bool #[H3,I3,q3]
def qx (r r':R2) (ta tb tc:TE):TE:=fun σ H Q=>ta σ H fun x H1=>tb σ H1 fun y H2=>r x y H2 fun z H3=>onBl z fun k =>
 (if k = true then tc σ H3 fun w' H4=>r' y w' H4 Q else Q (.bl false) H3)
theorem Xp {op op':CmpOp} {r r':R2} (ho:OpR X (compareOp op) r) (ho':OpR X (compareOp op') r') (ha:PE X a ta) (hb:PE X b tb) (hc:PE X c tc)
  (hm:lastMarks [op,op'] [b,c] = false:=by with_unfolding_all rfl):PE X (.Compare a [op,op'] [b,c] pos) (qx r r' ta tb tc):=by
 intro pins s σ H Q I h
 refine Compare_chain (thn (ha pins s σ H _ I h) fun v s1=>el5 fun x H1 I1 r1 q1=>chain_link (thn (hb pins s1 σ H1 _ I1 q1) fun u s2=>el5 fun y H2 I2 r2 q2 =>
  thn (ho pins s2 σ H2 x y v u _ I2 r1 r2 q2) fun d s3=>el5 fun z H3 I3 r3 q3=>?_)) hm
 obtain ⟨k,rfl,q3⟩:=onBl.of q3;cases r3;refine wpAny_truthy_bool ?_
 cases k with
 | false=>exact ite_ff #[.bl false,H3,I3,rfl,q3]
 | true=>exact ite_tt (chain_last (thn (hc pins s3 σ H3 _ I3 q3) fun w' s4=>el5 fun z' H4 I4 r4 q4=>ho' pins s4 σ H4 y z' u w' Q I4 r2 r4 q4))
theorem jT {op op':CmpOp} {r r':R2} (ho:OpR X (compareOp op) r) (ho':OpR X (compareOp op') r') (ha:PE X a ta) (hb:PE X b tb) (hc:PE X c tc)
  (hm:lastMarks [op,op'] [b,c] = false:=by with_unfolding_all rfl):PT X (.Compare a [op,op'] [b,c] pos) (YB (qx r r' ta tb tc)):=by
 intro pins s σ H Q I h
 refine isTrue_chain (thn (ha pins s σ H _ I h) fun v s1=>el5 fun x H1 I1 r1 q1=>test_link (thn (hb pins s1 σ H1 _ I1 q1) fun u s2=>el5 fun y H2 I2 r2 q2 =>
  thn (ho pins s2 σ H2 x y v u _ I2 r1 r2 q2) fun d s3=>el5 fun z H3 I3 r3 q3=>?_)) hm
 obtain ⟨k,rfl,q3⟩:=onBl.of q3;cases r3;refine wpAny_truthy_bool ?_
 cases k with
 | false =>
  exact ite_ff #[H3,I3,q3]
 | true =>
  refine ite_tt (test_last (thn (hc pins s3 σ H3 _ I3 q3) fun w' s4=>el5 fun z' H4 I4 r4 q4=>thn (ho' pins s4 σ H4 y z' u w' _ I4 r2 r4 q4) fun d' s5=>el5 fun z2 H5 I5 r5 q5=>?_));obtain ⟨k2,rfl,q5⟩:=onBl.of q5;cases r5;exact wpAny_truthy_bool #[H5,I5,q5]
def Qs (K:PySem.W.Frag) (x:V) (H:Hp) (k:Bool):Prop :=
 match x with
 | .non=>k = false
 | .bl b=>k = b
 | .int i=>k =(i != 0)
 | .str y=>y.length <= sizeLine /\ k =((y.length:Int) != 0)
 | .byt y=>y.size <= sizeLine /\ k =((y.size:Int) != 0)
 | .ref p=>(∃ xs,SqL K H p xs /\ k = !xs.isEmpty) \/ (∃ xs,SqT K H p xs /\ k = !xs.isEmpty) \/ ∃ kvs,H p = some (.dK kvs) /\ k = !kvs.isEmpty
 | _=>False
theorem kB {κ:Type} {kvs:List (κ × V)} {vs:List (κ × Value)} (r:KV kvs vs):(!vs.isEmpty) = !kvs.isEmpty:=by
 cases r <;> rfl
theorem vx {xs:List V} {its:List Value} (r:Vals xs its):(!its.toArray.isEmpty) = !xs.isEmpty:=by
 cases r <;> simp
theorem qp:(sizeLine:Nat) < 2 ^ 63:=by rw [sizeLine_eq]; decide
theorem WD:zaa X (fun x H Q=>∃ k,Qs X.K x H k /\ Q k H):=by
 intro pins s σ H x v Q I rx h;obtain ⟨k,e,q⟩:=h;have hl:=qp;have hs:sizeLine = 16777216:=sizeLine_eq
 cases x with
 | non =>
  cases rx;have e':k = false:=e;subst e';exact truthy_none #[H,I,q]
 | bl b =>
  cases rx;have e':k = b:=e;subst e';exact wpAny_truthy_bool #[H,I,q]
 | int i =>
  obtain ⟨t,rfl⟩:=rx;have e':k =(i != 0):=e;subst e';exact PySem.P.truthy_int #[H,I,q]
 | str y =>
  obtain ⟨t,rfl⟩:=rx;obtain ⟨hy,e'⟩:y.length <= sizeLine /\ k =((y.length:Int) != 0):=e;subst e';exact PySem.P.truthy_str ⋯ #[H,I.tok _,q]
 | byt y =>
  obtain ⟨t,rfl⟩:=rx;obtain ⟨hy,e'⟩:y.size <= sizeLine /\ k =((y.size:Int) != 0):=e;subst e';exact PySem.W.truthy_bytes ⋯ #[H,I.tok _,q]
 | ref p =>
  cases rx;have e':(∃ xs,SqL X.K H p xs /\ k = !xs.isEmpty) \/ (∃ xs,SqT X.K H p xs /\ k = !xs.isEmpty) \/ ∃ kvs,H p = some (.dK kvs) /\ k = !kvs.isEmpty:=e;rcases e' with ⟨xs,hx,e'⟩ | ⟨xs,hx,e'⟩ | ⟨kvs,hx,e'⟩
  ·subst e';obtain ⟨its,r,pl,hz⟩:=I.list hx;have hlen:=r.length;exact wpAny_truthy_list pl.isList (by simp only [List.size_toArray]; lia) #[H,I.tok _,by rw [vx r]; exact q]
  ·subst e';obtain ⟨its,r,pl,hz⟩:=I.tuple hx;have hlen:=r.length;exact truthy_tuple pl (by simp only [List.size_toArray]; lia) #[H,I.tok _,by rw [vx r]; exact q]
  ·subst e';obtain ⟨hz,hS,vs,r,m⟩:kvs.length <= sizeLine /\ (p == sysModules) = false /\ ∃ vs,KV kvs vs /\ s.heap.DictOf (je X.prog X.w) p vs:=I.hok p _ hx;have hlen:kvs.length = vs.length:=Paired.length r;exact wpAny_truthy_dict hS m ⋯ #[H,I.tok _,by rw [kB r]; exact q]
 | _=>exact (show False from e).elim
theorem jJ (ha:PE X a ta) (he:∀ whole,isTrue a X.env whole =(do let v <- whole; standAt a.pos; holding [v] (truthy v))) :
  PT X a (fun σ H Q=>ta σ H fun x H'=>∃ k,Qs X.K x H' k /\ Q k H'):=by
 intro pins s σ H Q I h;exact isTrue_plain (thn (ha pins s σ H _ I h) fun v s1=>el5 fun x H1 I1 r1 q1=>WD pins s1 σ H1 x v Q I1 r1 q1) (he _)
theorem yc:OpR X (binaryOp .Add) (fun x y H Q=>∃ i j,x = .str i /\ y = .str j /\ i.length + j.length <= sizeLine /\ Q (.str (i ++ j)) H):=by
 intro pins s σ H x y v u Q I rx ry h;obtain ⟨i,j,rfl,rfl,hz,q⟩:=h;obtain ⟨t,rfl⟩:=rx;obtain ⟨t',rfl⟩:=ry;exact add_str (fun t' tk=>#[.str (i ++ j),H,I.tok _,#[_,rfl],q]) hz
theorem xa {x:V} {us:List Value} (r:Vals [x] us):∃ u,us = [u] /\ RelV x u:=by
 cases r with
 | cons r1 r2=>cases r2; exact #[_,rfl,r1]
theorem X8 {x y:V} {us:List Value} (r:Vals [x,y] us):∃ u w',us = [u,w'] /\ RelV x u /\ RelV y w':=by
 cases r with
 | cons r1 r2 =>
  cases r2 with
  | cons r3 r4=>cases r4; exact #[_,_,rfl,r1,r3]
theorem Yz (hc:X.calm = true):wX X (.builtin "max") (fun xs H Q=>∃ i j,xs = [.int i,.int j] /\ Q (.int (if j > i then j else i)) H):=by
 intro pins s σ H xs us Q I r h;obtain ⟨i,j,rfl,q⟩:=h;obtain ⟨u,w',rfl,⟨t,rfl⟩,⟨t',rfl⟩⟩:=X8 r;refine max_two_ints (I.ok.hd hc) fun h' tk k=>#[_,H,I.kept k,?_,q];by_cases hj:j > i
 ·rw [if_pos hj,if_pos hj]; exact #[_,rfl]
 ·rw [if_neg hj,if_neg hj]; exact #[_,rfl]
def Qk (K:PySem.W.Frag) (x:V) (H:Hp) (n:Nat):Prop :=
 match x with
 | .str y=>y.length <= sizeLine /\ n = y.length
 | .byt y=>y.size <= sizeLine /\ n = y.size
 | .ref p=>(∃ xs,SqL K H p xs /\ n = xs.length) \/ ∃ xs,SqT K H p xs /\ n = xs.length
 | _=>False
theorem Y7:wX X (.builtin "len") (fun xs H Q=>∃ x n,xs = [x] /\ Qk X.K x H n /\ Q (.int n) H):=by
 intro pins s σ H xs us Q I r h;obtain ⟨x,n,rfl,e,q⟩:=h;obtain ⟨u,rfl,rx⟩:=xa r;have hl:=qp;have hs:sizeLine = 16777216:=sizeLine_eq
 cases x with
 | str y =>
  obtain ⟨t,rfl⟩:=rx;obtain ⟨hy,e'⟩:y.length <= sizeLine /\ n = y.length:=e;subst e';exact len_str ⋯ #[.int _,H,I.tok _,#[_,rfl],q]
 | byt y =>
  obtain ⟨t,rfl⟩:=rx;obtain ⟨hy,e'⟩:y.size <= sizeLine /\ n = y.size:=e;subst e';exact PySem.W.len_bytes ⋯ #[.int _,H,I.tok _,#[_,rfl],q]
 | ref p =>
  cases rx;have e':(∃ xs,SqL X.K H p xs /\ n = xs.length) \/ ∃ xs,SqT X.K H p xs /\ n = xs.length:=e;rcases e' with ⟨xs,hx,e'⟩ | ⟨xs,hx,e'⟩
  ·subst e';obtain ⟨its,r',pl,hz⟩:=I.list hx;have hlen:=r'.length;exact Calls.call_len_list pl.isList (by simp only [List.size_toArray]; lia) #[.int xs.length,H,I.tok _,#[_,by simp only [List.size_toArray]; rw [hlen]],q]
  ·subst e';obtain ⟨its,r',pl,hz⟩:=I.tuple hx;have hlen:=r'.length;exact len_tuple pl (by simp only [List.size_toArray]; lia) #[.int xs.length,H,I.tok _,#[_,by simp only [List.size_toArray]; rw [hlen]],q]
 | _=>exact (show False from e).elim
end
end L2
namespace L2
open PySem PySem.Spec PyProof.Rows
structure ObjM (h:Heap) (x dx C:Addr) (mA:Str -> Option Value):Prop where
 obj:h.get? x = some (PySem.W.instObj C dx)
 ns:h.Ns1 dx mA
 ne:dx ≠ x
theorem Yj {h:Heap} {dx:Addr} {mA:Str -> Option Value} (n:h.Ns1 dx mA):∃ od,h.get? dx = some od /\ ∀ name,PySem.W.lookIn name od = some (mA name):=by
 obtain ⟨o,es,ep,ho,hd,hk,_,hm⟩:=n;refine #[o,ho,fun name=>?_];have e:=hm name;unfold nsFind findBy at e;rw [<- Array.find?_toList]at e;unfold PySem.W.lookIn;rw [hd];dsimp only;split
 ·rename_i y q;rw [q]at e;exact congrArg some e
 ·rename_i q;rw [q]at e
  have a:es.toList.any (·.refKey) = false:=by
   rw [List.any_eq_false];intro y hy;obtain ⟨z,t,hkey⟩:=hk y (Array.mem_toList_iff.mp hy);simp [DictEntry.refKey,hkey]
  have a':¬ es.toList.any (·.refKey) = true:=by rw [a]; exact Bool.false_ne_true
  rw [if_neg a'];exact congrArg some e
theorem ObjM.look {h:Heap} {x dx C:Addr} {mA:Str -> Option Value} (I:ObjM h x dx C mA):∃ od,PySem.W.InstAt h x (PySem.W.instObj C dx) C (some od) /\ ∀ name,PySem.W.lookIn name od = some (mA name) :=
 let #[od,ho,hl]:=Yj I.ns
 #[od,#[I.obj,rfl,rfl,ho],hl]
section
variable {prog:Program} {w:World} {A:Around} {E:Value -> Shared -> Prop} {s:Shared} {K:PySem.W.Frag} {x dx C f:Addr} {mA:Str -> Option Value} {name:Str} {v:Value}
theorem UO {expr:Bool} {Q:Value -> Shared -> Prop} (X:K.In s.heap) (I:ObjM s.heap x dx C mA) (hg:PySem.W.plainGet K C name = true) (hh:PySem.W.hasDictIn K C = true)
  (ha:PySem.W.findIn K (.ref C) name = some none) (hv:mA name = some v) (hv':PySem.W.handedIn v = true) (h:Q v { s with toks:=s.toks + 1 }) :
  wpAny (model prog w) A (getAttr (.ref x) name expr) Q E s:=by
 obtain ⟨od,J,hl⟩:=I.look;exact PySem.W.get_value X J (PySem.W.plainGet_of hg).1 (PySem.W.findObj_own hh ha rfl (by rw [hl,hv])) hv' h
theorem Y8 {pl:Sem Bool} {Q:Value × List Value -> Shared -> Prop} (X:K.In s.heap) (I:ObjM s.heap x dx C mA) (hg:PySem.W.plainGet K C name = true)
  (hf:PySem.W.findIn K (.ref C) name = some (some (.ref f))) (ht:PySem.W.isFn K (.ref f) = true) (hv:mA name = none) (h:Q (.ref f,[.ref x]) s) :
  wpAny (model prog w) A (getMethod (.ref x) name pl) Q E s:=by
 obtain ⟨od,J,hl⟩:=I.look;exact PySem.W.method_fn X J (PySem.W.plainGet_of hg).1 (PySem.W.plainGet_of hg).2 hf (beq_iff_eq.mp ht) (by show (PySem.W.lookIn name od).map (·.isSome) = some false; rw [hl,hv]; rfl) h
theorem Uq {ns:List Str} {Q:Unit -> Shared -> Prop} (X:K.In s.heap) (I:ObjM s.heap x dx C mA)
  (hs:PySem.W.findIn K (.ref C) "__setattr__" = some (some (.builtin "object.__setattr__"))) (hp:PySem.W.plainOver K C = true) (ht:PySem.W.takerIn K C name = some none) (hh:PySem.W.hasDictIn K C = true)
  (hw:PySem.Within mA ns) (hsz:ns.length <= sizeLine)
  (h:∀ h',ObjM h' x dx C (fun y=>if y = name then some v else mA y) -> Heap.SameBut dx s.heap h' -> Q Unit.unit { s with heap:=h',toks:=s.toks + 2 }) :
  wpAny (model prog w) A (setAttr (.ref x) name v) Q E s:=by
 obtain ⟨od,J,hl⟩:=I.look;refine PySem.W.set_plain X J hs (PySem.W.osa_open (s:={ s with toks:=s.toks + 1 }) (r:=none) X J hp ht fun b=>?_);obtain ⟨cd,hc,hd'⟩:=PySem.W.any_some hh;have hx:s.heap.get? x = some #[.ref C,some dx,.plain,#[]]:=I.obj;refine wpAny_bind (wpAny_pure (wpAny_bind (wpAny_bind (wpAny_loadPart hx (wpAny_bind (PySem.W.Looks.here (s:={ s with toks:=s.toks + 1 }) (PySem.W.looks_clsIn X hc) ?_))))));rw [hd'];refine wpAny_pure (a:=some dx) (wpAny_bind (wpAny_pure (wpAny_bind ?_)));refine wpAny_nsSet1 (s:={ s with toks:=s.toks + 1 }) I.ns fun h' hn2 hs2=>?_;obtain ⟨oD,esD,epD,hoD,hdD,hcD⟩:=hn2.count (PySem.Within.cons name v hw);refine wpAny_bind (wpAny_lookBehind hoD (by rw [hdD]; exact pastItsLine_dict (Nat.le_trans hcD (by rw [List.length_cons]; lia))) ?_);exact wpAny_pure (h _ #[(hs2.2 _ (Ne.symm I.ne)).trans I.obj,hn2,I.ne] hs2)
theorem Wh {R:Result -> Shared -> Prop} {vs:List Value} {kw:List (Str × Value)} (X:K.In s.heap) (hm:PySem.W.makesIn K C = true)
  (hi:PySem.W.findIn K (.ref C) "__init__" = some (some (.ref f))) (hf:PySem.W.typeIn K (.ref f) = some (.type "function"))
  (h:codeAny (model prog w) (A.under (.builtin "type.__call__" #[.ref C :: vs,kw])) (.call (.ref f) #[.ref (s⁻¹ + 1) :: vs,kw]) (PySem.W.InitBack (s⁻¹ + 1) R)
   { s with heap:=(s.heap.push PySem.W.emptyDict).push (PySem.W.instObj C s⁻¹) }) :
  codeAny (model prog w) A (.call (.ref C) #[vs,kw]) R s:=by
 obtain ⟨hh,g,d,t,os⟩:=s;exact PySem.W.make_core (PySem.W.makes_of X hm) (PySem.W.looks_findIn X hi) (fun self=>PySem.W.bind_fn X self hf) (.inl rfl) h
end
noncomputable def uV (f:Str) (v:V):List (Str × V) -> List (Str × V)
  | []=>[(f,v)]
  | (g,x) :: r=>if g = f then (g,v) :: r else (g,x) :: uV f v r
theorem vc (f g:Str) (v:V):∀ fs:List (Str × V),(uV f v fs).lookup g = if g = f then some v else fs.lookup g
  | []=>by
    show List.lookup g [(f,v)] = _;by_cases h:g = f
    · have hb:(g == f) = true:=beq_iff_eq.mpr h;simp only [List.lookup,hb,if_pos h]
    · have hb:(g == f) = false:=beq_eq_false_iff_ne.mpr h;simp only [List.lookup,hb,if_neg h]
  | (k,x) :: r=>by
    have ih:=vc f g v r;rw [show uV f v ((k,x) :: r) =(if k = f then (k,v) :: r else (k,x) :: uV f v r)from rfl];by_cases hk:k = f
    · rw [if_pos hk];by_cases h:g = k
      · have hb:(g == k) = true:=beq_iff_eq.mpr h;simp only [List.lookup,hb,if_pos (h.trans hk)]
      · have hb:(g == k) = false:=beq_eq_false_iff_ne.mpr h;simp only [List.lookup,hb,if_neg (fun e:g = f=>h (e.trans hk.symm))]
    · rw [if_neg hk];by_cases h:g = k
      · have hb:(g == k) = true:=beq_iff_eq.mpr h;simp only [List.lookup,hb,if_neg (fun e:g = f=>hk (h.symm.trans e))]
      · have hb:(g == k) = false:=beq_eq_false_iff_ne.mpr h;simp only [List.lookup,hb];exact ih
theorem w4 (f:Str) (v:V):∀ fs:List (Str × V),f ∈ (uV f v fs).map (·.1) /\ ∀ g,g ∈ fs.map (·.1) -> g ∈ (uV f v fs).map (·.1)
  | []=>#[by simp [uV],fun g h=>by simp at h]
  | (k,x) :: r=>by
    obtain ⟨i1,i2⟩:=w4 f v r;rw [show uV f v ((k,x) :: r) =(if k = f then (k,v) :: r else (k,x) :: uV f v r)from rfl];by_cases hk:k = f
    · rw [if_pos hk];subst hk;exact #[by simp,fun g h=>by simpa using h]
    · rw [if_neg hk];refine #[?_,fun g h=>?_]
      · rw [List.map_cons];exact List.mem_cons_of_mem _ i1
      · rw [List.map_cons]at h ⊢;rcases ac.mp h with e | e
        · exact ac.mpr (.inl e)
        · exact List.mem_cons_of_mem _ (i2 g e)
theorem wP (f:Str) (v:V):∀ fs:List (Str × V),(uV f v fs).length <= fs.length + 1
  | []=>by simp [uV]
  | (k,x) :: r=>by
    have ih:=wP f v r;rw [show uV f v ((k,x) :: r) =(if k = f then (k,v) :: r else (k,x) :: uV f v r)from rfl];by_cases hk:k = f
    · rw [if_pos hk,List.length_cons,List.length_cons]; lia
    · rw [if_neg hk,List.length_cons,List.length_cons]; lia
theorem RelO.some_of {v:V} {o:Option Value} (r:RelO (some v) o):∃ u,o = some u /\ RelV v u:=by
 cases o with
 | none=>exact (show False from r).elim
 | some u=>exact #[u,rfl,r]
theorem RelO.none_of {o:Option Value} (r:RelO none o):o = none:=by
 cases o with
 | none=>rfl
 | some u=>exact (show False from r).elim
theorem Yg {v:V} {u:Value} (r:RelV v u):PySem.W.handedIn u = true:=by
 cases v with
 | non=>cases (show u = Value.none from r); rfl
 | bl b=>cases (show u = Value.bool b from r); rfl
 | int i=>obtain ⟨t,e⟩:=(show ∃ t,u = Value.int i t from r); cases e; rfl
 | str x=>obtain ⟨t,e⟩:=(show ∃ t,u = Value.str x t from r); cases e; rfl
 | byt b=>obtain ⟨t,e⟩:=(show ∃ t,u = Value.bytes b t from r); cases e; rfl
 | flt b=>obtain ⟨t,e⟩:=(show ∃ t,u = Value.float b t from r); cases e; rfl
 | ref a=>cases (show u = Value.ref a from r); rfl
 | ty n=>cases (show u = Value.type n from r); rfl
section
variable {P:Program} {w:World} {H H':Hp} {h h':Heap} {a C dx:Addr} {fs fs':List (Str × V)}
theorem vL (hok:HOk P w H h) (e:H a = some (.ins C dx fs)):∃ mA,ObjM h a dx C mA /\ (∀ f,RelO (fs.lookup f) (mA f)) /\ PySem.Within mA (fs.map (·.1)) /\ fs.length <= 1000 /\ H dx = some (.own a):=by
 obtain ⟨d,z,ne,ob,mA,n,r,q⟩:=(show ObjOk P w H h a (.ins C dx fs)from hok a _ e);exact #[mA,#[ob,n,ne],r,q,z,d]
end
structure Cls (K:PySem.W.Frag) (C:Addr):Prop where
 pg:PySem.W.plainGet K C Str.empty = true
 hd:PySem.W.hasDictIn K C = true
 po:PySem.W.plainOver K C = true
 sa:PySem.W.findIn K (.ref C) "__setattr__" = some (some (.builtin "object.__setattr__"))
theorem Cls.get {K:PySem.W.Frag} {C:Addr} (c:Cls K C) (f:Str):PySem.W.plainGet K C f = true:=c.pg
def NoAttr (K:PySem.W.Frag) (C:Addr) (f:Str):Prop:=PySem.W.findIn K (.ref C) f = some none
theorem NoAttr.taker {K:PySem.W.Frag} {C:Addr} {f:Str} (n:NoAttr K C f):PySem.W.takerIn K C f = some none:=by
 unfold PySem.W.takerIn;rw [show PySem.W.findIn K (.ref C) f = some none from n];rfl
structure U5 (K:PySem.W.Frag) (C:Addr) (m:Str) (f:Addr):Prop where
 at_:PySem.W.findIn K (.ref C) m = some (some (.ref f))
 fn:PySem.W.isFn K (.ref f) = true
 kp:PySem.W.keepIn K (.ref f) = true
section
variable {X:Cx} {pins:List (Addr × Obj)} {σ:St} {H:Hp} {s:Shared} {a C dx:Addr} {fs:List (Str × V)} {f:Str} {v:V} {A:Around} {E:Value -> Shared -> Prop}
theorem kJ {b:Bool} {Q:Value -> Shared -> Prop} (I:Inv X pins σ H s) (e:H a = some (.ins C dx fs)) (c:Cls X.K C) (n:NoAttr X.K C f) (l:fs.lookup f = some v)
  (h:∀ u s',Inv X pins σ H s' -> RelV v u -> Q u s'):wpAny (model X.prog X.w) A (getAttr (.ref a) f b) Q E s:=by
 obtain ⟨mA,O,r,_,_,_⟩:=vL I.hok e;obtain ⟨u,hu,ru⟩:=RelO.some_of (v:=v) (o:=mA f) (by rw [<- l]; exact r f);exact UO I.kIn O (c.get f) c.hd n hu (Yg ru) (h u _ (I.tok _) ru)
theorem yK {m:Str} {g:Addr} {pl:Sem Bool} {Q:Value × List Value -> Shared -> Prop} (I:Inv X pins σ H s) (e:H a = some (.ins C dx fs)) (c:Cls X.K C) (k:U5 X.K C m g) (l:fs.lookup m = none)
  (h:Q (.ref g,[.ref a]) s):wpAny (model X.prog X.w) A (getMethod (.ref a) m pl) Q E s:=by
 obtain ⟨mA,O,r,_,_,_⟩:=vL I.hok e;have hn:mA m = none:=RelO.none_of (by rw [<- l]; exact r m);exact Y8 I.kIn O (c.get m) k.at_ k.fn hn h
theorem kn {y:V} {u:Value} {Q:Unit -> Shared -> Prop} (I:Inv X pins σ H s) (e:H a = some (.ins C dx fs)) (c:Cls X.K C) (n:NoAttr X.K C f) (hl:fs.length < 1000) (ry:RelV y u)
  (h:∀ s',Inv X pins σ (upd H a (.ins C dx (uV f y fs))) s' -> Q Unit.unit s'):wpAny (model X.prog X.w) A (setAttr (.ref a) f u) Q E s:=by
 obtain ⟨mA,O,r,wi,_,ho⟩:=vL I.hok e;have hz:(fs.map (·.1)).length <= sizeLine:=by rw [List.length_map,sizeLine_eq]; lia
 refine Uq I.kIn O c.sa c.po n.taker c.hd wi hz fun h' O' sb=>h _ ?_;have hd:∃ o,h'.get? dx = some o:=let #[o,_,_,e',_]:=O'.ns; #[o,e'];refine I.write (x:=a) (e:=dx) (by rw [e]; exact True.intro) (.inr ho) (fun b q hb z=>(sb.2 b hb).trans z) hd ?_;refine #[by rw [zk O.ne]; exact ho,?_,O.ne,O'.obj,_,O'.ns,fun g=>?_,fun g hg=>?_]
 ·have:=wP f y fs; lia
 ·show RelO ((uV f y fs).lookup g) (if g = f then some u else mA g);rw [vc];by_cases q:g = f
  ·rw [if_pos q,if_pos q]; exact ry
  ·rw [if_neg q,if_neg q]; exact r g
 ·by_cases q:g = f
  ·rw [q]; exact (w4 f y fs).1
  ·refine (w4 f y fs).2 g (wi g fun z=>hg ?_);show (if g = f then some u else mA g) = none;rw [if_neg q]; exact z
theorem Inv.made (I:Inv X pins σ H s):Inv X pins σ (upd (upd H s⁻¹ (.own (s⁻¹ + 1))) (s⁻¹ + 1) (.ins C s⁻¹ []))
  { s with heap:=(s.heap.push PySem.W.emptyDict).push (PySem.W.instObj C s⁻¹) }:=by
 have e1:(s.heap.push PySem.W.emptyDict).get? s⁻¹ = some PySem.W.emptyDict:=Heap.get?_push_size s.heap rfl
 have e2:((s.heap.push PySem.W.emptyDict).push (PySem.W.instObj C s⁻¹)).get? (s⁻¹ + 1) = some (PySem.W.instObj C s⁻¹):=by
  have:=Heap.get?_push_size (s.heap.push PySem.W.emptyDict) (o:=PySem.W.instObj C s⁻¹) rfl
  rwa [Heap.size_push]at this
 have e3:(s.heap.push PySem.W.emptyDict).Ns s⁻¹ (fun _=>none):=#[PySem.W.emptyDict,#[],_,e1,rfl,(fun e he=>absurd he (by simp)),fun _=>rfl];have I1:=I.laid (a:=s⁻¹) (o:=.own (s⁻¹ + 1)) (h':=s.heap.push PySem.W.emptyDict) (t':=s.toks) (fun b u q=>Heap.get?_push_of_some _ q) (Nat.le_refl _) #[_,e1];refine I1.laid (a:=s⁻¹ + 1) (o:=.ins C s⁻¹ []) (t':=s.toks) (fun b u q=>Heap.get?_push_of_some _ q) (Nat.le_of_eq (Heap.size_push _ _)) ?_;have ne:s⁻¹ ≠ s⁻¹ + 1:=Nat.ne_of_lt (Nat.lt_succ_self _);refine #[by rw [zk ne,zb],Nat.zero_le _,ne,e2,fun _=>none,(Heap.Ns1.of_empty e3).at fun o q=>Heap.get?_push_of_some _ q,fun _=>True.intro,fun y hy=>absurd rfl hy]
theorem UE {prog:Program} {w:World} {env:Env} {e:Expr} {f:Str} {pos:Pos} {s:Shared} {Q:Value -> Shared -> Prop} (hb:attributeBase e f env (eval e env) = eval e env)
  (h:wpAny (model prog w) A (eval e env) (fun o s₁=>wpAny (model prog w) A (getAttr o f true) Q E s₁) E s):wpAny (model prog w) A (eval (.Attribute e f pos) env) Q E s :=
 Attribute_any_ h (by rw [arm_eval_Attribute,hb])
end
def UV (K:PySem.W.Frag) (ta:TE) (f:Str):TE:=fun σ H Q=>ta σ H fun x H1=>∃ a C dx fs v,x = .ref a /\ H1 a = some (.ins C dx fs) /\ Cls K C /\ NoAttr K C f /\ fs.lookup f = some v /\ Q v H1
def Ky (K:PySem.W.Frag) (ta tv:TE) (f:Str):TS:=fun D σ H=>tv σ H fun y H1=>ta σ H1 fun x H2=>∃ a C dx fs,x = .ref a /\ H2 a = some (.ins C dx fs) /\ Cls K C /\ NoAttr K C f /\ fs.length < 1000 /\
 D.nx σ (upd H2 a (.ins C dx (uV f y fs)))
section
variable {X:Cx} {o e value:Expr} {f:Str} {pos pos' tpos:Pos} {ta tv:TE}
theorem U6 (he:PE X e ta) (hb:attributeBase e f X.env (eval e X.env) = eval e X.env):PE X (.Attribute e f pos) (UV X.K ta f):=by
 intro pins s σ H Q I h;refine UE hb (thn (he pins s σ H _ I h) fun u s1=>el5 fun x H1 I1 rx q_z=>?_);obtain ⟨a,C,dx,fs,v,ex,ea,c,n,l,q⟩:=q_z;subst ex;obtain rfl:u = Value.ref a:=rx;exact kJ I1 ea c n l fun u' s2 I2 ru=>#[v,H1,I2,ru,q]
theorem QP (ha:PE X o ta) (hv:PE X value tv) (hs:swapsWith value (some (.Attribute o f pos')) pos.line X.env = pure false):PS X (.Assign [.Attribute o f pos'] value pos) (Ky X.K ta tv f):=by
 intro pins s σ H D I h;refine plainObj_wpAny_Assign_Attribute (thn (hv pins s σ H _ I h) fun u s1=>el5 fun y H1 I1 ry q=>thn (ha pins s1 σ H1 _ I1 q) fun ov s2=>el5 fun x H2 I2 rx q_z=>?_) hs;obtain ⟨a,C,dx,fs,ex,ea,c,n,l,q2⟩:=q_z;subst ex;obtain rfl:ov = Value.ref a:=rx;exact kn I2 ea c n l ry fun s3 I3=>#[σ,_,I3,q2]
theorem Vw {pl:Sem Bool} {m:Str} {apos:Pos} {args:List Expr} {pins:List (Addr × Obj)} {s:Shared} {σ:St} {H:Hp} {Q:Value -> Shared -> Prop} {te:TE} (he:PE X e te) (I:Inv X pins σ H s)
    (h:te σ H fun x H1=>∃ a C dx fs g,x = .ref a /\ H1 a = some (.ins C dx fs) /\ Cls X.K C /\ U5 X.K C m g /\ fs.lookup m = none /\
      ∀ s1,Inv X pins σ H1 s1 -> wpAny (model X.prog X.w) X.A (callWith pos (.ref g) [.ref a] (backTo pos (starEach args X.env)) (backToKw pos (keywordEach [] X.env))) Q X.xe s1)
    (ht:eval (.Call (.Attribute e m apos) args [] pos) X.env =(do
      let ov <- eval e X.env
      standAt apos.atName
      let (f,first) <- holding [ov] (getMethod ov m pl)
      callWith pos f first (backTo pos (starEach args X.env)) (backToKw pos (keywordEach [] X.env)))) :
    wpAny (model X.prog X.w) X.A (eval (.Call (.Attribute e m apos) args [] pos) X.env) Q X.xe s:=by
  refine PySem.W.methodCall_KW (pl:=pl) (thn (he pins s σ H _ I h) fun u s1=>el5 fun x H1 I1 rx q_z=>?_) ht;obtain ⟨a,C,dx,fs,g,ex,ea,c,k,l,q⟩:=q_z;subst ex;obtain rfl:u = Value.ref a:=rx;exact yK I1 ea c k l (q s1 I1)
end
section
variable {X:Cx} {pins:List (Addr × Obj)} {σ:St} {H:Hp} {s:Shared} {A:Around} {E:Value -> Shared -> Prop} {Q:Value -> Shared -> Prop} {c:Value} {b:Bool}
inductive jD (K:PySem.W.Frag) (H:Hp):V -> Value -> Prop where
 | non:jD K H .non (.type "NoneType")
 | bl (x:Bool):jD K H (.bl x) (.type "bool")
 | int (i:Int):jD K H (.int i) (.type "int")
 | str (x:Str):jD K H (.str x) (.type "str")
 | flt (x:UInt64):jD K H (.flt x) (.type "float")
 | lst {a:Addr} {xs:List V} (e:H a = some (.lst xs)):jD K H (.ref a) (.type "list")
 | frz {a:Addr} {o:Obj} {xs:List V} (e:H a = some (.frz o (.lst xs))):jD K H (.ref a) (.type "list")
 | tup {a:Addr} {xs:List V} (e:H a = some (.tup xs)):jD K H (.ref a) (.type "tuple")
 | dK {a:Addr} {kvs:List (Key × V)} (e:H a = some (.dK kvs)):jD K H (.ref a) (.type "dict")
 | dT {a:Addr} {kvs:List (List Key × V)} (e:H a = some (.dT kvs)):jD K H (.ref a) (.type "dict")
 | ins {a C dx:Addr} {fs:List (Str × V)} (e:H a = some (.ins C dx fs)) (cl:Cls K C) (ha:PySem.W.findIn K (.ref C) "__class__" = some (some (.builtin "object.__class__")))
   (hn:PySem.W.specialIn K (.builtin "object.__class__") "__get__" = some (some (.builtin "getset_descriptor.__get__"))) (htk:PySem.W.takesIn K (.builtin "object.__class__") = some true)
   (hm:PySem.W.mroIn K C (.type "object") = some true):jD K H (.ref a) (.ref C)
theorem ZJ {x:V} {u t:Value} (I:Inv X pins σ H s) (rx:RelV x u) (ty:jD X.K H x t) (e:PySem.W.kitOne X.K t c = some b) (h:∀ tk,Q (.bool b) { s with toks:=tk }) :
  wpAny (model X.prog X.w) A (call (.builtin "isinstance") [u,c]) Q E s:=by
 cases ty with
 | non=>cases (show u = Value.none from rx); exact PySem.W.kia_one PySem.W.kitx_none I.kIn True.intro e (fun z=>nomatch z) h
 | bl y=>cases (show u = Value.bool y from rx); exact PySem.W.kia_one PySem.W.kitx_bool I.kIn True.intro e (fun z=>nomatch z) h
 | int i=>obtain ⟨t,q⟩:=(show ∃ t,u = Value.int i t from rx); cases q; exact PySem.W.kia_one PySem.W.kitx_int I.kIn True.intro e (fun z=>nomatch z) h
 | str y=>obtain ⟨t,q⟩:=(show ∃ t,u = Value.str y t from rx); cases q; exact PySem.W.kia_one PySem.W.kitx_str I.kIn True.intro e (fun z=>nomatch z) h
 | flt y=>obtain ⟨t,q⟩:=(show ∃ t,u = Value.float y t from rx); cases q; exact PySem.W.kia_one PySem.W.kitx_float I.kIn True.intro e (fun z=>nomatch z) h
 | @lst a xs ea =>
  cases (show u = Value.ref a from rx);obtain ⟨_,_,n,_,h1⟩:=(show ObjOk X.prog X.w H s.heap a (.lst xs)from I.hok a _ ea);exact PySem.W.kia_one PySem.W.kitx_list I.kIn #[_,h1,rfl] e (fun z=>nomatch z) h
 | @frz a ob xs ea =>
  cases (show u = Value.ref a from rx);obtain ⟨_,_,_,n,_,h1⟩:=(show ObjOk X.prog X.w H s.heap a (.frz ob (.lst xs))from I.hok a _ ea);exact PySem.W.kia_one PySem.W.kitx_list I.kIn #[_,h1,rfl] e (fun z=>nomatch z) h
 | @tup a xs ea =>
  cases (show u = Value.ref a from rx);obtain ⟨_,_,_,p⟩:=(show ObjOk X.prog X.w H s.heap a (.tup xs)from I.hok a _ ea);obtain ⟨o,h1,h2,_⟩:=p;exact PySem.W.kia_one PySem.W.kitx_tuple I.kIn #[o,h1,h2] e (fun z=>nomatch z) h
 | @dK a kvs ea =>
  cases (show u = Value.ref a from rx);obtain ⟨_,_,vs,_,p⟩:=(show ObjOk X.prog X.w H s.heap a (.dK kvs)from I.hok a _ ea);obtain ⟨o,es,ep,h1,h2,_⟩:=p;exact PySem.W.kia_one PySem.W.kitx_dict I.kIn #[o,h1,h2.1] e (fun z=>nomatch z) h
 | @dT a kvs ea =>
  cases (show u = Value.ref a from rx);obtain ⟨_,_,xs,_,o,es,ep,h1,h2,_⟩:=(show ObjOk X.prog X.w H s.heap a (.dT kvs)from I.hok a _ ea);exact PySem.W.kia_one PySem.W.kitx_dict I.kIn #[o,h1,h2.1] e (fun z=>nomatch z) h
 | @ins a C dx fs ea cl ha hn htk hm =>
  cases (show u = Value.ref a from rx);obtain ⟨mA,O,_⟩:=vL I.hok ea;obtain ⟨od,J,_⟩:=O.look;exact PySem.W.kia_one (PySem.W.kitx_own (cl.get _) cl.hd ha hn htk hm) I.kIn J e (fun z=>nomatch z) h
end
end L2
namespace L2
open PySem PySem.Spec PyProof.Rows
structure Room (k:Nat) (A:Around):Prop where
 hd:A.handled = none
 dp:A.depth + 3 * k + 5 < recursionLimit
 un:A.units + 16 * k + 200 < cLine
theorem Room.mono {j k:Nat} {A:Around} (r:Room k A) (h:j <= k):Room j A:=#[r.hd,by have:=r.dp; lia,by have:=r.un; lia]
theorem Room.deeper {k:Nat} {A:Around} (r:Room (k + 1) A) (env:Env):Room k (A.deeper env) :=
 #[r.hd,by have:=r.dp; show A.depth + 1 + 3 * k + 5 < _; lia,by have:=r.un; show A.units + 3 + 16 * k + 200 < _; lia]
theorem Room.in1 {k:Nat} {A:Around} (r:Room (k + 1) A):Room k A.in1 :=
 #[r.hd,by have:=r.dp; show A.depth + 3 * k + 5 < _; lia,by have:=r.un; show A.units + 1 + 16 * k + 200 < _; lia]
theorem kh {A:Around} {C:Addr} {us:List Value} {kw:List (Str × Value)}:(A.under (.builtin "type.__call__" #[.ref C :: us,kw])).depth = A.depth + 1:=by
 first | rfl | simp [Around.under,Code.weight,Code.isCreation,Code.isGuard,Code.isCaller,Code.frames,Code.isFrame,guardIds]
theorem kz {A:Around} {C:Addr} {us:List Value} {kw:List (Str × Value)}:(A.under (.builtin "type.__call__" #[.ref C :: us,kw])).units = A.units + 1:=by
 first | rfl | simp [Around.under,Code.cUnits,Code.frames,Code.isFrame]
theorem Room.make {k:Nat} {A:Around} (r:Room (k + 1) A) (C:Addr) (us:List Value) (kw:List (Str × Value)):Room k (A.under (.builtin "type.__call__" #[.ref C :: us,kw])) :=
 #[r.hd,by have:=r.dp; rw [kh]; lia,by have:=r.un; rw [kz]; lia]
theorem Room.depth {k:Nat} {A:Around} (r:Room k A):A.depth < recursionLimit:=by have:=r.dp; lia
theorem Room.units {k:Nat} {A:Around} (r:Room k A):A.units + 64 < cLine:=by have:=r.un; lia
def xu:TA:=fun _ H Q=>Q [] H
def zM (ta:TE) (tr:TA):TA:=fun σ H Q=>ta σ H fun x H1=>tr σ H1 fun xs H2=>Q (x :: xs) H2
section
variable {X:Cx} {e:Expr} {es:List Expr} {te:TE} {t:TA} {pos:Pos}
theorem zc:PA X [] xu:=fun _ _ _ _ H Q I h=>Calls.spliced_nil #[[],H,I,.nil,h]
theorem za (ha:PE X e te) (hr:PA X es t) (hs:starEach (e :: es) X.env =(false,eval e X.env) :: starEach es X.env:=by rfl):PA X (e :: es) (zM te t):=by
 intro pos pins s σ H Q I h;rw [hs];show wpAny _ _ (spliced ((false,eval e X.env) :: backTo pos (starEach es X.env))) _ _ s;refine Calls.spliced_cons (thn (ha pins s σ H _ I h) fun u s1=>el5 fun x H1 I1 r1 q1=>?_);exact thn (hr pos pins s1 σ H1 _ I1 q1) fun us s2=>el5 fun xs H2 I2 r2 q2=>#[x :: xs,H2,I2,.cons r1 r2,q2]
def Xt (t:TA):TE:=fun σ H Q=>t σ H fun xs H1=>xs.length <= sizeLine /\ ∀ p,H1 p = none -> Q (.ref p) (upd H1 p (.tup xs))
def Jo (t:TA):TE:=fun σ H Q=>t σ H fun xs H1=>xs.length <= sizeLine /\ ∀ p,H1 p = none -> Q (.ref p) (upd H1 p (.lst xs))
theorem z5 {x1} (h:PA X es t):PE X (.Tuple es x1 pos) (Xt t):=by
 intro pins s σ H Q I hq;refine wpAny_Tuple_spliced (thn (h pos pins s σ H _ I hq) fun us s1=>el5 fun xs H1 I1 r=>ua2 fun z q=>#[by rw [<- r.length]; exact z,?_]);have hf:H1 s1⁻¹ = none:=I1.hok.fresh (Nat.le_refl _);refine #[.ref s1⁻¹,upd H1 s1⁻¹ (.tup xs),I1.laid (t':=s1.toks) (fun b u e=>Heap.get?_push_of_some _ e) (Nat.le_refl _) ?_,rfl,q _ hf];exact #[z,us,r,#[_,Heap.get?_push_size _ rfl,rfl,_,rfl]]
theorem wk (h:PA X es t):PE X (.List es pos) (Jo t):=by
 intro pins s σ H Q I hq;refine wpAny_List_spliced (thn (h pos pins s σ H _ I hq) fun us s1=>el5 fun xs H1 I1 r=>ua2 fun z q=>#[by rw [<- r.length]; exact z,?_]);have hf:H1 s1⁻¹ = none:=I1.hok.fresh (Nat.le_refl _);refine #[.ref s1⁻¹,upd H1 s1⁻¹ (.lst xs),I1.laid (t':=s1.toks) (fun b u e=>Heap.get?_push_of_some _ e) (Nat.le_refl _) ?_,rfl,q _ hf];exact #[z,us,0,r,Heap.get?_push_size _ rfl]
end
noncomputable abbrev Sp:=List V -> Hp -> VK -> XK -> Prop
noncomputable abbrev CXT:=List Env -> Hp -> Shared -> XK -> Value -> Shared -> Prop
structure Env0 (P:Program) (w:World) (K:PySem.W.Frag) (mg:Str -> Option Value) (base:Heap) (A:Around) (outer:List Env) (s:Shared) (H:Hp):Prop where
 frames:A.frames = some outer
 mod:Mod K mg base
 bs:∀ b o,base.get? b = some o -> s.heap.get? b = some o /\ H b = none
 bsz:base.objs.size <= s⁻¹
 funs:s.heap.FunFrames base outer
 frf:∀ b ∈ frs outer,H b = none
 hok:HOk P w H s.heap
 bare:AllBare s.gens
def CE (outer:List Env) (P:Program) (w:World) (H:Hp) (s:Shared) (Q:VK) (u:Value) (s':Shared):Prop :=
 ∃ v H',s'.os = s.os /\ AllBare s'.gens /\ Un (frs outer) [] H H' s.heap s'.heap /\ HOk P w H' s'.heap /\ RelV v u /\ Q v H'
def CR (CX:CXT) (outer:List Env) (P:Program) (w:World) (H:Hp) (s:Shared) (Q:VK) (E:XK) (r:Result) (s':Shared):Prop :=
 match r with
 | .ok (.ret u)=>CE outer P w H s Q u s'
 | .ok _=>False
 | .error e=>CX outer H s E e s'
structure FnOk (P:Program) (w:World) (K:PySem.W.Frag) (mg:Str -> Option Value) (base:Heap) (CX:CXT) (k:Nat) (f:Addr) (fd:FuncData) (ps:List Str) (sp:Sp):Prop where
 len:∀ vs H Q E,sp vs H Q E -> vs.length = ps.length
 run:∀ (A:Around) (outer:List Env) (s:Shared) (H:Hp) (args:Args) (us:List Value) (vs:List V) (Q:VK) (E:XK),Room k A -> Env0 P w K mg base A outer s H -> BindsTo s fd args (ps.zip us) -> Vals vs us -> sp vs H Q E ->
  codeAny (model P w) A (.call (.ref f) args) (CR CX outer P w H s Q E) s
theorem FnOk.imp {P:Program} {w:World} {K:PySem.W.Frag} {mg:Str -> Option Value} {base:Heap} {CX:CXT} {k:Nat} {f:Addr} {fd:FuncData} {ps:List Str} {sp sp':Sp} (F:FnOk P w K mg base CX k f fd ps sp)
  (h:∀ vs H Q E,sp' vs H Q E -> sp vs H Q E):FnOk P w K mg base CX k f fd ps sp' :=
 #[fun vs H Q E q=>F.len vs H Q E (h _ _ _ _ q),fun A outer s H args us vs Q E hr he hb hv hs=>F.run A outer s H args us vs Q E hr he hb hv (h _ _ _ _ hs)]
theorem Env0.make {P:Program} {w:World} {K:PySem.W.Frag} {mg:Str -> Option Value} {base:Heap} {A:Around} {outer:List Env} {s:Shared} {H:Hp} (e:Env0 P w K mg base A outer s H) (C:Addr) (us:List Value) (kw:List (Str × Value)) :
  Env0 P w K mg base (A.under (.builtin "type.__call__" #[.ref C :: us,kw])) outer s H:=#[by first | exact e.frames | (simpa [Around.under,Code.envs,Code.isFrame,pushEnvs] using e.frames),e.mod,e.bs,e.bsz,e.funs,e.frf,e.hok,e.bare]
section
variable {X:Cx} {pins:List (Addr × Obj)} {σ:St} {H:Hp} {s s':Shared}
theorem Inv.env0 (I:Inv X pins σ H s):Env0 X.prog X.w X.K X.mg X.base X.A X.stack s H :=
 #[I.ok.frames,I.ok.mod,I.bs,Nat.le_trans I.ok.bsz I.sz,I.stack,I.stkFree,I.hok,I.bare]
theorem Inv.after {Q:VK} {u:Value} (I:Inv X pins σ H s) (h:CE X.stack X.prog X.w H s Q u s'):EP X pins σ Q u s':=by
 obtain ⟨v,H',os,bare,un,hok,r,q⟩:=h;obtain ⟨hh,g,d,t,os'⟩:=s';obtain rfl:os' = s.os:=os;exact #[v,H',I.call (h':=hh) (g':=g) (d':=d) (t':=t) (ch:=[]) un hok bare (fun b z=>absurd z (by simp)),r,q]
end
def qJ (sp:Sp) (dvs:List V) (E:XK) (t:TA):TE:=fun σ H Q=>t σ H fun vs H1=>sp (vs ++ dvs) H1 Q E
def uR (C:Addr) (m:Str) (sp:Sp) (dvs:List V) (E:XK) (ta:TE) (t:TA):TE:=fun σ H Q=>ta σ H fun x H1=>∃ a dx fs,x = .ref a /\ H1 a = some (.ins C dx fs) /\ fs.lookup m = none /\
 t σ H1 fun vs H2=>sp (x ::(vs ++ dvs)) H2 Q E
def Xk (C:Addr) (sp:Sp) (dvs:List V) (E:XK) (t:TA):TE:=fun σ H Q=>t σ H fun vs H1=>∀ x dx,H1 x = none -> H1 dx = none -> dx ≠ x ->
 sp (.ref x ::(vs ++ dvs)) (upd (upd H1 dx (.own x)) x (.ins C dx [])) (fun v H2=>v = .non /\ Q (.ref x) H2) E
def Binds (K:PySem.W.Frag) (fd:FuncData) (ps:List Str) (ds:List Value):Prop :=
 ∀ (s:Shared) (us:List Value),K.In s.heap -> (us ++ ds).length = ps.length -> BindsTo s fd #[us,[]] (ps.zip (us ++ ds))
theorem Binds.all {K:PySem.W.Frag} {fd:FuncData} {ps:List Str} (h:∀ us:List Value,us.length = ps.length -> bindArgs fd #[us,[]] = pure (ps.zip us)):Binds K fd ps []:=fun s us _ hl=>by
 rw [List.append_nil]at hl ⊢;exact .of_eq (h us hl)
def wf (CX:CXT) (X:Cx) (E:XK):Prop:=∀ (pins:List (Addr × Obj)) (σ:St) (H:Hp) (s:Shared) (e:Value) (s':Shared),Inv X pins σ H s -> CX X.stack H s E e s' -> X.xe e s'
section
variable {X:Cx} {CX:CXT} {k:Nat} {f C:Addr} {fd:FuncData} {ps:List Str} {sp:Sp} {dvs:List V} {ds:List Value} {E:XK} {x m:Str} {p pos apos:Pos} {e o:Expr} {es:List Expr} {ta:TE} {t:TA}
theorem qK {pins:List (Addr × Obj)} {σ:St} {H:Hp} {s:Shared} {Q:VK} {us:List Value} {vs:List V} (F:FnOk X.prog X.w X.K X.mg X.base CX k f fd ps sp) (hr:Room k X.A) (hb:Binds X.K fd ps ds) (hd:Vals dvs ds) (hx:wf CX X E)
  (I:Inv X pins σ H s) (r:Vals vs us) (h:sp (vs ++ dvs) H Q E):wpAny (model X.prog X.w) X.A (call (.ref f) us) (EP X pins σ Q) X.xe s:=by
 have r2:Vals (vs ++ dvs) (us ++ ds):=r.append hd;have hl:(us ++ ds).length = ps.length:=by rw [<- r2.length]; exact F.len _ _ _ _ h
 refine wpAny_call (codeAny_mono (F.run X.A X.stack s H #[us,[]] (us ++ ds) (vs ++ dvs) Q E hr I.env0 (hb s us I.kIn hl) r2 h) fun r s' hq=>?_)
 cases r with
 | error e=>exact hx pins σ H s e s' I hq
 | ok fl =>
  cases fl with
  | ret u=>exact I.after hq
  | next=>exact False.elim hq
  | brk=>exact False.elim hq
  | cont=>exact False.elim hq
theorem Ye (F:FnOk X.prog X.w X.K X.mg X.base CX k f fd ps sp) (hr:Room k X.A) (hg:Gl X x) (hm:X.mg x = some (.ref f)) (hk:PySem.W.keepIn X.K (.ref f) = true) (hb:Binds X.K fd ps ds) (hd:Vals dvs ds) (hx:wf CX X E)
  (ha:PA X (e :: es) t) (hdb:(x ==("__debug__" : Str)) = false:=by decide) (he:starEach (e :: es) X.env =(false,eval e X.env) :: starEach es X.env:=by rfl) (hpl:(backTo pos (starEach es X.env)).any (·.1) = false:=by rfl) :
  PE X (.Call (.Name x p) (e :: es) [] pos) (qJ sp dvs E t):=by
 intro pins s σ H Q I h;refine wpAny_Call_Name_kw (wH I hg hm ?_ hdb);refine PySem.W.callWith_K (h₀:=X.base) I.ok.mod.kin hk (thn (ha pos pins s σ H _ I h) fun us s1=>el5 fun vs H1 I1 r q=>#[I1.kIn,?_]) he hpl;exact qK F hr hb hd hx I1 r q
theorem UF {pl:Sem Bool} (he:PE X o ta) (c:Cls X.K C) (hm:U5 X.K C m f) (F:FnOk X.prog X.w X.K X.mg X.base CX k f fd ps sp) (hr:Room k X.A) (hb:Binds X.K fd ps ds) (hd:Vals dvs ds) (hx:wf CX X E) (ha:PA X (e :: es) t)
    (hst:starEach (e :: es) X.env =(false,eval e X.env) :: starEach es X.env:=by rfl) (hpl:(backTo pos (starEach es X.env)).any (·.1) = false:=by rfl)
    (ht:eval (.Call (.Attribute o m apos) (e :: es) [] pos) X.env =(do
      let ov <- eval o X.env
      standAt apos.atName
      let (f,first) <- holding [ov] (getMethod ov m pl)
      callWith pos f first (backTo pos (starEach (e :: es) X.env)) (backToKw pos (keywordEach [] X.env))):=by rfl) :
    PE X (.Call (.Attribute o m apos) (e :: es) [] pos) (uR C m sp dvs E ta t):=by
  intro pins s σ H Q I h;refine PySem.W.methodCall_KW (pl:=pl) (thn (he pins s σ H _ I h) fun u s1=>el5 fun x H1 I1 rx q_z=>?_) ht;obtain ⟨a,dx,fs,ex,ea,l,q⟩:=q_z;subst ex;obtain rfl:u = Value.ref a:=rx;refine yK I1 ea c hm l ?_;refine PySem.W.callWith_K (first:=[.ref a]) (h₀:=X.base) I.ok.mod.kin hm.kp (thn (ha pos pins s1 σ H1 _ I1 q) fun us s2=>el5 fun vs H2 I2 r q2=>#[I2.kIn,?_]) hst hpl;exact qK (us:=.ref a :: us) (vs:=.ref a :: vs) F hr hb hd hx I2 (.cons rfl r) q2
theorem XR {pl:Sem Bool} (he:PE X o ta) (c:Cls X.K C) (hm:U5 X.K C m f) (F:FnOk X.prog X.w X.K X.mg X.base CX k f fd ps sp) (hr:Room k X.A) (hb:Binds X.K fd ps ds) (hd:Vals dvs ds) (hx:wf CX X E)
    (ht:eval (.Call (.Attribute o m apos) [] [] pos) X.env =(do
      let ov <- eval o X.env
      standAt apos.atName
      let (f,first) <- holding [ov] (getMethod ov m pl)
      callWith pos f first (backTo pos (starEach [] X.env)) (backToKw pos (keywordEach [] X.env))):=by rfl) :
    PE X (.Call (.Attribute o m apos) [] [] pos) (uR C m sp dvs E ta xu):=by
  intro pins s σ H Q I h;refine PySem.W.methodCall_KW (pl:=pl) (thn (he pins s σ H _ I h) fun u s1=>el5 fun x H1 I1 rx q_z=>?_) ht;obtain ⟨a,dx,fs,ex,ea,l,q⟩:=q_z;subst ex;obtain rfl:u = Value.ref a:=rx;refine yK I1 ea c hm l ?_;exact PySem.W.callWith_K0 (first:=[.ref a]) I1.kIn hm.kp (qK (us:=[.ref a]) (vs:=[.ref a]) F hr hb hd hx I1 (.cons rfl .nil) q)
structure Mk (K:PySem.W.Frag) (C f:Addr):Prop where
 makes:PySem.W.makesIn K C = true
 init:PySem.W.findIn K (.ref C) "__init__" = some (some (.ref f))
 fn:PySem.W.isFn K (.ref f) = true
 kp:PySem.W.keepIn K (.ref C) = true
theorem Xu {pins:List (Addr × Obj)} {σ:St} {H:Hp} {s:Shared} {Q:VK} {us:List Value} {vs:List V} (M:Mk X.K C f) (F:FnOk X.prog X.w X.K X.mg X.base CX k f fd ps sp) (hr:Room (k + 1) X.A) (hb:Binds X.K fd ps ds) (hd:Vals dvs ds)
  (hx:wf CX X E) (I:Inv X pins σ H s) (r:Vals vs us)
  (h:∀ x dx,H x = none -> H dx = none -> dx ≠ x -> sp (.ref x ::(vs ++ dvs)) (upd (upd H dx (.own x)) x (.ins C dx [])) (fun v H2=>v = .non /\ Q (.ref x) H2) E) :
  wpAny (model X.prog X.w) X.A (call (.ref C) us) (EP X pins σ Q) X.xe s:=by
 have hq:=h (s⁻¹ + 1) s⁻¹ (I.hok.fresh (Nat.le_succ _)) (I.hok.fresh (Nat.le_refl _)) (Nat.ne_of_lt (Nat.lt_succ_self _));have I2:=Inv.made (C:=C) I;have r2:Vals (V.ref (s⁻¹ + 1) ::(vs ++ dvs)) (Value.ref (s⁻¹ + 1) ::(us ++ ds)):=.cons rfl (r.append hd)
 have hl:(Value.ref (s⁻¹ + 1) :: us ++ ds).length = ps.length:=by
  have e:=r2.length;rw [F.len _ _ _ _ hq]at e;exact e.symm
 refine wpAny_call (Wh (f:=f) I.kIn M.makes M.init (beq_iff_eq.mp M.fn) (codeAny_mono (F.run _ X.stack _ _ #[Value.ref (s⁻¹ + 1) :: us,[]] (Value.ref (s⁻¹ + 1) ::(us ++ ds)) _ _ E (hr.make C us [])
  (I2.env0.make C us []) (hb _ (Value.ref (s⁻¹ + 1) :: us) I2.kIn hl) r2 hq) fun r s' hq'=>?_))
 cases r with
 | error e=>exact hx pins σ _ _ e s' I2 hq'
 | ok fl =>
  cases fl with
  | ret u =>
   obtain ⟨v,H',I3,rv,ev,q3⟩:=I2.after hq';subst ev;exact #[rv,#[V.ref (s⁻¹ + 1),H',I3,rfl,q3]]
  | next=>exact False.elim hq'
  | brk=>exact False.elim hq'
  | cont=>exact False.elim hq'
theorem Ur (M:Mk X.K C f) (F:FnOk X.prog X.w X.K X.mg X.base CX k f fd ps sp) (hr:Room (k + 1) X.A) (hg:Gl X x) (hm:X.mg x = some (.ref C)) (hb:Binds X.K fd ps ds) (hd:Vals dvs ds) (hx:wf CX X E)
  (ha:PA X (e :: es) t) (hdb:(x ==("__debug__" : Str)) = false:=by decide) (he:starEach (e :: es) X.env =(false,eval e X.env) :: starEach es X.env:=by rfl) (hpl:(backTo pos (starEach es X.env)).any (·.1) = false:=by rfl) :
  PE X (.Call (.Name x p) (e :: es) [] pos) (Xk C sp dvs E t):=by
 intro pins s σ H Q I h;refine wpAny_Call_Name_kw (wH I hg hm ?_ hdb);refine PySem.W.callWith_K (h₀:=X.base) I.ok.mod.kin M.kp (thn (ha pos pins s σ H _ I h) fun us s1=>el5 fun vs H1 I1 r q=>#[I1.kIn,?_]) he hpl;exact Xu M F hr hb hd hx I1 r q
end
def PK (X:Cx) (kws:List Keyword) (t:TA):Prop :=
 ∀ (pos:Pos) (pins:List (Addr × Obj)) (s:Shared) (σ:St) (H:Hp) (Q:List V -> Hp -> Prop),Inv X pins σ H s -> t σ H Q -> wpAny (model X.prog X.w) X.A (evalAll ((backToKw pos (keywordEach kws X.env)).map (·.2))) (AP X pins σ Q) X.xe s
section
variable {X:Cx} {CX:CXT} {k:Nat} {f C:Addr} {fd:FuncData} {ps ks:List Str} {sp:Sp} {E:XK} {x m:Str} {p pos apos kpos:Pos} {e o:Expr} {es:List Expr} {kws:List Keyword} {te ta:TE} {t tk:TA} {nm:Option Str}
theorem Zh:PK X [] xu:=fun _ _ _ _ H Q I h=>wpAny_evalAll_nil #[[],H,I,.nil,h]
theorem jo (ha:PE X e te) (hr:PK X kws t):PK X (#[nm,e,kpos] :: kws) (zM te t):=by
 intro pos pins s σ H Q I h;show wpAny _ _ (evalAll ((do let v <- eval e X.env; standAt pos; pure v) ::(backToKw pos (keywordEach kws X.env)).map (·.2))) _ _ s;refine wpAny_evalAll_cons (wpAny_bind (thn (ha pins s σ H _ I h) fun u s1=>el5 fun x H1 I1 r1 q1=>wpAny_bind (wpAny_standAt (wpAny_pure ?_))));exact thn (hr pos pins s1 σ H1 _ I1 q1) fun us s2=>el5 fun xs H2 I2 r2 q2=>#[x :: xs,H2,I2,.cons r1 r2,q2]
variable {g:List Value -> List Value -> List Value} {gV:List V -> List V -> List V}
end
structure zn (N P:List Str) (sc:Scope):Prop where
 kind:sc.kind = .function
 co:sc.isCoroutine = false
 gen:sc.isGenerator = false
 nd:N.Nodup
 pre:N.take P.length = P
 par:∀ x ∈ P,sc.names.lookup x = some .local \/ sc.names.lookup x = some .cell
 nofree:∀ y ∈ sc.names,y.2 ≠ .free
theorem qu {kindOf:Str -> Option NameKind} {x:Str}:∀ {binds:List (Str × Value)} {m:Str -> Option Value},(∀ v,(x,v) ∉ binds) -> bindL kindOf binds m x = m x
  | [],_,_=>rfl
  | (n,v) :: r,m,h=>by
    unfold bindL;rw [qu fun w hw=>h w (List.mem_cons_of_mem _ hw)];split
    · have:x ≠ n:=by rintro rfl; exact h v List.mem_cons_self
      simp [this]
    · rfl
theorem qF {kindOf:Str -> Option NameKind} {x:Str}:∀ {binds:List (Str × Value)} {m:Str -> Option Value},(∀ v,(x,v) ∉ binds) -> bindC kindOf binds m x = m x
  | [],_,_=>rfl
  | (n,v) :: r,m,h=>by
    unfold bindC;rw [qF fun w hw=>h w (List.mem_cons_of_mem _ hw)];split
    · rfl
    · have:x ≠ n:=by rintro rfl; exact h v List.mem_cons_self
      simp [this]
theorem qz {kindOf:Str -> Option NameKind} {x:Str} {v:Value}:∀ {P:List Str} {vs:List Value} {i:Nat} {m:Str -> Option Value},P.Nodup -> P[i]? = some x -> vs[i]? = some v -> kindOf x = some .local ->
  bindL kindOf (P.zip vs) m x = some v
 | [],_,_,_,_,h,_,_=>by simp at h
 | _ :: _,[],_,_,_,_,h,_=>by simp at h
 | p :: P,w :: vs,0,m,nd,h1,h2,hk=>by
  simp at h1 h2; subst h1; subst h2;show bindL kindOf ((p,w) :: P.zip vs) m p = _;unfold bindL;rw [qu fun v hv=>(am.mp nd).1 (List.of_mem_zip hv).1,if_pos hk];simp
 | p :: P,w :: vs,i + 1,m,nd,h1,h2,hk=>by
  show bindL kindOf ((p,w) :: P.zip vs) m x = _;unfold bindL;exact qz (i:=i) (am.mp nd).2 (by simpa using h1) (by simpa using h2) hk
theorem uW {kindOf:Str -> Option NameKind} {x:Str} {v:Value}:∀ {P:List Str} {vs:List Value} {i:Nat} {m:Str -> Option Value},P.Nodup -> P[i]? = some x -> vs[i]? = some v -> kindOf x ≠ some .local ->
  bindC kindOf (P.zip vs) m x = some v
 | [],_,_,_,_,h,_,_=>by simp at h
 | _ :: _,[],_,_,_,_,h,_=>by simp at h
 | p :: P,w :: vs,0,m,nd,h1,h2,hk=>by
  simp at h1 h2; subst h1; subst h2;show bindC kindOf ((p,w) :: P.zip vs) m p = _;unfold bindC;rw [qF fun v hv=>(am.mp nd).1 (List.of_mem_zip hv).1,if_neg hk];simp
 | p :: P,w :: vs,i + 1,m,nd,h1,h2,hk=>by
  show bindC kindOf ((p,w) :: P.zip vs) m x = _;unfold bindC;exact uW (i:=i) (am.mp nd).2 (by simpa using h1) (by simpa using h2) hk
noncomputable def start (N:List Str) (vs:List V):St:=vs.map some ++ List.replicate (N.length - vs.length) none
noncomputable def wA (CX:CXT) (P:Program) (w:World) (K:PySem.W.Frag) (mg:Str -> Option Value) (base:Heap) (N:List Str) (qual:Str) (scope:Scope) (f:Addr) (cd:Value) (A:Around) (outer:List Env) (s:Shared) (H:Hp) (E:XK):Cx where
 prog:=P
 w:=w
 K:=K
 mg:=mg
 base:=base
 A:=A.deeper (envOfC qual scope s⁻¹ f cd)
 N:=N
 s₀:=s
 H₀:=H
 env:=envOfC qual scope s⁻¹ f cd
 outer:=outer
 stack:=envOfC qual scope s⁻¹ f cd :: outer
 ex:=[]
 calm:=true
 fn:=fun _=>true
 pn:=[]
 xe:=fun e s'=>wpAny (model P w) (A.deeper (envOfC qual scope s⁻¹ f cd)) (leaving (envOfC qual scope s⁻¹ f cd) e) (fun _ s''=>CX outer H s E e s'') (fun e' s''=>CX outer H s E e' s'') s'
theorem jL {sc:Scope} {n:Nat} {x:Str} (h:sc.names.lookup x = some .cell):∃ c,(cellsFrom n sc.names []).lookup x = some c:=by
 have q:=PySem.W.cellsFrom_some sc.names n [] (.inl h);exact ao.mp q
theorem YR {CX:CXT} {P:Program} {w:World} {K:PySem.W.Frag} {mg:Str -> Option Value} {base:Heap} {N ps:List Str} {qual:Str} {scope:Scope} {f:Addr} {cd:Value} {A:Around} {outer:List Env} {s s1:Shared} {H:Hp} {E:XK} {us:List Value} {vs:List V}
  (S:zn N ps scope) (hd:A.handled = none) (e0:Env0 P w K mg base A outer s H) (hl:vs.length = ps.length) (r:Vals vs us)
  (x:InCallC s s⁻¹ (bindL (envOfC qual scope s⁻¹ f cd).kindOf (ps.zip us) fun _=>none) (cellsFrom (s⁻¹ + 1) scope.names []) (bindC (envOfC qual scope s⁻¹ f cd).kindOf (ps.zip us) fun _=>none) s1) :
  Inv (wA CX P w K mg base N qual scope f cd A outer s H E) [] (start N vs) H s1:=by
 have hpl:ps.length <= N.length:=by have:=congrArg List.length S.pre; rw [List.length_take]at this; lia
 obtain ⟨h1,tk,rfl,hk⟩:=x.done;have noA:∀ b:Addr,b ∉ (wA CX P w K mg base N qual scope f cd A outer s H E).ex:=fun b z=>absurd (show b ∈ ([]:List Addr)from z) (by simp)
 refine #[#[e0.mod,S.kind,rfl,rfl,Nat.le_refl _,fun y z c h1 h2=>?_,fun y hy=>?_,fun y c _ h=>?_,fun _=>hd,Around.frames_deeper e0.frames,.inr #[rfl,rfl],fun b z=>absurd z (noA b),e0.bs,e0.bsz,fun b _ _=>noA b,fun b z=>absurd z (noA b),e0.funs,e0.frf],
  rfl,e0.bare,Un.kept hk,#[_,x.toInCall.ns,fun i y v h1 h2 h3=>?_],fun y c h=>#[_,x.cell y c h],e0.hok.fresh (Nat.le_refl _),fun y c h=>?_,fun p hp=>absurd (show p ∈ ([]:List (Addr × Obj))from hp) (by simp),e0.hok.kept hk,?_]
 ·exact name_of_addr x.apart (PySem.mem_of_lookup h1) (PySem.mem_of_lookup h2)
 ·have hy:scope.names.lookup y = some .cell \/ scope.names.lookup y = some .free:=hy;rcases hy with hy | hy
  ·exact jL hy
  ·exact absurd rfl (S.nofree _ (PySem.mem_of_lookup hy))
 ·exact Nat.le_of_lt (x.above y c (PySem.mem_of_lookup h))
 ·have hi:i < vs.length:=by
   unfold start at h2;by_cases hi:i < vs.length
   ·exact hi
   ·rw [List.getElem?_append_right (by simpa using hi)]at h2;rw [List.getElem?_replicate]at h2;split at h2 <;> cases h2
  have ha:vs[i]? = some v:=by
   unfold start at h2;rw [List.getElem?_append_left (by simpa using hi),List.getElem?_map]at h2
   cases e:vs[i]? with
   | none=>rw [e]at h2; cases h2
   | some a=>rw [e]at h2; cases h2; rfl
  obtain ⟨u,hu,rv⟩:=r.get ha
  have hp:ps[i]? = some y:=by
   rw [<- S.pre,List.getElem?_take_of_lt ⋯]; exact h1
  have ndP:ps.Nodup:=by rw [<- S.pre]; exact S.nd.sublist (List.take_sublist _ _)
  refine #[u,rv,?_];rcases S.par y (List.mem_of_getElem? hp)with k | k
  ·exact .inl #[k,qz ndP hp hu k]
  ·obtain ⟨c,e⟩:=jL (n:=s⁻¹ + 1) k;refine .inr #[.inl k,c,e,?_];have q:=x.cell y c e;rw [uW ndP hp hu (by show scope.names.lookup y ≠ _; rw [k]; decide)]at q;exact q
 ·exact e0.hok.fresh (Nat.le_of_lt (x.above y c (PySem.mem_of_lookup h)))
 ·unfold start;show _ = N.length;rw [List.length_append,List.length_map,List.length_replicate];lia
theorem Wg {CX:CXT} {P:Program} {w:World} {K:PySem.W.Frag} {mg:Str -> Option Value} {base:Heap} {k:Nat} {f:Addr} {name qual:Str} {params:Arguments} {body:List Stmt} {scope:Scope} {dV kV doc pm cdv ct oc:Value} {an od:Option Addr}
  {osl:Array (Option Value)} {N ps:List Str} {sp:Sp} (lk:K.lookup f = some #[oc,od,.func (PySem.W.fnOf name qual params body scope dV kV doc pm an cdv ct),osl]) (hcd:PySem.W.codeIn K cdv qual = true) (S:zn N ps scope)
  (len:∀ vs H Q E,sp vs H Q E -> vs.length = ps.length)
  (hbody:∀ (A:Around) (outer:List Env) (s:Shared) (H:Hp) (vs:List V) (Q:VK) (E:XK),Room k (A.deeper (envOfC qual scope s⁻¹ f cdv)) -> sp vs H Q E ->
   ∃ t,PSs (wA CX P w K mg base N qual scope f cdv A outer s H E) body t /\ t { nx:=fun _ H'=>Q .non H',rt:=Q } (start N vs) H) :
  FnOk P w K mg base CX (k + 1) f (PySem.W.fnOf name qual params body scope dV kV doc pm an cdv ct) ps sp:=by
 refine #[len,fun A outer s H args us vs Q E hr e0 hb r hsp=>?_];have hl:=len _ _ _ _ hsp;have KX:K.In s.heap:=e0.mod.kin.keeps fun b o e=>(e0.bs b o e).1;have lim:s.heap.NoLimit:=e0.mod.nolimit.keeps fun b o e=>(e0.bs b o e).1
 have hkind:∀ y ∈ ps.zip us,scope.names.lookup y.1 = some .local \/ (scope.names.lookup y.1 = some .cell /\ ((cellsFrom (s⁻¹ + 1) scope.names []).lookup y.1).isSome = true):=fun ⟨n,v⟩ hy=>by
  rcases S.par n (List.of_mem_zip hy).1 with q | q
  ·exact .inl q
  ·exact .inr #[q,PySem.W.cellsFrom_some _ _ _ (.inl q)]
 refine codeAny_call_function hr.depth (KX _ _ lk) rfl S.co S.gen rfl (PySem.W.codeRec_of KX hcd) (hb _ _ _ _ ?_);refine wpAny_newFunctionEnv_cells S.kind hkind fun env he s1 x=>?_;subst he;refine #[lim.keeps x.toInCall.keep,codeAny_func ?_];obtain ⟨t,ht,hq⟩:=hbody A outer s H vs Q E (hr.deeper _) hsp;have I:Inv (wA CX P w K mg base N qual scope f cdv A outer s H E) [] (start N vs) H s1:=YR S hr.hd e0 hl r x;refine wpAny_mono (ht [] s1 (start N vs) H _ I hq) (fun fl s' hs=>?_) fun e s' hs=>hs
 have fin:∀ {σ':St} {H':Hp} {v:V} {u:Value},Inv (wA CX P w K mg base N qual scope f cdv A outer s H E) [] σ' H' s' -> RelV v u -> Q v H' -> CE outer P w H s Q u s' :=
  fun {σ' H' v u} J rv q=>#[v,H',J.os,J.bare,J.base,J.hok,rv,q]
 cases fl with
 | ret u =>
  obtain ⟨v,σ',H',J,rv,q⟩:=hs;exact fin J rv q
 | next =>
  obtain ⟨σ',H',J,q⟩:=hs;exact fin (v:=V.non) (u:=Value.none) J rfl q
 | brk =>
  obtain ⟨_,_,_,q⟩:=hs;exact False.elim q
 | cont =>
  obtain ⟨_,_,_,q⟩:=hs;exact False.elim q
end L2
namespace L2
open PySem PySem.Spec PyProof.Rows
section
variable {X:Cx} {x:Str} {p pos:Pos} {e:Expr} {es:List Expr} {t:TA} {id T:String} {r:List V -> Hp -> VK -> Prop}
def tCB (r:List V -> Hp -> VK -> Prop) (t:TA):TE:=fun σ H Q=>t σ H fun vs H1=>r vs H1 Q
theorem wu (hc:wX X (.builtin id) r) (hg:Gl X x) (hm:X.mg x = none) (hv:bootBuiltins x = some (.builtin id)) (ha:PA X (e :: es) t) (hn:x ≠ "__name__":=by decide) (hdb:(x ==("__debug__" : Str)) = false:=by decide)
  (he:starEach (e :: es) X.env =(false,eval e X.env) :: starEach es X.env:=by rfl) (hpl:(backTo pos (starEach es X.env)).any (·.1) = false:=by rfl):PE X (.Call (.Name x p) (e :: es) [] pos) (tCB r t):=by
 intro pins s σ H Q I h;refine wpAny_Call_Name_kw (xR I hg hm hv ?_ hn hdb);exact PyProof.Rows.callWith_builtin1 (thn (ha pos pins s σ H _ I h) fun us s1=>el5 fun vs H1 I1 r1 q1=>hc pins s1 σ H1 vs us Q I1 r1 q1) he hpl
theorem qm (hc:wX X (.type T) r) (hg:Gl X x) (hm:X.mg x = none) (hv:bootBuiltins x = some (.type T)) (ha:PA X (e :: es) t) (hn:x ≠ "__name__":=by decide) (hdb:(x ==("__debug__" : Str)) = false:=by decide)
  (he:starEach (e :: es) X.env =(false,eval e X.env) :: starEach es X.env:=by rfl) (hpl:(backTo pos (starEach es X.env)).any (·.1) = false:=by rfl):PE X (.Call (.Name x p) (e :: es) [] pos) (tCB r t):=by
 intro pins s σ H Q I h;refine wpAny_Call_Name_kw (xR I hg hm hv ?_ hn hdb);exact PyProof.Rows.callWith_type1 (thn (ha pos pins s σ H _ I h) fun us s1=>el5 fun vs H1 I1 r1 q1=>hc pins s1 σ H1 vs us Q I1 r1 q1) he hpl
end
end L2
namespace HT
open PySem PyProof.Rows
section
open PySem.SeqAt
open PySem.AutoSeq1 (wpAny_loadPart')
open PySem.MeetsSeq PySem.MeetsSeq2 PySem.MeetsSeq3
end
section
variable {prog:Program} {w:World} {A:Around} {E:Value -> Shared -> Prop} {s:Shared}
noncomputable def sIx (n d:Nat):Option Int -> Nat
 | none=>d
 | some v=>if v < 0 then (v + (n:Int)).toNat else min v.toNat n
theorem sIx_none (n d:Nat):sIx n d none = d:=rfl
theorem sIx_nat (n d k:Nat):sIx n d (some (k:Int)) = min k n:=by
 show (if (k:Int) < 0 then ((k:Int) + (n:Int)).toNat else min (k:Int).toNat n) = min k n;rw [if_neg ⋯,Int.toNat_natCast]
theorem sIx_le (n d:Nat) (hd:d <= n) (o:Option Int):sIx n d o <= n:=by
 cases o with
 | none=>exact hd
 | some v =>
  show (if v < 0 then (v + (n:Int)).toNat else min v.toNat n) <= n;by_cases hv:v < 0
  ·rw [if_pos hv]; lia
  ·rw [if_neg hv]; exact Nat.min_le_right _ _
end
end HT
namespace L2
open PySem PySem.Spec PyProof.Rows
noncomputable abbrev TO:=St -> Hp -> (Option Int -> Hp -> Prop) -> Prop
def PO (X:Cx) (e:Option Expr) (t:TO):Prop :=
 ∀ (pins:List (Addr × Obj)) (s:Shared) (σ:St) (H:Hp) (Q:Option Int -> Hp -> Prop),Inv X pins σ H s -> t σ H Q ->
  wpAny (model X.prog X.w) X.A (evalPart e X.env) (fun u s'=>∃ o H',Inv X pins σ H' s' /\ IsPart u o /\ Q o H') X.xe s
def vU:TO:=fun _ H Q=>Q none H
def Xw (t:TE):TO:=fun σ H Q=>t σ H fun x H1=>onInt x fun i=>Q (some i) H1
section
variable {X:Cx} {e:Expr} {te:TE} {lo hi:Option Expr} {tl th:TO} {pos p2:Pos}
theorem ue:PO X none vU:=by
 intro pins s σ H Q I h;rw [evalPart_none];exact wpAny_pure #[none,H,I,.none,h]
theorem xZ (h:PE X e te):PO X (some e) (Xw te):=by
 intro pins s σ H Q I hw;rw [evalPart_some];refine thn (h pins s σ H _ I hw) fun u s1=>el5 fun x H1 I1 r1 q1=>?_;obtain ⟨i,rfl,q⟩:=onInt.of q1;obtain ⟨t,rfl⟩:=r1;exact #[some i,H1,I1,.int i t,q]
def SlR (X:Cx) (r:V -> Option Int -> Option Int -> Hp -> VK -> Prop):Prop :=
 ∀ (pins:List (Addr × Obj)) (s:Shared) (σ:St) (H:Hp) (x:V) (v vl vu:Value) (lo hi:Option Int) (sl:Addr) (Q:VK),Inv X pins σ H s -> RelV x v -> s.heap.IsSliceOf sl vl vu .none -> IsPart vl lo -> IsPart vu hi -> r x lo hi H Q ->
  ∃ T id,typeLookup (.type T) "__getitem__" = pure (some (.builtin id)) /\ s.TypeIs v T /\ wpAny (model X.prog X.w) X.A (getItem v (.ref sl)) (EP X pins σ Q) X.xe s
def tSl (r:V -> Option Int -> Option Int -> Hp -> VK -> Prop) (te:TE) (tl th:TO):TE:=fun σ H Q=>te σ H fun x H1=>tl σ H1 fun l H2=>th σ H2 fun u H3=>r x l u H3 Q
theorem xM {r:V -> Option Int -> Option Int -> Hp -> VK -> Prop} (hr:SlR X r) (he:PE X e te) (hl:PO X lo tl) (hu:PO X hi th):PE X (.Subscript e (.Slice lo hi none p2) pos) (tSl r te tl th):=by
 intro pins s σ H Q I h;refine Subscript_ (thn (he pins s σ H _ I h) fun v s1=>el5 fun x H1 I1 r1 q1=>?_);refine wpAny_Slice (thn (hl pins s1 σ H1 _ I1 q1) fun vl s2=>el5 fun l H2 I2 pl q2=>thn (hu pins s2 σ H2 _ I2 q2) fun vu s3=>el5 fun u H3 I3 pu q3=>?_);rw [evalPart_none];refine wpAny_pure ?_;have I4:Inv X pins σ H3 { s3 with heap:=s3.heap.push { cls:=.type "slice",data:=.fields (List.toArray [vl,vu,.none]) } }:=I3.kept (t':=s3.toks) fun b ob q=>Heap.get?_push_of_some _ q;obtain ⟨T,id,hT,ht,hg⟩:=hr pins { s3 with heap:=s3.heap.push { cls:=.type "slice",data:=.fields (List.toArray [vl,vu,.none]) } } σ H3 x v vl vu l u s3⁻¹ Q I4 r1 (Heap.IsSliceOf.new ..) pl pu q3;show wpAny (model X.prog X.w) X.A (subscriptTail e (.Slice lo hi none p2) v (.ref s3⁻¹)) (EP X pins σ Q) X.xe { s3 with heap:=s3.heap.push { cls:=.type "slice",data:=.fields (List.toArray [vl,vu,.none]) } };exact tail_any (ops:=[.ref s3⁻¹,v]) ht hT hg (by with_unfolding_all rfl)
noncomputable def QV (xs:List V) (lo hi:Option Int):List V:=(xs.drop (HT.sIx xs.length 0 lo)).take (HT.sIx xs.length xs.length hi - HT.sIx xs.length 0 lo)
theorem jn (xs:List V) (lo hi:Option Int):(QV xs lo hi).length <= xs.length:=by
 unfold QV;rw [List.length_take,List.length_drop];lia
end
end L2
namespace L2
open PySem PySem.Spec PyProof.Rows
noncomputable def ixN (n:Nat) (i:Int):Option Nat:=if 0 <= i then (if i < n then some i.toNat else none)else if -(n:Int) <= i then some (i + n).toNat else none
noncomputable def atI {α:Type} (xs:List α) (i:Int):Option α:=(ixN xs.length i).bind fun j=>xs[j]?
theorem Ua {n:Nat} {i:Int} {j:Nat} (h:ixN n i = some j):seqIndex? i n = some j /\ j < n /\ -(n:Int) <= i /\ i < n:=by
 unfold ixN at h;by_cases h0:0 <= i
 ·rw [if_pos h0]at h;by_cases h1:i < n
  ·rw [if_pos h1]at h;have e:i.toNat = j:=Option.some.inj h;exact #[by rw [seqIndex_of h0 h1,e],⋯,⋯,h1]
  ·rw [if_neg h1]at h; cases h
 ·rw [if_neg h0]at h;by_cases h1:-(n:Int) <= i
  ·rw [if_pos h1]at h;have e:(i + n).toNat = j:=Option.some.inj h;exact #[by rw [seqIndex_neg ⋯ h1,e],⋯,h1,⋯]
  ·rw [if_neg h1]at h; cases h
theorem qZ {α:Type} {xs:List α} {i:Int} {v:α} (h:atI xs i = some v):∃ j,seqIndex? i xs.length = some j /\ xs[j]? = some v /\ j < xs.length /\ -(xs.length:Int) <= i /\ i < xs.length:=by
 unfold atI at h
 cases e:ixN xs.length i with
 | none=>rw [e]at h; cases h
 | some j =>
  rw [e]at h;obtain ⟨h1,h2,h3,h4⟩:=Ua e;exact #[j,h1,h,h2,h3,h4]
theorem Zi {α:Type} {xs:List α} {j:Nat} {v:α} (h:xs[j]? = some v):atI xs (j:Int) = some v:=by
 have hj:j < xs.length:=(ae.mp h).1
 have e:ixN xs.length (j:Int) = some j:=by
  unfold ixN;rw [if_pos ⋯,if_pos ⋯]; simp
 unfold atI; rw [e]; exact h
def Zr (b:Expr):Prop:=∀ o i,subscripted b false o i = operate [o,i] (getItem o i)
def IxR (X:Cx) (r:R2):Prop :=
 ∀ (value slice:Expr) (pins:List (Addr × Obj)) (s:Shared) (σ:St) (H:Hp) (x y:V) (v u:Value) (Q:VK),Inv X pins σ H s -> RelV x v -> RelV y u -> r x y H Q ->
  subscripted slice false v u = operate [v,u] (getItem v u) -> wpAny (model X.prog X.w) X.A (subscriptTail value slice v u) (EP X pins σ Q) X.xe s
def MtR (X:Cx) (id:String) (r:V -> List V -> Hp -> VK -> Prop):Prop :=
 ∀ (pins:List (Addr × Obj)) (s:Shared) (σ:St) (H:Hp) (x:V) (xs:List V) (v:Value) (us:List Value) (Q:VK),Inv X pins σ H s -> RelV x v -> Vals xs us -> r x xs H Q ->
  wpAny (model X.prog X.w) X.A (call (.builtin id) (v :: us)) (EP X pins σ Q) X.xe s
section
variable {X:Cx} {a b:Expr} {ta tb:TE} {pos:Pos}
theorem IxR.or {r r':R2} (h:IxR X r) (h':IxR X r'):IxR X (fun x y H Q=>r x y H Q \/ r' x y H Q):=by
 intro value slice pins s σ H x y v u Q I rx ry q hs;rcases q with q | q
 ·exact h value slice pins s σ H x y v u Q I rx ry q hs
 ·exact h' value slice pins s σ H x y v u Q I rx ry q hs
theorem JL {r:R2} (hr:IxR X r) (ha:PE X a ta) (hb:PE X b tb) (hs:Zr b):PE X (.Subscript a b pos) (tOp r ta tb):=by
 intro pins s σ H Q I h;exact Subscript_ (JK ha hb I h fun v u s2 x y H2 I2 rx ry q=>hr a b pins s2 σ H2 x y v u Q I2 rx ry q (hs _ _))
def QU (K:PySem.W.Frag):R2:=fun x y H Q=>onRef x fun p=>onInt y fun i=>∃ xs,SqL K H p xs /\ ∃ v,atI xs i = some v /\ Q v H
def vj (K:PySem.W.Frag):R2:=fun x y H Q=>onRef x fun p=>onInt y fun i=>∃ xs,SqT K H p xs /\ ∃ v,atI xs i = some v /\ Q v H
def VM:R2:=fun x y H Q=>onStr x fun z=>onInt y fun i=>z.length <= sizeLine /\ ∃ c,atI z.cps.toList i = some c /\ Q (.str ⟨#[c]⟩) H
theorem ix_list:IxR X (QU X.K):=by
 intro value slice pins s σ H x y v u Q I rx ry h hs;obtain ⟨p,rfl,h2⟩:=onRef.of h;obtain ⟨i,rfl,xs,hq,z,he,q⟩:=onInt.of h2;cases rx;obtain ⟨t,rfl⟩:=ry;obtain ⟨its,r,pl,hz⟩:=I.list hq;obtain ⟨j,h1,h2,h3,h4,h5⟩:=qZ he;obtain ⟨w,ew,rw'⟩:=r.get h2;have hl:=r.length;have hn:=qp;have fin:EP X pins σ Q w s:=#[z,H,I,rw',q];by_cases h0:0 <= i
 ·have hj:i.toNat = j:=by
   rw [seqIndex_of h0 h5]at h1;exact Option.some.inj h1
  exact item_listR pl.isList h0 ⋯ (by rw [hj]; simpa using ew) fin hs
 ·have hj:(i + (its.toArray.size:Int)).toNat = j:=by
   rw [seqIndex_neg ⋯ h4]at h1;rw [List.size_toArray,<- hl];exact Option.some.inj h1
  exact subscriptTail_builtinR (x:=w) pl.isList.typeIs slot_list_getitem.lookup
   (wpAny_getItem_list_neg (Q:=fun r s'=>r = w /\ EP X pins σ Q r s') pl.isList ⋯ (by rw [List.size_toArray] <;> lia) ⋯ (by rw [hj]; simpa using ew) #[rfl,fin]) hs
theorem ix_tup:IxR X (vj X.K):=by
 intro value slice pins s σ H x y v u Q I rx ry h hs;obtain ⟨p,rfl,h2⟩:=onRef.of h;obtain ⟨i,rfl,xs,hq,z,he,q⟩:=onInt.of h2;cases rx;obtain ⟨t,rfl⟩:=ry;obtain ⟨its,r,pl,hz⟩:=I.tuple hq;obtain ⟨j,h1,h2,h3,h4,h5⟩:=qZ he;obtain ⟨w,ew,rw'⟩:=r.get h2;have hl:=r.length;have hn:=qp;have fin:EP X pins σ Q w s:=#[z,H,I,rw',q]
 exact subscriptTail_builtinR (x:=w) pl.typeIs slot_tuple_getitem.lookup
  (getItem_tuple (j:=j) (Q:=fun r s'=>r = w /\ EP X pins σ Q r s') pl ⋯ ⋯ (by rw [List.size_toArray,<- hl]; exact h1) (by simpa using ew) #[rfl,fin]) hs
theorem jx:IxR X VM:=by
 intro value slice pins s σ H x y v u Q I rx ry h hs;obtain ⟨z,rfl,h2⟩:=onStr.of h;obtain ⟨i,rfl,hz,c,he,q⟩:=onInt.of h2;obtain ⟨t,rfl⟩:=rx;obtain ⟨t',rfl⟩:=ry;obtain ⟨j,h1,h2,h3,h4,h5⟩:=qZ he;have hl:z.cps.toList.length = z.length:=by simp [Str.length]
 rw [hl]at h1 h4 h5;have hn:=qp
 exact tail_any (typeIs_str s z t) slot_str_getitem.lookup (getItem_str (c:=c) (by
  have e1:decide (i < -(2 ^ 63:Int)) = false:=decide_eq_false ⋯;have e2:decide (i ≥ 2 ^ 63) = false:=decide_eq_false ⋯
  rw [e1,e2,Bool.or_false]) (by rw [h1]; simpa using h2) #[.str ⟨#[c]⟩,H,I.tok _,#[_,rfl],q]) hs
def rIx (K:PySem.W.Frag):R2:=fun x y H Q=>match x with | .ref p=>onInt y fun i=>(∃ xs,SqL K H p xs /\ ∃ v,atI xs i = some v /\ Q v H) \/ ∃ xs,SqT K H p xs /\ ∃ v,atI xs i = some v /\ Q v H | .str z=>VM (.str z) y H Q | _=>False
theorem rIx.of {K:PySem.W.Frag} {x y:V} {H:Hp} {Q:VK} (h:rIx K x y H Q):QU K x y H Q \/ vj K x y H Q \/ VM x y H Q:=by
 unfold rIx at h;cases x <;> first | exact .inr (.inr h) | (obtain ⟨i,rfl,h⟩:=onInt.of h; exact h.elim .inl fun h=>.inr (.inl h)) | exact h.elim
theorem WW:IxR X (rIx X.K):=fun a b pins s σ H x y v u Q I rx ry h hs=>(ix_list.or (ix_tup.or jx)) a b pins s σ H x y v u Q I rx ry h.of hs
theorem Inv.lst {pins:List (Addr × Obj)} {σ:St} {H:Hp} {s:Shared} {p:Addr} {xs:List V} (I:Inv X pins σ H s) (h:H p = some (.lst xs)) :
  ∃ (its:List Value) (n:Nat),Vals xs its /\ s.heap.get? p = some { cls:=.type "list",data:=.seq its.toArray n } /\ xs.length <= sizeLine:=by
 obtain ⟨z,its,n,r,e⟩:=I.hok p _ h;exact #[its,n,r,e,z]
theorem qe (lo hi:Option Int) (n:Nat):(sliceBounds lo hi none n).1 =((HT.sIx n 0 lo:Nat):Int) /\ (sliceBounds lo hi none n).2.1 =((HT.sIx n n hi:Nat):Int) /\ (sliceBounds lo hi none n).2.2 = 1:=by
 refine #[?_,?_,rfl]
 ·cases lo with
  | none=>simp [sliceBounds,HT.sIx]
  | some i =>
   simp only [sliceBounds,HT.sIx,Option.getD_none,show (1:Int) > 0 by decide,if_true];by_cases h:i < 0
   ·simp only [h,if_true] <;> lia
   ·simp only [h,if_false] <;> lia
 ·cases hi with
  | none=>simp [sliceBounds,HT.sIx]
  | some i =>
   simp only [sliceBounds,HT.sIx,Option.getD_none,show (1:Int) > 0 by decide,if_true];by_cases h:i < 0
   ·simp only [h,if_true] <;> lia
   ·simp only [h,if_false] <;> lia
theorem uN (its:List Value) (lo hi:Option Int):slicePick its.toArray lo hi none =((its.drop (HT.sIx its.length 0 lo)).take (HT.sIx its.length its.length hi - HT.sIx its.length 0 lo)).toArray:=by
 obtain ⟨h1,h2,h3⟩:=qe lo hi its.toArray.size;unfold slicePick;rw [h1,h2,h3];simp only [sliceRange_one,pick_run,List.size_toArray] <;> rfl
def KH (K:PySem.W.Frag):V -> Option Int -> Option Int -> Hp -> VK -> Prop:=fun x lo hi H Q=>onRef x fun a=>∃ xs,SqL K H a xs /\ ∀ p,H p = none -> Q (.ref p) (upd H p (.lst (QV xs lo hi)))
theorem JC:SlR X (KH X.K):=by
 intro pins s σ H x v vl vu lo hi sl Q I rx hs pl pu h;obtain ⟨a,rfl,xs,hx,q⟩:=onRef.of h;cases rx;obtain ⟨its,r,ht,hz⟩:=I.list hx;have hlen:=r.length;refine #["list",_,slot_list_getitem.lookup,ht.isList.typeIs,?_];refine wpAny_getItem_list_slice ht.isList hs pl pu .none (by simp) ?_ (by rw [List.size_toArray] <;> lia);rw [uN,<- hlen];refine #[.ref s⁻¹,_,I.laid (t':=s.toks) (o:=.lst (QV xs lo hi)) (fun b ob q=>Heap.get?_push_of_some _ q) (Nat.le_refl _) ?_,rfl,q _ (I.hok.fresh (Nat.le_refl _))];exact #[Nat.le_trans (jn xs lo hi) hz,_,0,(r.drop (HT.sIx xs.length 0 lo)).take (HT.sIx xs.length xs.length hi - HT.sIx xs.length 0 lo),Heap.get?_push_size _ rfl]
noncomputable def QG:V -> Bool
 | .non=>true
 | .bl _=>true
 | .int _=>true
 | .str _=>true
 | _=>false
noncomputable def eqV:V -> V -> Bool
 | .non,.non=>true
 | .bl a,.bl b=>a == b
 | .bl a,.int b=>(if a then 1 else 0) == b
 | .int a,.bl b=>a ==(if b then 1 else 0)
 | .int a,.int b=>a == b
 | .str a,.str b=>a == b
 | _,_=>false
theorem jG {A:Around} {s:Shared} {y x:V} {u v:Value} (ry:RelV y u) (rx:RelV x v) (fy:QG y = true) (fx:QG x = true):SeqAt.EqAt A s u v (eqV y x):=by
 cases y with
 | non =>
  cases ry
  cases x with
  | non=>cases rx; exact SeqAt.EqAt.same _
  | bl b=>cases rx; exact SeqAt.EqAt.none_bool b
  | int b=>obtain ⟨t,rfl⟩:=rx; exact SeqAt.EqAt.none_int b t
  | str b=>obtain ⟨t,rfl⟩:=rx; exact SeqAt.EqAt.none_str b t
  | _=>exact absurd (show false = true from fx) Bool.false_ne_true
 | bl a =>
  cases ry
  cases x with
  | non=>cases rx; exact SeqAt.EqAt.bool_none a
  | bl b=>cases rx; exact SeqAt.EqAt.bool_bool a b
  | int b=>obtain ⟨t,rfl⟩:=rx; exact SeqAt.EqAt.bool_int a b t
  | str b=>obtain ⟨t,rfl⟩:=rx; exact SeqAt.EqAt.bool_str a b t
  | _=>exact absurd (show false = true from fx) Bool.false_ne_true
 | int a =>
  obtain ⟨t',rfl⟩:=ry
  cases x with
  | non=>cases rx; exact SeqAt.EqAt.int_none a t'
  | bl b=>cases rx; exact SeqAt.EqAt.int_bool a t' b
  | int b=>obtain ⟨t,rfl⟩:=rx; exact SeqAt.EqAt.int_int a t' b t
  | str b=>obtain ⟨t,rfl⟩:=rx; exact SeqAt.EqAt.int_str a t' b t
  | _=>exact absurd (show false = true from fx) Bool.false_ne_true
 | str a =>
  obtain ⟨t',rfl⟩:=ry
  cases x with
  | non=>cases rx; exact SeqAt.EqAt.str_none a t'
  | bl b=>cases rx; exact SeqAt.EqAt.str_bool a t' b
  | int b=>obtain ⟨t,rfl⟩:=rx; exact SeqAt.EqAt.str_int a t' b t
  | str b=>obtain ⟨t,rfl⟩:=rx; exact SeqAt.EqAt.str_str a t' b t
  | _=>exact absurd (show false = true from fx) Bool.false_ne_true
 | _=>exact absurd (show false = true from fy) Bool.false_ne_true
theorem qt:wX X (.type "list") (fun xs H Q=>∃ p ys,xs = [.ref p] /\ (SqL X.K H p ys \/ SqT X.K H p ys) /\ ∀ l,H l = none -> Q (.ref l) (upd H l (.lst ys))):=by
 intro pins s σ H xs us Q I r h;obtain ⟨p,ys,rfl,hq,q⟩:=h;obtain ⟨u,rfl,rx⟩:=xa r;cases rx
 have fin:∀ (its:List Value),Vals ys its -> ys.length <= sizeLine -> ∀ (h':Heap) (c':Nat),(∀ b o',s.heap.get? b = some o' -> h'.get? b = some o') ->
   h'.get? s⁻¹ = some { cls:=.type "list",dict:=none,data:=.seq its.toArray c',slots:=#[] } -> EP X pins σ Q (.ref s⁻¹) { s with heap:=h' }:=fun its r' hz h' c' kp e =>
  #[.ref s⁻¹,_,I.laid (t':=s.toks) kp (Nat.le_refl _) (show ObjOk X.prog X.w _ h' _ (.lst ys)from #[hz,its,c',r',e]),rfl,q _ (I.hok.fresh (Nat.le_refl _))]
 rcases hq with hq | hq
 ·obtain ⟨its,r',pl,hz⟩:=I.list hq;have hlen:=r'.length;obtain ⟨o,ho,hc,n,hd⟩:=pl.isList;exact call_list_seq p (.inl rfl) ho hc hd (fun h' c' kp e=>fin its r' hz h' c' kp e) (by simp only [List.size_toArray] <;> lia)
 ·obtain ⟨its,r',pl,hz⟩:=I.tuple hq;have hlen:=r'.length;obtain ⟨o,ho,hc,n,hd⟩:=pl;exact call_list_seq p (.inr rfl) ho hc hd (fun h' c' kp e=>fin its r' hz h' c' kp e) (by simp only [List.size_toArray] <;> lia)
def tyV (K:PySem.W.Frag) (T:String) (x:V) (H:Hp):Prop:=match x with
 | .str _=>T = "str"
 | .int _=>T = "int"
 | .ref p=>(T = "list" /\ ∃ xs,SqL K H p xs) \/ (T = "tuple" /\ ∃ o,K.lookup p = some o /\ o.cls = .type "tuple" /\ o.dict = none) \/
   (T = "dict" /\ ((∃ kvs,H p = some (.dK kvs)) \/ ∃ kvs,H p = some (.dT kvs))) \/ (T = "set" /\ ∃ S n,H p = some (.set S n))
 | _=>False
theorem Qw {pins:List (Addr × Obj)} {σ:St} {H:Hp} {s:Shared} {T:String} {x:V} {v:Value} (I:Inv X pins σ H s) (r:RelV x v) (ty:tyV X.K T x H) :
  s.TypeIs v T /\ ∀ a,v = .ref a -> ∃ ob,s.heap.get? a = some ob /\ ob.dict = none:=by
 cases x with
 | str z =>
  obtain ⟨t,rfl⟩:=r;cases (show T = "str" from ty);exact #[typeIs_str s z t,fun _ e=>nomatch e]
 | int i =>
  obtain ⟨t,rfl⟩:=r;cases (show T = "int" from ty);exact #[typeIs_int s i t,fun _ e=>nomatch e]
 | ref p =>
  cases r;rcases ty with ⟨rfl,xs,hq⟩ | ⟨rfl,o,hk,hc,hd⟩ | ⟨rfl,hk⟩ | ⟨rfl,S,n,hk⟩
  ·obtain ⟨its,_,pl,_⟩:=I.list hq;refine #[pl.isList.typeIs,fun a e=>?_];cases e;obtain ⟨o,n,e,c,hd,_⟩:=pl;exact #[o,e,hd]
  ·refine #[#[o,I.kIn p o hk,hc],fun a e=>?_];cases e;exact #[o,I.kIn _ o hk,hd]
  ·have z:∃ o,s.heap.get? p = some o /\ o.ExactDict:=by
    rcases hk with ⟨kvs,hk⟩ | ⟨kvs,hk⟩
    ·obtain ⟨_,_,_,_,o,_,_,e,ex,_⟩:=I.hok p _ hk;exact #[o,e,ex]
    ·obtain ⟨_,_,_,_,o,_,_,e,ex,_⟩:=I.hok p _ hk;exact #[o,e,ex]
   obtain ⟨o,e,ex⟩:=z;refine #[#[o,e,ex.1],fun a e2=>?_];cases e2;exact #[o,e,ex.2.1]
  ·obtain ⟨o,_,_,_,e,ex,_⟩:=I.hok p _ hk;refine #[#[o,e,ex.1],fun a e2=>?_];cases e2;exact #[o,e,ex.2.1]
 | _=>exact False.elim ty
def tBM (K:PySem.W.Frag) (T:String) (r:V -> List V -> Hp -> VK -> Prop) (to:TE) (t:TA):TE:=fun σ H Q=>to σ H fun x H1=>tyV K T x H1 /\ t σ H1 fun xs H2=>r x xs H2 Q
variable {o e:Expr} {es:List Expr} {to:TE} {t:TA} {name:Str} {apos cpos:Pos} {T id:String} {r:V -> List V -> Hp -> VK -> Prop}
theorem wW (pa:PlainAttrs T) (slot:Slot T name id) (hty:typeOf (.builtin id) = pure (.type "method_descriptor")) (hm:MtR X id r) (ho:PE X o to) (ha:PA X (e :: es) t)
  (hbase:attributeBase o name X.env (eval o X.env) = eval o X.env:=by rfl)
  (hfew:((backTo cpos (starEach (e :: es) X.env)).all (fun x=>!x.1) && (backToKw cpos (keywordEach [] X.env)).all (fun x=>x.1.isSome)
   && decide ((e :: es).length + ([]:List Keyword).length + (if ([]:List Keyword).isEmpty then 0 else 1) < 30)) = true:=by rfl)
  (hline:(apos.endLine == cpos.line) = true:=by rfl) (hs:starEach (e :: es) X.env =(false,eval e X.env) :: starEach es X.env:=by rfl) (hplain:(backTo cpos (starEach es X.env)).any (·.1) = false:=by rfl) :
  PE X (.Call (.Attribute o name apos) (e :: es) [] cpos) (tBM X.K T r to t):=by
 intro pins s σ H Q I h;refine wpAny_Call_method_late hbase hfew hline rfl (thn (ho pins s σ H _ I h) fun v s1=>el5 fun x H1 I1 r1=>ua2 fun ty q1=>?_);obtain ⟨h1,h2⟩:=Qw I1 r1 ty;refine #[T,id,pa,slot,hty,h1,h2,?_];have hA:=ha cpos pins s1 σ H1 _ I1 q1;rw [hs]at hA ⊢;refine Calls.callWith_builtin (by show (false || (backTo cpos (starEach es X.env)).any (·.1)) = false; rw [hplain] <;> rfl) (Calls.evalArgs_plain ?_);exact thn hA fun us s2=>el5 fun vs H2 I2 r2 q2=>hm pins s2 σ H2 x vs v us Q I2 r1 r2 q2
/- xs.append(e),list.index on a module's tuple .. are MtR facts of 06m -/
end
end L2
namespace L2
open PySem PySem.Spec PyProof.Rows
def MtM (X:Cx) (id:String) (r:V -> List V -> Hp -> VK -> Prop):Prop :=
 ∀ (pins:List (Addr × Obj)) (s:Shared) (σ:St) (H:Hp) (x:V) (xs:List V) (v:Value) (us:List Value) (Q:VK),Inv X pins σ H s -> RelV x v -> Vals xs us -> r x xs H Q ->
  wpAny (model X.prog X.w) X.A (call (.builtin id) (v :: us)) (EP X pins σ Q) X.xe s
theorem Vals.one {x:V} {us:List Value} (h:Vals [x] us):∃ u,us = [u] /\ RelV x u:=by
 cases h with
 | cons r t =>
  cases t;exact #[_,rfl,r]
theorem Vals.two {x y:V} {us:List Value} (h:Vals [x,y] us):∃ u v,us = [u,v] /\ RelV x u /\ RelV y v:=by
 cases h with
 | cons r t =>
  obtain ⟨u,rfl,q⟩:=Vals.one t;exact #[_,_,rfl,r,q]
theorem Vals.zero:∀ {us:List Value},Vals [] us -> us = []
 | _,.nil=>rfl
theorem Vals.reverse {xs:List V} {us:List Value} (h:Vals xs us):Vals xs.reverse us.reverse:=by
 induction h with
 | nil=>exact .nil
 | cons r t ih=>rw [List.reverse_cons,List.reverse_cons]; exact Vals.append ih (.cons r .nil)
section
variable {X:Cx} {pins:List (Addr × Obj)} {σ:St} {H:Hp} {s:Shared} {l b:Addr} {xs ys zs:List V}
theorem Inv.lset {its its':List Value} {n:Nat} {f:Array Value -> Array Value} {t':Nat} (I:Inv X pins σ H s) (hH:H l = some (.lst xs))
  (e:s.heap.get? l = some { cls:=.type "list",data:=.seq its.toArray n }) (hf:f its.toArray = its'.toArray) (hv:Vals ys its') (hz:ys.length <= sizeLine) :
  Inv X pins σ (upd H l (.lst ys)) { s with heap:=s.heap.update l (Obj.mapSeq f),toks:=t' }:=by
 have q:=PySem.IsL.update e f;rw [hf]at q;refine I.write (x:=l) (e:=l) (by rw [hH]; exact trivial) (.inl rfl) (fun b' u hb hu=>(Heap.get?_update_other s.heap (Obj.mapSeq f) (Ne.symm hb)).trans hu) #[_,q] ?_;exact #[hz,its',_,hv,q]
theorem Inv.lnew {its:List Value} {t':Nat} (I:Inv X pins σ H s) (hv:Vals ys its) (hz:ys.length <= sizeLine) :
  Inv X pins σ (upd H s⁻¹ (.lst ys)) { s with heap:=s.heap.push { cls:=.type "list",data:=.seq its.toArray },toks:=t' } :=
 I.laid (fun _ _ q=>Heap.get?_push_of_some _ q) (Nat.le_refl _) #[hz,its,0,hv,Heap.get?_push_size _ rfl]
theorem Inv.fresh (I:Inv X pins σ H s):H s⁻¹ = none:=I.hok.fresh (Nat.le_refl _)
theorem Inv.lstM (I:Inv X pins σ H s) (hH:H l = some (.lst xs)):xs.length <= sizeLine /\ ∃ (its:List Value) (n:Nat),Vals xs its /\ xs.length = its.length /\ s.heap.get? l = some { cls:=.type "list",data:=.seq its.toArray n }:=by
 obtain ⟨z,its,n,r,e⟩:=I.hok l _ hH;exact #[z,its,n,r,r.length,e]
theorem XH {n:Nat} (h:n <= sizeLine):Builtin.List.listTooLong n = false:=by
 unfold Builtin.List.listTooLong;exact decide_eq_false ⋯
end
section
variable {X:Cx}
def Yy:V -> List V -> Hp -> VK -> Prop:=fun x vs H Q=>onRef x fun l=>match vs with | [y]=>∃ xs,H l = some (.lst xs) /\ xs.length < sizeLine /\ Q .non (upd H l (.lst (xs ++ [y]))) | _=>False
theorem xg:MtM X "list.append" Yy:=by
 intro pins s σ H x vs v us Q I rx rv h;obtain ⟨l,rfl,h2⟩:=onRef.of h
 obtain ⟨y,rfl,xs,hH,hz,q⟩:∃ y,vs = [y] /\ ∃ xs,H l = some (.lst xs) /\ xs.length < sizeLine /\ Q .non (upd H l (.lst (xs ++ [y]))):=by
  split at h2
  ·exact #[_,rfl,h2]
  ·exact h2.elim
 cases rx;obtain ⟨u,rfl,ru⟩:=rv.one;obtain ⟨z,its,n,r,hl,e⟩:=I.lstM hH;refine call_meets F.slot_list_append #[_,e,rfl] F.entry_list_append (F.args_list_append_2 _ _) (PySem.list_append l its.toArray n u (by rw [List.size_toArray]; lia)) #[e,?_];refine #[.non,_,I.lset (its':=its ++ [u]) hH e (by simp) (r.append (.cons ru .nil)) ?_,rfl,q];rw [List.length_append,List.length_singleton];lia
def Za:V -> List V -> Hp -> VK -> Prop:=fun x vs H Q=>∃ l b xs zs,x = .ref l /\ vs = [.ref b] /\ H l = some (.lst xs) /\ H b = some (.lst zs) /\ xs.length + zs.length <= sizeLine /\ Q .non (upd H l (.lst (xs ++ zs)))
theorem Zb:MtM X "list.extend" Za:=by
 intro pins s σ H x vs v us Q I rx rv h;obtain ⟨l,b,xs,zs,rfl,rfl,hH,hB,hz,q⟩:=h;cases rx;obtain ⟨u,rfl,ru⟩:=rv.one;cases ru;obtain ⟨z,its,n,r,hl,e⟩:=I.lstM hH;obtain ⟨z2,its2,n2,r2,hl2,e2⟩:=I.lstM hB;have hsz:its.toArray.size + its2.toArray.size <= sizeLine:=by rw [List.size_toArray,List.size_toArray]; lia
 have hlong:¬ (!its.toArray.isEmpty && Builtin.List.listTooLong (its.toArray.size + its2.toArray.size)) = true:=by
  rw [XH hsz,Bool.and_false];exact Bool.false_ne_true
 refine call_meets F.slot_list_extend #[_,e,rfl] F.entry_list_extend (F.args_list_extend_2 _ _)
  (AutoSeq1.list_extend_list_list_0 l its.toArray n b its2.toArray n2 hlong (by rw [List.size_toArray]; lia) ⋯) #[e,e2,?_]
 refine #[.non,_,I.lset (its':=its ++ its2) hH e (by simp) (r.append r2) ?_,rfl,q];rw [List.length_append];lia
def UT:R2:=fun x y H Q=>onRef x fun l=>onRef y fun b=>∃ xs,H l = some (.lst xs) /\ ∃ zs,H b = some (.lst zs) /\ xs.length + zs.length <= sizeLine /\ ∀ p,H p = none -> Q (.ref p) (upd H p (.lst (xs ++ zs)))
theorem ZV:OpR X (binaryOp .Add) UT:=by
 intro pins s σ H x y v u Q I rx ry h;obtain ⟨l,rfl,h2⟩:=onRef.of h;obtain ⟨b,rfl,xs,hH,zs,hB,hz,q⟩:=onRef.of h2;cases rx;cases ry;obtain ⟨z,its,n,r,hl,e⟩:=I.lstM hH;obtain ⟨z2,its2,n2,r2,hl2,e2⟩:=I.lstM hB;refine PySem.P.add_list e e2 ?_ (by rw [List.size_toArray,List.size_toArray]; lia);have ea:its.toArray ++ its2.toArray =(its ++ its2).toArray:=by simp
 rw [ea];exact #[.ref _,_,I.lnew (t':=s.toks) (r.append r2) (by rw [List.length_append]; lia),rfl,q _ I.fresh]
end
section
variable {prog:Program} {w:World} {A:Around} {E:Value -> Shared -> Prop} {s:Shared}
end
section
variable {X:Cx}
end
end L2
namespace Att
open PySem PySem.W PySem.Calls PyProof.Rows
theorem wD {P:Params} {h:Heap}:∀ (ns:List Int) (vs:List Value),WellAll P h vs (ns.map WData.int) -> IntsAre vs ns:=by
 intro ns
 induction ns with
 | nil =>
  intro vs w;rw [List.map_nil]at w;cases w;exact .nil
 | cons n ns ih =>
  intro vs w;rw [List.map_cons]at w
  cases w with
  | cons a b =>
   cases a;exact .cons _ _ (ih _ b)
theorem script_of {l:OpenLaw} {n:Nat} (hn:l.most = some n) {P:Params} {h:Heap} {args:List WData} {vals:List Value}
  (hpre:l.row.toRowW.claim.pre args = true) (hwl:WellAll P h vals args) :
  ∃ a vs ns,vals = [Value.ref a] /\ args = [WData.list (ns.map WData.int)] /\ h.get? a = some { cls:=.type "list",data:=.seq vs.toArray } /\ IntsAre vs ns /\ ns.length <= n:=by
 have hsh:WShape.hasAll [] args [.list .int] = true:=(pre_splitW hpre).1;have hc:l.pre.holds [] { args:=args } = true:=(pre_splitW hpre).2;obtain ⟨d,r,rfl,h1,h2⟩:=hasAllW_cons hsh;obtain rfl:=hasAllW_nil h2;obtain ⟨xs,rfl,h3⟩:=hasW_list h1;obtain ⟨ns,rfl⟩:=items_int h3
 have hlen:ns.length <= n:=by
  unfold OpenLaw.pre at hc
  have h4:(WTm.not (.lt (.lit (.int (n:Int))) (.len (.arg 0)))).holds [] { args:=[.list (ns.map .int)] } = true:=by
   have h4:=(holds_andW hc).1;rw [hn]at h4;exact h4
  have h5:=condW_of h4 (w_not (w_lt w_lit (w_len_list (w_arg rfl))));rw [List.length_map]at h5;refine Nat.le_of_not_lt fun q=>?_;have q':(n:Int) < ((ns.length:Nat):Int):=⋯
  first
   | (rw [decide_eq_true q']at h5; exact absurd h5 ∅)
   | (simp at h5; lia)
 cases hwl with
 | cons w1 w2 =>
  cases w2
  cases w1 with
  | list ho hall=>exact #[_,_,ns,rfl,rfl,ho,wD ns _ hall,hlen]
theorem post_true (l:OpenLaw) (args:List WData):l.row.toRowW.claim.post args (.bool true) args = true :=
 postW_of (r:=l.row.toRowW) (X:=(true == true))
  (show WShape.has [] (.bool true) .bool = true by first | rfl | decide | simp [WShape.has,WShape.arms,WShape.armsAll])
  (show (WTm.eq .res (.lit (.bool true))).value [] { args:=args,res:=some (.bool true),after:=args } = some (.bool (true == true))from w_eq_bool (w_res rfl) w_lit) rfl
section
variable {prog:Program} {w:World} {A:Around} {E:Value -> Shared -> Prop} {s:Shared} {K:Frag}
noncomputable def KU (h:Heap) (L d:Addr):List (Addr × Obj):=(List.range h.objs.size).filterMap fun a=>if a = L \/ a = d then none else (h.get? a).map fun o=>(a,o)
end
end Att
namespace L2
open PySem PySem.Spec PyProof.Rows
theorem uY:∀ {vs:List Value} {ns:List Int},IntsAre vs ns -> Vals (ns.map V.int) vs
 | _,_,.nil=>.nil
 | _,_,.cons n t h=>.cons #[t,rfl] (uY h)
end L2
namespace L2
open PySem PySem.Spec PyProof.Rows
end L2
namespace L2
open PySem PySem.Spec PyProof.Rows
noncomputable def xw (s:Stmt) (j:Nat):Stmt:=match s with
 | .ClassDef _ _ _ body _ _ _ _ _ _ _=>body.getD j (.Pass #[0,0,0,0])
 | _=>.Pass #[0,0,0,0]
noncomputable def yh (s:Stmt):Arguments:=match s with
 | .FunctionDef _ a _ _ _ _ _ _ _ _=>a
 | _=>{ posonlyargs:=[],args:=[],vararg:=none,kwonlyargs:=[],kw_defaults:=[],kwarg:=none,defaults:=[] }
noncomputable def zO (s:Stmt):List Stmt:=match s with
 | .FunctionDef _ _ b _ _ _ _ _ _ _=>b
 | _=>[]
noncomputable def ze (s:Stmt):Scope:=match s with
 | .FunctionDef _ _ _ _ _ _ sc _ _ _=>sc
 | _=>{ kind:=.function,names:=[],isGenerator:=false,isCoroutine:=false }
abbrev CX0:CXT:=fun _ _ _ _ _ _=>False
noncomputable abbrev E0:XK:=fun _ _ _=>False
theorem kR {X:Cx}:wf CX0 X E0:=fun _ _ _ _ _ _ _ h=>h.elim
structure Fun (K:PySem.W.Frag) (x qual:Str) (st:Stmt) (f:Addr) (fd:FuncData):Prop where
 ex:∃ (oc:Value) (od:Option Addr) (kV doc pm:Value) (an:Option Addr) (cdv ct:Value) (osl:Array (Option Value)),
  fd = PySem.W.fnOf x qual (yh st) (zO st) (ze st) .none kV doc pm an cdv ct /\ K.lookup f = some #[oc,od,.func fd,osl] /\ PySem.W.codeIn K cdv qual = true
 kp:PySem.W.keepIn K (.ref f) = true
section
variable {P:Program} {w:World} {K:PySem.W.Frag} {mg:Str -> Option Value} {base:Heap}
theorem Fun.ok {x qual:Str} {st:Stmt} {f:Addr} {fd:FuncData} {N ps:List Str} {k:Nat} {sp:Sp} (F:Fun K x qual st f fd) (S:zn N ps (ze st)) (len:∀ vs H Q E,sp vs H Q E -> vs.length = ps.length)
  (hbody:∀ (cdv:Value) (A:Around) (outer:List Env) (s:Shared) (H:Hp) (vs:List V) (Q:VK) (E:XK),Room k (A.deeper (envOfC qual (ze st) s⁻¹ f cdv)) -> sp vs H Q E ->
   ∃ t,PSs (wA CX0 P w K mg base N qual (ze st) f cdv A outer s H E).nox (zO st) t /\ t { nx:=fun _ H'=>Q .non H',rt:=Q } (start N vs) H):FnOk P w K mg base CX0 (k + 1) f fd ps sp:=by
 obtain ⟨oc,od,kV,doc,pm,an,cdv,ct,osl,rfl,lk,hcd⟩:=F.ex;refine Wg lk hcd S len fun A outer s H vs Q E hr hsp=>?_;obtain ⟨t,h,q⟩:=hbody cdv A outer s H vs Q E hr hsp;exact #[t,h.nox,q]
theorem Fun.binds {x qual:Str} {st:Stmt} {f:Addr} {fd:FuncData} {ps:List Str} (F:Fun K x qual st f fd)
  (h:∀ (kV doc pm:Value) (an:Option Addr) (cdv ct:Value) (us:List Value),us.length = ps.length -> bindArgs (PySem.W.fnOf x qual (yh st) (zO st) (ze st) .none kV doc pm an cdv ct) #[us,[]] = pure (ps.zip us)):Binds K fd ps []:=by
 obtain ⟨oc,od,kV,doc,pm,an,cdv,ct,osl,rfl,lk,hcd⟩:=F.ex;exact .all (h kV doc pm an cdv ct)
theorem fun_mk {x qual:Str} {st:Stmt} {f:Addr} {oc:Value} {od an:Option Addr} {osl:Array (Option Value)} {kV doc pm cdv ct:Value} (l:K.lookup f = some #[oc,od,.func (PySem.W.fnOf x qual (yh st) (zO st) (ze st) .none kV doc pm an cdv ct),osl])
  (c:PySem.W.codeIn K cdv qual = true) (k:PySem.W.keepIn K (.ref f) = true):Fun K x qual st f (PySem.W.fnOf x qual (yh st) (zO st) (ze st) .none kV doc pm an cdv ct):=#[#[oc,od,kV,doc,pm,an,cdv,ct,osl,rfl,l,c],k]
end
section
variable {X:Cx}
theorem pv (i:Nat) {x:Str} {pos:Pos} (hN:X.N[i]? = some x:=by rfl) (hv:Vis X.env.scope x:=by first | exact Or.inl rfl | exact Or.inr (.inl rfl) | exact Or.inr (Or.inr rfl)) (hd:(x ==("__debug__" : Str)) = false:=by decide)
  (hcd:(x ==("__classdict__" : Str)) = false:=by decide):PE X (.Name x pos) (yf i):=UX hN hv hd hcd
end
theorem K9 {A B:Prop} (h:A):if true = true then A else B:=by
 rw [if_pos rfl];exact h
theorem xC {c A B:Prop} [Decidable c] (h1:c -> A) (h2:¬ c -> B):if c then A else B:=by
 by_cases h:c
 ·rw [if_pos h];exact h1 h
 ·rw [if_neg h];exact h2 h
def Same (H H':Hp):Prop:=∀ b o,H b = some o -> H' b = some o
theorem Same.refl (H:Hp):Same H H:=fun _ _ h=>h
theorem Same.trans {H H1 H2:Hp} (a:Same H H1) (b:Same H1 H2):Same H H2:=fun c o h=>b c o (a c o h)
theorem Same.free {H H':Hp} (e:Same H H') {l:Addr} (h:H' l = Option.none):H l = Option.none:=by
 cases q:H l with
 | none=>rfl
 | some o =>
  rw [e l o q]at h;cases h
theorem Same.seq {K:PySem.W.Frag} {H H':Hp} {a:Addr} {xs:List V} (e:Same H H') (h:SqL K H a xs):SqL K H' a xs:=by
 rcases h with (h | ⟨o,h⟩) | h
 ·exact .inl (.inl (e _ _ h))
 ·exact .inl (.inr #[o,e _ _ h])
 ·exact .inr h
end L2
namespace L3
open PySem PySem.Spec PyProof.Rows L2
noncomputable abbrev St:=L2.St
noncomputable abbrev cs (x:Str):():=x.cps.toList
noncomputable abbrev tx (l:()):Str:=⟨l.toArray⟩
theorem Qd (x:Str):tx (cs x) = x:=by cases x; rfl
theorem YC (l:()):cs (tx l) = l:=rfl
theorem WR (x:Str):x.length =(cs x).length:=by simp [Str.length,cs]
theorem zL (l:()):(tx l).length = l.length:=by simp [Str.length,tx]
theorem YI {x y:Str} (h:cs x = cs y):x = y:=by rw [<- Qd x,<- Qd y,h]
theorem wL {l m:()} (h:tx l = tx m):l = m:=by rw [<- YC l,<- YC m,h]
theorem Jf {l m:()}:tx l = tx m ↔ l = m:=#[wL,fun h=>by rw [h]]
theorem xN (l m:()):tx l ++ tx m = tx (l ++ m):=by
 apply YI;show (tx l ++ tx m).cps.toList = l ++ m;rw [Str.cps_append];simp
noncomputable def cut {α:Type} (l:List α) (lo hi:Option Int):List α:=(l.drop (HT.sIx l.length 0 lo)).take (HT.sIx l.length l.length hi - HT.sIx l.length 0 lo)
theorem wT {α:Type} (l:List α) (lo hi:Option Int):(cut l lo hi).length <= l.length:=by
 unfold cut;rw [List.length_take,List.length_drop];lia
theorem ZP (a b:Nat):sliceRange (a:Int) (b:Int) 1 =(List.range (b - a)).map (fun k=>a + k):=by
 unfold sliceRange
 have e:(if (1:Int) > 0 then (if (a:Int) < b then ((b:Int) - a + 1 - 1) / 1 else 0)else (if (a:Int) > b then ((a:Int) - b - 1 - 1) / (-1)else 0)).toNat = b - a:=by
  rw [if_pos ∅];by_cases h:(a:Int) < b
  ·rw [if_pos h,Int.ediv_one]; lia
  ·rw [if_neg h]; lia
 show (List.range ((if (1:Int) > 0 then (if (a:Int) < b then ((b:Int) - a + 1 - 1) / 1 else 0)else (if (a:Int) > b then ((a:Int) - b - 1 - 1) / (-1)else 0)).toNat)).map _ = _;rw [e];refine List.map_congr_left fun k _=>?_;lia
theorem UM (lo hi:Option Int) (n:Nat):Builtin.Str.strSliceIndices lo hi 1 n =(List.range (HT.sIx n n hi - HT.sIx n 0 lo)).map (fun k=>HT.sIx n 0 lo + k):=by
 rw [<- ZP]
 have clip:∀ (v:Int) (d:Nat),max 0 (min (if v < 0 then v + (n:Int)else v) (n:Int)) =((HT.sIx n d (some v):Nat):Int):=fun v d=>by
  show _ =(((if v < 0 then (v + (n:Int)).toNat else min v.toNat n):Nat):Int);by_cases hv:v < 0
  ·simp only [if_pos hv]; lia
  ·simp only [if_neg hv]; lia
 have h1:((1:Int) > 0) = True:=by simp
 unfold Builtin.Str.strSliceIndices
 cases lo with
 | none =>
  cases hi with
  | none=>simp only [h1,if_true]; rfl
  | some j=>simp only [h1,if_true,clip j n]; rfl
 | some i =>
  cases hi with
  | none=>simp only [h1,if_true,clip i 0]; rfl
  | some j=>simp only [h1,if_true,clip i 0,clip j n]
theorem YK (x:Str) (lo hi:Option Int):Txt.slice x lo hi = tx (cut (cs x) lo hi):=by
 have hn:x.length = x.cps.toList.length:=WR x;have hj:HT.sIx x.length x.length hi <= x.length:=HT.sIx_le _ _ (Nat.le_refl _) hi;have hi0:HT.sIx x.length 0 lo <= x.length:=HT.sIx_le _ _ (Nat.zero_le _) lo;unfold Txt.slice;rw [UM];split
 ·rename_i h;have h':HT.sIx x.length x.length hi - HT.sIx x.length 0 lo = x.length:=by simpa using h
  apply YI;show x.cps.toList = cut x.cps.toList lo hi;unfold cut;rw [<- hn];by_cases z:x.length = 0
  ·have:x.cps.toList = []:=List.eq_nil_of_length_eq_zero ⋯;rw [this]; simp
  ·have e0:HT.sIx x.length 0 lo = 0:=⋯;rw [e0]at h' ⊢;rw [h',List.drop_zero,hn,List.take_length]
 ·apply YI;have h:=StrLaws.picks x.cps.toList (HT.sIx x.length x.length hi - HT.sIx x.length 0 lo) (HT.sIx x.length 0 lo) ⋯;show (List.filterMap (fun k=>x.cps[k]?) _).toArray.toList = cut x.cps.toList lo hi;unfold cut;rw [<- hn];simpa using h
section
variable {X:Cx}
theorem ZT {v:Value} {o:Option Int} (p:IsPart v o):∃ l:Option (Int × Tok),v = partValue l /\ l.map (·.1) = o:=by
 cases p with
 | none=>exact #[none,rfl,rfl]
 | int i t=>exact #[some (i,t),rfl,rfl]
def QT:V -> Option Int -> Option Int -> Hp -> VK -> Prop:=fun x lo hi H Q=>onStr x fun z=>z.length <= sizeLine /\ Q (.str (tx (cut (cs z) lo hi))) H
theorem qh:SlR X QT:=by
 intro pins s σ H x v vl vu lo hi sl Q I rx hs pl pu h;obtain ⟨z,rfl,hz,q⟩:=onStr.of h;obtain ⟨t,rfl⟩:=rx;obtain ⟨l,rfl,el⟩:=ZT pl;obtain ⟨u,rfl,eu⟩:=ZT pu;refine #["str",_,slot_str_getitem.lookup,typeIs_str s z t,?_];refine wpAny_getItem_str_slice (l:=l) (u:=u) (st:=none) hs rfl ?_;have e:Txt.slice z lo hi = tx (cut (cs z) lo hi):=YK z lo hi;have hl:(tx (cut (cs z) lo hi)).length <= sizeLine:=by rw [zL]; have:=wT (cs z) lo hi; rw [<- WR]at this; lia
 unfold sliceMade slicePicked;rw [el,eu];unfold Txt.slice at e;by_cases hc:((1:Int) == 1 && (Builtin.Str.strSliceIndices lo hi 1 z.length).length == z.length) = true
 ·rw [if_pos hc]at e;have hc':(((none:Option (Int × Tok)).map (·.1)).getD 1 == 1 && (Builtin.Str.strSliceIndices lo hi (((none:Option (Int × Tok)).map (·.1)).getD 1) z.length).length == z.length) = true:=hc;rw [if_pos hc'];exact #[.str (tx (cut (cs z) lo hi)),H,I,#[t,by rw [<- e]],q]
 ·rw [if_neg hc]at e;have hc':¬ (((none:Option (Int × Tok)).map (·.1)).getD 1 == 1 && (Builtin.Str.strSliceIndices lo hi (((none:Option (Int × Tok)).map (·.1)).getD 1) z.length).length == z.length) = true:=hc;rw [if_neg hc'];show (Str.mk ((Builtin.Str.strSliceIndices lo hi 1 z.length).filterMap (z.cps[·]?)).toArray).length <= sizeLine /\ _;rw [e];refine #[hl,?_]
  exact #[.str (tx (cut (cs z) lo hi)),H,I.tok _,#[_,by
   show Value.str (Str.mk ((Builtin.Str.strSliceIndices lo hi 1 z.length).filterMap (z.cps[·]?)).toArray) _ = _
   rw [e]],q]
theorem YN:OpR X (compareOp .LtE) (fun x y H Q=>∃ i j,x = .str i /\ y = .str j /\ Q (.bl (!(decide (cs j < cs i)))) H):=by
 intro pins s σ H x y v u Q I rx ry h;obtain ⟨i,j,rfl,rfl,q⟩:=h;obtain ⟨t,rfl⟩:=rx;obtain ⟨t',rfl⟩:=ry;exact PySem.P.le_str #[.bl _,H,I,rfl,q]
theorem Xl:MtR X "str.count" (fun x xs H Q=>∃ z y,x = .str z /\ xs = [.str y] /\ Q (.int (Txt.count z y)) H):=by
 intro pins s σ H x xs v us Q I rx rv h;obtain ⟨z,y,rfl,rfl,q⟩:=h;obtain ⟨t,rfl⟩:=rx;obtain ⟨u,rfl,t',rfl⟩:=xa rv;exact PySem.SC.count #[.int _,H,I.tok _,#[_,rfl],q]
theorem VH:MtR X "str.find" (fun x xs H Q=>∃ z y,x = .str z /\ xs = [.str y] /\ Q (.int (Txt.find z y)) H):=by
 intro pins s σ H x xs v us Q I rx rv h;obtain ⟨z,y,rfl,rfl,q⟩:=h;obtain ⟨t,rfl⟩:=rx;obtain ⟨u,rfl,t',rfl⟩:=xa rv;exact PySem.SC.find #[.int _,H,I.tok _,#[_,rfl],q]
end
end L3
namespace L3
open PySem PySem.Spec PyProof.Rows L2
section
variable {X:Cx} {pins:List (Addr × Obj)} {σ:St} {H:Hp} {s:Shared} {fp:List Addr} {h':Heap} {t':Nat}
theorem Inv.turns (I:Inv X pins σ H s) (k:∀ b o,b ∉ fp -> s.heap.get? b = some o -> h'.get? b = some o) (hf:∀ b ∈ fp,yV X pins H b):Inv X pins σ H { s with heap:=h',toks:=t' }:=by
 have nit:∀ b u,H b = some u -> b ∉ fp:=fun b u e z=>by rw [(hf b z).1]at e; cases e
 refine I.step (g':=s.gens) (d':=s.drawn) (ch:=fp) (fun b hb=>?_) (fun b o _ _ hc e _=>k b o hc e) (fun b o _ _ hc e _=>#[o.slots,k b o hc e]) (fun _ _ _ _ n=>n)
  (fun b o hc e=>#[o,k b o hc e]) (fun _ _ e=>e) (fun _ _ _ e=>e) (fun b ps e=>#[#[],by rw [e]; simp]) (fun m hm=>?_) (fun b u e=>?_) I.bare
 ·obtain ⟨_,a1,_,a3,a4,a5⟩:=hf b hb;exact #[a3,a1,a4,a5]
 ·obtain ⟨o,es,ep,ho,r⟩:=hm;exact #[o,es,ep,k _ o (fun z=>(hf _ z).2.1 rfl) ho,r]
 ·refine (I.hok b u e).stay (fun c v hc q=>k c v ?_ q) (fun _ q=>q) fun _ _ q=>q;rcases hc with z | z
  ·rw [z]; exact nit b u e
  ·exact nit c _ z
theorem Inv.track {a:Addr} {o:HO} (I:Inv X pins σ H s) (fa:yV X pins H a) (new:ObjOk X.prog X.w (upd H a o) s.heap a o):Inv X pins σ (upd H a o) s:=by
 obtain ⟨a0,a1,a2,a3,a4,a5⟩:=fa;have e:s = { s with heap:=s.heap,gens:=s.gens,drawn:=s.drawn,toks:=s.toks }:=rfl;rw [e]
 refine I.step (g':=s.gens) (d':=s.drawn) (ch:=[a]) (fun b hb=>?_) (fun b o _ _ _ e _=>e) (fun b o _ _ _ e _=>#[o.slots,e]) (fun b o hc _ n=>?_)
  (fun b o _ e=>#[o,e]) (fun b xs e=>?_) (fun b u xs e=>?_) (fun b ps e=>?_) (fun m hm=>hm) (fun b u e=>?_) I.bare
 ·have eb:b = a:=by simpa using hb
  subst eb;exact #[a3,a1,a4,a5]
 ·rw [zk (by simpa using hc)]; exact n
 ·rw [zk (zv e a0)]; exact e
 ·rw [zk (zv e a0)]; exact e
 ·exact #[#[],by rw [zk (zv e a0),e]; simp]
 ·by_cases hb:b = a
  ·subst hb; rw [zb]at e; cases e; exact new
  ·rw [zk hb]at e;exact (I.hok b u e).stay (fun c v _ q=>q) (fun c q=>by rw [zk (zv q a0)]; exact q) fun c xs q=>by rw [zk (zv q a0)]; exact q
end
noncomputable def Its (x:Str):It:=#[fun i _=>i < (cs x).length,fun i H v H'=>H' = H /\ ∃ c,(cs x)[i]? = some c /\ v = .str (tx [c]),fun i _=>i =(cs x).length]
theorem Xy {P:Program} {w:World} {K:PySem.W.Frag} {tg:Expr} {ty:String} (hty:["enumerate", "zip", "dict_itemiterator", "dict_reverseitemiterator", "odict_iterator", "itertools.zip_longest", "itertools.pairwise"].contains ty = false) (it:Addr) (x:Str) (t:Tok)
  (W:∀ A:Around,A.handled = none -> Walks P w A it [it] [it] x.cps.size (SignAt x) fun i h=>h.IsStrIter it ty x t i)
  (S:∀ (A:Around) (i:Nat) (s:Shared) (Q:Value -> Shared -> Prop) (E:Value -> Shared -> Prop),s.heap.IsStrIter it ty x t i -> Q (.ref it) s -> wpAny (model P w) A (pyIter (.ref it)) Q E s) :
  Wq P w K tg (Its x) [it] it (fun i h=>h.IsStrIter it ty x t i) where
 mem:=by simp
 obj:=fun i h st b hb=>by
  have e:b = it:=by simpa using hb
  subst e;obtain ⟨o,e,c,d⟩:=st;exact #[o,e,fun v z=>by rw [d]at z; cases z]
 keep:=fun i h h' st k=>let #[o,e,r]:=st; #[o,k it (by simp) o e,r]
 item:=by
  intro X hP hw hK hc i pins s σ H E I hf st hg;subst hP hw hK;obtain ⟨f0,f1,f2,f3,f4,f5⟩:=hf it (by simp);have hg':i < x.cps.size:=by have:i < x.cps.toList.length:=hg; simpa using this
  refine (W X.A (I.ok.hd hc)).item i s _ _ hg' st fun v h' tk hv st' kk=>?_;obtain ⟨c,u,hcc,rfl⟩:=hv;have I1:Inv X pins σ H { s with heap:=h',toks:=tk }:=I.turned (fun b o hb e=>kk b o (by simpa using hb) e) f0 f1 f3 f4 f5;obtain ⟨o,e,cl,d⟩:=id st';refine #[_,rfl,Xs (s:={ s with heap:=h',toks:=tk }) e cl d hty #[.str (tx [c]),H,I1,#[u,rfl],#[rfl,c,?_,rfl],st',fun b hb=>(hf b hb).1]];show x.cps.toList[i]? = some c;simpa using hcc
 done:=by
  intro X hP hw hK hc i pins s σ H E I hf st hg;subst hP hw hK;obtain ⟨f0,f1,f2,f3,f4,f5⟩:=hf it (by simp);have hi:i = x.cps.size:=by have:i = x.cps.toList.length:=hg; simpa using this
  rw [hi]at st;exact (W X.A (I.ok.hd hc)).done s _ _ st fun h' tk kk=>#[rfl,I.turned (fun b o hb e=>kk b o (by simpa using hb) e) f0 f1 f3 f4 f5]
 self:=fun A i s Q E st h=>S A i s Q E st h
section
variable {X:Cx} {tg:Expr}
def Jl (tl:TE):TI:=fun σ H R=>tl σ H fun v H1=>∃ x,v = .str x /\ R (Its x) H1
theorem Zj {l:Expr} {tl:TE} (hl:PE X l tl):PI X tg l (Jl tl):=by
 intro pins s σ H R I h;refine thn (hl pins s σ H _ I h) fun v s1=>el5 fun y H1 I1 r1 q1=>?_;obtain ⟨x,e,q⟩:=q1;subst e;obtain ⟨t,rfl⟩:=r1
 have fin:∀ (ty:String) (hty:["enumerate", "zip", "dict_itemiterator", "dict_reverseitemiterator", "odict_iterator", "itertools.zip_longest", "itertools.pairwise"].contains ty = false)
   (W:∀ A:Around,A.handled = none -> Walks X.prog X.w A s1⁻¹ [s1⁻¹] [s1⁻¹] x.cps.size (SignAt x) fun i h=>h.IsStrIter s1⁻¹ ty x t i)
   (S:∀ (A:Around) (i:Nat) (s:Shared) (Q:Value -> Shared -> Prop) (E:Value -> Shared -> Prop),s.heap.IsStrIter s1⁻¹ ty x t i -> Q (.ref s1⁻¹) s -> wpAny (model X.prog X.w) A (pyIter (.ref s1⁻¹)) Q E s),
   PIE X pins σ tg R (.ref s1⁻¹) { s1 with heap:=s1.heap.push { cls:=.type ty,data:=.fields (List.toArray [.str x t,.int 0 0]) } }:=fun ty hty W S=>by
  refine #[s1⁻¹,[s1⁻¹],_,_,H1,rfl,I1.kept (t':=s1.toks) fun b o e=>Heap.get?_push_of_some _ e,Xy hty _ x t W S,#[_,Heap.get?_push_size _ rfl,rfl,rfl],fun b hb=>?_,q];have e:b = s1⁻¹:=by simpa using hb
  subst e;exact I1.fpOk (Nat.le_refl _) (I1.hok.fresh (Nat.le_refl _))
 cases ha:x.cps.all (· < 128)
 ·exact wpAny_pyIter_wide ha (fin "str_iterator" ∅ (fun A hA=>Walks.strWide hA _ x t) fun A i s Q E st h=>wpAny_pyIter_striter_wide st h)
 ·exact wpAny_pyIter_ascii ha (fin "str_ascii_iterator" ∅ (fun A hA=>Walks.strAscii hA _ x t) fun A i s Q E st h=>wpAny_pyIter_striter_ascii st h)
end
theorem VQ {x:Str} {g:TG} {tb:TS} {D:xW} {σ:St} {H:Hp} (Pv:Nat -> St -> Hp -> Prop) (h0:Pv 0 σ H)
  (hs:∀ i c σ H,(cs x)[i]? = some c -> Pv i σ H -> g (.str (tx [c])) σ H fun σ2 H2=>tb { D with nx:=Pv (i + 1),ct:=Pv (i + 1),bk:=D.nx } σ2 H2) (hd:∀ σ H,Pv (cs x).length σ H -> D.nx σ H) :
  ∃ W:Nat -> Nat -> St -> Hp -> Prop,(∃ m,W 0 m σ H) /\ ∀ i m σ H,W i m σ H ->
   ((Its x).stop i H /\ D.nx σ H) \/ ((Its x).go i H /\ ∃ N:St -> Hp -> Prop,(∀ σ' H',N σ' H' -> ∃ m',m' < m /\ W (i + 1) m' σ' H') /\ ∀ v H',(Its x).yld i H v H' -> g v σ H' fun σ2 H2=>tb { D with nx:=N,ct:=N,bk:=D.nx } σ2 H2):=by
 refine #[fun i m σ H=>m =(cs x).length - i /\ i <=(cs x).length /\ Pv i σ H,#[(cs x).length,by simp,Nat.zero_le _,h0],?_];rintro i m σ H ⟨rfl,hi,p⟩;by_cases hlt:i < (cs x).length
 ·refine .inr #[hlt,Pv (i + 1),fun σ' H' p'=>#[(cs x).length - (i + 1),⋯,rfl,hlt,p'],fun v H' y=>?_];obtain ⟨e,c,hc,ev⟩:=y;subst e ev;exact hs i c σ _ hc p
 ·have e:i =(cs x).length:=⋯;subst e;exact .inl #[rfl,hd σ H p]
noncomputable def Ite (x:Str):It:=#[fun i _=>i < (cs x).length,fun i H v H'=>∃ p c,H p = none /\ (cs x)[i]? = some c /\ v = .ref p /\ H' = upd H p (.tup [.int (i:Nat),.str (tx [c])]),fun i _=>i =(cs x).length]
section
variable {X:Cx}
def J6 (ta:TA):TI:=fun σ H R=>ta σ H fun vs H1=>∃ x,vs = [.str x] /\ R (Ite x) H1
end
end L3
namespace L3
open PySem PySem.Spec PyProof.Rows L2
theorem wc {env:Env}:∀ (names:List (Str × NameKind)) (acc:List (Str × Addr)),
    (∀ y,(y,NameKind.free) ∈ names -> ∃ c,env.cells.lookup y = some c) -> (∀ y c,acc.lookup y = some c -> env.cells.lookup y = some c) ->
    ∃ cl,(forIn names acc fun (x:Str × NameKind) (cs:List (Str × Addr))=>if (x.2 == NameKind.free) = true then (do let a <- cellOf env x.1; pure (ForInStep.yield ((x.1,a) :: cs)))else pure (ForInStep.yield cs):Sem (List (Str × Addr))) = pure cl /\
      (∀ y c,cl.lookup y = some c -> env.cells.lookup y = some c) /\ (∀ y,(y,NameKind.free) ∈ names \/ (acc.lookup y).isSome = true -> ∃ c,cl.lookup y = some c)
  | [],acc,_,ha=>#[acc,rfl,ha,fun y h=>by
      rcases h with h | h
      · cases h
      · exact ao.mp h]
  | (n,k) :: r,acc,hn,ha=>by
    by_cases hk:k = NameKind.free
    · subst hk;obtain ⟨c,hc⟩:=hn n (by simp)
      have ha':∀ y d,((n,c) :: acc).lookup y = some d -> env.cells.lookup y = some d:=fun y d e=>by
        rw [List.lookup_cons]at e;by_cases hy:(y == n) = true
        · rw [hy]at e;have:y = n:=eq_of_beq hy;subst this;cases e;exact hc
        · have hy':(y == n) = false:=by simpa using hy
          rw [hy']at e;exact ha y d e
      obtain ⟨cl,e,h1,h2⟩:=wc r ((n,c) :: acc) (fun y hy=>hn y (List.mem_cons_of_mem _ hy)) ha';refine #[cl,?_,h1,fun y hy=>h2 y ?_]
      · rw [List.forIn_cons];have ec:cellOf env n = pure c:=by unfold cellOf; rw [hc]
        simp only [beq_self_eq_true,if_true,ec,pure_bind];exact e
      · rcases hy with hy | hy
        · rcases ac.mp hy with q | q
          · cases q;exact .inr (by simp)
          · exact .inl q
        · refine .inr ?_;rw [List.lookup_cons];by_cases hyn:(y == n) = true
          · rw [hyn]; rfl
          · have hy':(y == n) = false:=by simpa using hyn
            rw [hy']; exact hy
    · obtain ⟨cl,e,h1,h2⟩:=wc r acc (fun y hy=>hn y (List.mem_cons_of_mem _ hy)) ha;refine #[cl,?_,h1,fun y hy=>h2 y ?_]
      · rw [List.forIn_cons];have ek:(k == NameKind.free) = false:=by simpa using hk
        simp only [ek,Bool.false_eq_true,if_false,pure_bind];exact e
      · rcases hy with hy | hy
        · rcases ac.mp hy with q | q
          · cases q; exact absurd rfl hk
          · exact .inl q
        · exact .inr hy
theorem yP {scope:Scope} {env:Env} (hn:∀ y,(y,NameKind.free) ∈ scope.names -> ∃ c,env.cells.lookup y = some c) :
  ∃ cl,closureFor scope env = pure cl /\ (∀ y c,cl.lookup y = some c -> env.cells.lookup y = some c) /\ (∀ y,(y,NameKind.free) ∈ scope.names -> ∃ c,cl.lookup y = some c):=by
 obtain ⟨cl,e,h1,h2⟩:=wc scope.names [] hn (fun y c h=>by cases h);refine #[cl,?_,h1,fun y hy=>h2 y (.inl hy)];unfold closureFor;simp only [bind_pure];exact e
noncomputable abbrev YS (ifs:List Expr) (env:Env):Sem Bool :=
 forIn ifs true fun c r=>if r = true then (do let ok <- isTrue c env (eval c env); pure (ForInStep.yield ok))else pure (ForInStep.yield r)
theorem qG {prog:Program} {w:World} {A:Around} {R:Result -> Shared -> Prop} {s:Shared} {elt tg iter:Expr} {ifs:List Expr} {scope:Scope} {pos:Pos} {it acc:Value} {env:Env}
  (I:Nat -> Shared -> Prop) {EE:Value -> Shared -> Prop} (hEE:EE = notedBy (model prog w) A env fun e s'=>R (.error e) s')
  (turn:∀ n s,I n s -> wpAny (model prog w) A (pyNext it) (fun r s1=>match r with
   | none=>R (.ok .next) s1
   | some v=>wpAny (model prog w) A (letOwnedTupleGo tg it v) (fun _ s2=>wpAny (model prog w) A (assign tg env v) (fun _ s3 =>
     wpAny (model prog w) A (YS ifs env) (fun ok s4=>if ok = true then
      wpAny (model prog w) A (eval elt env) (fun x s5=>wpAny (model prog w) A (call (.builtin "list.append") [acc,x]) (fun _ s6=>∃ m,m < n /\ I m s6) EE s5) EE s4
      else ∃ m,m < n /\ I m s4) EE s3) EE s2) EE s1) EE s) (n:Nat) (h:I n s) :
  codeAny (model prog w) A (.compLoop (.ListComp elt [#[tg,iter,ifs,0]] scope pos) 0 it acc env) R s:=by
 subst hEE;refine codeAny_loop rfl I (fun n s hI=>?_) n h;show wpAny _ A ((compTurn (.ListComp elt [#[tg,iter,ifs,0]] scope pos) 0 it acc env).onRaise (fun x=>do noteFrame x env; theTreesLotGoes x)) _ _ s;refine wpAny_noted ?_;rw [compTurn_list];refine wpAny_bind (wpAny_standAt (wpAny_bind (thn (turn n s hI) fun r s1 h1=>?_)))
 cases r with
 | none=>exact wpAny_pure h1
 | some v =>
  refine wpAny_bind (thn h1 fun _ s2 h2=>wpAny_bind (thn h2 fun _ s3 h3=>wpAny_bind (thn h3 fun ok s4 h4=>?_)))
  cases ok with
  | false=>exact wpAny_pure #[rfl,h4]
  | true=>exact wpAny_bind (wpAny_bind (thn h4 fun x s5 h5=>wpAny_bind (thn h5 fun _ s6 h6=>wpAny_pure (wpAny_pure #[rfl,h6]))))
noncomputable def zI (X:Cx) (scope:Scope) (cl:List (Str × Addr)) (C:Addr) (N:List Str) (pins:List (Addr × Obj)) (s3:Shared) (H3:Hp) (fp:List Addr) (E:Value -> Shared -> Prop):Cx :=
 { X with N:=N,s₀:=s3,H₀:=H3,env:=compEnvC scope cl C X.env,outer:=X.stack,ex:=fp,fn:=fun _=>false,pn:=X.pn ++ pins,xe:=E }
noncomputable def xD (σ:St) (own:Nat) (ix:()):St:=List.replicate own none ++ ix.map fun i=>(σ[i]?).join
structure xP (X:Cx) (scope:Scope) (own caps:List Str) (ix:()):Prop where
 kind:scope.kind = .function
 nocell:∀ y ∈ scope.names,y.2 ≠ .cell
 names:∀ y ∈ scope.names,y.2 = .local -> scope.names.lookup y.1 = some .local
 free:∀ y,(y,NameKind.free) ∈ scope.names -> X.env.kindOf y = some .cell \/ X.env.kindOf y = some .free
 hown:∀ y ∈ own,scope.names.lookup y = some .local
 hcaps:∀ y ∈ caps,scope.names.lookup y = some .free
 hix:ix.map (fun i=>X.N[i]?) = caps.map some
theorem yL {α β:Type} [BEq α] [LawfulBEq α] {l:List (α × β)} {a:α} {b:β} (h:l.lookup a = some b):(a,b) ∈ l:=by
 induction l with
 | nil=>cases h
 | cons p r ih =>
  obtain ⟨c,d⟩:=p;rw [List.lookup_cons]at h;by_cases e:(a == c) = true
  ·rw [e]at h;cases h;rw [eq_of_beq e];exact List.mem_cons_self
  ·have e':(a == c) = false:=by simpa using e
   rw [e']at h;exact List.mem_cons_of_mem _ (ih h)
theorem xt {scope:Scope} {env:Env} (hf:env.scope.kind = .function):∀ {names:List (Str × NameKind)} {x:Str} {k:NameKind},names.lookup x = some k ->
    (names.map fun (n,k)=>if (k == NameKind.free && env.scope.kind == .function && env.kindOf n == some .cell)then (n,NameKind.cell)else (n,k)).lookup x = some (if (k == NameKind.free && env.scope.kind == .function && env.kindOf x == some .cell) = true then .cell else k)
  | [],_,_,h=>by simp at h
  | (n,k') :: r,x,k,h=>by
    have ih:=@xt scope env hf r x k;show List.lookup x ((if (k' == NameKind.free && env.scope.kind == .function && env.kindOf n == some .cell) = true then (n,NameKind.cell)else (n,k')) :: _) = _;by_cases hx:(x == n) = true
    · have hxn:x = n:=eq_of_beq hx;subst hxn;rw [List.lookup_cons,hx]at h;cases h;by_cases c:(k' == NameKind.free && env.scope.kind == .function && env.kindOf x == some .cell) = true
      · rw [if_pos c,if_pos c,List.lookup_cons,hx]
      · rw [if_neg c,if_neg c,List.lookup_cons,hx]
    · have hx':(x == n) = false:=by simpa using hx
      rw [List.lookup_cons,hx']at h;by_cases c:(k' == NameKind.free && env.scope.kind == .function && env.kindOf n == some .cell) = true
      · rw [if_pos c,List.lookup_cons,hx']; exact ih h
      · rw [if_neg c,List.lookup_cons,hx']; exact ih h
theorem wl {scope:Scope} {env:Env}:∀ {names:List (Str × NameKind)} {x:Str},names.lookup x = none ->
    (names.map fun (n,k)=>if (k == NameKind.free && env.scope.kind == .function && env.kindOf n == some .cell)then (n,NameKind.cell)else (n,k)).lookup x = none
  | [],_,_=>rfl
  | (n,k') :: r,x,h=>by
    have ih:=@wl scope env r x;show List.lookup x ((if (k' == NameKind.free && env.scope.kind == .function && env.kindOf n == some .cell) = true then (n,NameKind.cell)else (n,k')) :: _) = _;by_cases hx:(x == n) = true
    · rw [List.lookup_cons,hx]at h; cases h
    · have hx':(x == n) = false:=by simpa using hx
      rw [List.lookup_cons,hx']at h;by_cases c:(k' == NameKind.free && env.scope.kind == .function && env.kindOf n == some .cell) = true
      · rw [if_pos c,List.lookup_cons,hx']; exact ih h
      · rw [if_neg c,List.lookup_cons,hx']; exact ih h
section
variable {X:Cx} {scope:Scope} {own caps:List Str} {ix:()} {cl:List (Str × Addr)} {pins:List (Addr × Obj)} {σ:St} {H:Hp} {s:Shared} {fp:List Addr} {E:Value -> Shared -> Prop}
theorem vz (S:xP X scope own caps ix) (hcl1:∀ y c,cl.lookup y = some c -> X.env.cells.lookup y = some c) (hcl2:∀ y,(y,NameKind.free) ∈ scope.names -> ∃ c,cl.lookup y = some c)
  (I:Inv X pins σ H s) (hfp:∀ b ∈ fp,yV X pins H b) (hlt:∀ b ∈ fp,b < s⁻¹) {h4:Heap} {t4:Nat} (hn:h4.Ns s⁻¹ fun _=>none) (hk:∀ b o,s.heap.get? b = some o -> h4.get? b = some o) :
  Inv (zI X scope cl s⁻¹ (own ++ caps) pins s H fp E) [] (xD σ own.length ix) H { s with heap:=h4,toks:=t4 }:=by
 have kf:X.env.scope.kind = .function:=I.ok.kind;have nofp:∀ b ∈ fp,b ≠ s⁻¹:=fun b hb=>Nat.ne_of_lt (hlt b hb)
 have cellLt:∀ x c,X.env.cells.lookup x = some c -> c < s⁻¹:=fun x c e=>by
  obtain ⟨v,o,ho,_⟩:=I.cell x c e;exact Heap.lt_size ho
 have kinds:∀ y k,scope.names.lookup y = some k -> (relabel scope X.env).names.lookup y = some (if (k == NameKind.free && X.env.scope.kind == .function && X.env.kindOf y == some .cell) = true then .cell else k):=fun y k e=>xt (scope:=scope) kf e
 have back:∀ y k,(relabel scope X.env).names.lookup y = some k -> ∃ k',scope.names.lookup y = some k' /\ k =(if (k' == NameKind.free && X.env.scope.kind == .function && X.env.kindOf y == some .cell) = true then .cell else k'):=fun y k e=>by
  cases q:scope.names.lookup y with
  | none =>
   have:=wl (scope:=scope) (env:=X.env) q;have e':(scope.names.map fun (n,k)=>if (k == NameKind.free && X.env.scope.kind == .function && X.env.kindOf n == some .cell)then (n,NameKind.cell)else (n,k)).lookup y = some k:=e;rw [this]at e'; cases e'
  | some k' =>
   refine #[k',rfl,?_];have:=kinds y k' q;rw [e]at this;exact Option.some.inj this
 have isCell:∀ y,scope.names.lookup y = some .free -> (relabel scope X.env).names.lookup y = some .cell \/ (relabel scope X.env).names.lookup y = some .free:=fun y e=>by
  have:=kinds y _ e;rcases S.free y (yL e)with q | q
  ·refine .inl ?_;rw [this,if_pos];rw [q,kf];rfl
  ·refine .inr ?_;rw [this,if_neg];rw [q];simp
 refine #[#[I.ok.mod,?_,I.ok.glob,I.ok.blt,Nat.le_refl _,?_,?_,?_,I.ok.hd,I.ok.frames,.inl rfl,?_,I.bs,Nat.le_trans I.ok.bsz I.sz,?_,?_,I.stack,I.stkFree],rfl,I.bare,Un.kept hk,#[_,hn,?_],?_,?_,?_,?_,I.hok.kept hk,?_]
 ·show (relabel scope X.env).kind = .function;exact S.kind
 ·intro x y c h1 h2;exact I.ok.inj x y c (hcl1 x c h1) (hcl1 y c h2)
 ·intro y hy;have hy':(relabel scope X.env).names.lookup y = some .cell \/ (relabel scope X.env).names.lookup y = some .free:=hy
  have:scope.names.lookup y = some .free:=by
   rcases hy' with q | q
   ·obtain ⟨k',e,ek⟩:=back y _ q;by_cases c:(k' == NameKind.free && X.env.scope.kind == .function && X.env.kindOf y == some .cell) = true
    ·rw [Bool.and_eq_true,Bool.and_eq_true]at c;rw [e,eq_of_beq c.1.1]
    ·rw [if_neg c]at ek;exact absurd ek.symm (S.nocell _ (yL e))
   ·obtain ⟨k',e,ek⟩:=back y _ q;by_cases c:(k' == NameKind.free && X.env.scope.kind == .function && X.env.kindOf y == some .cell) = true
    ·rw [if_pos c]at ek; cases ek
    ·rw [if_neg c]at ek;rw [e,<- ek]
  exact hcl2 y (yL this)
 ·intro x c h _;exact absurd h (by simp [zI])
 ·intro b hb;refine #[nofp b hb,fun x c e=>?_];exact (hfp b hb).2.2.2.2.1 x c (hcl1 x c e)
 ·intro b o e hb;obtain ⟨_,_,_,q,_⟩:=hfp b hb;rcases q with q | q
  ·exact I.ok.noex b o e q
  ·exact absurd (Nat.lt_of_lt_of_le (Heap.lt_size e) (Nat.le_trans I.ok.bsz q)) (Nat.lt_irrefl _)
 ·intro b hb z;rcases ac.mp (I.stkSub b z)with e | e
  ·exact (hfp b hb).2.1 e
  ·exact (hfp b hb).2.2.1 e
 ·intro i y v h1 h2 h3
  have hi:own.length <= i:=by
   refine Nat.le_of_not_lt fun hlt'=>?_;unfold xD at h2;rw [List.getElem?_append_left (by rw [List.length_replicate]; exact hlt'),List.getElem?_replicate,if_pos hlt']at h2;cases h2
  have h1':caps[i - own.length]? = some y:=by
   have:(own ++ caps)[i]? = some y:=h1;rw [List.getElem?_append_right hi]at this;exact this
  have h2':(ix.map fun i=>(σ[i]?).join)[i - own.length]? = some (some v):=by
   unfold xD at h2;rw [List.getElem?_append_right (by rw [List.length_replicate]; exact hi),List.length_replicate]at h2;exact h2
  rw [List.getElem?_map]at h2';have hx:=congrArg (fun l=>l[i - own.length]?) S.hix;simp only [List.getElem?_map,h1',Option.map_some]at hx
  cases q:ix[i - own.length]? with
  | none=>rw [q]at h2'; cases h2'
  | some j =>
   rw [q]at h2' hx;have hj:X.N[j]? = some y:=Option.some.inj hx;have hv:(σ[j]?).join = some v:=Option.some.inj h2'
   have hσ:σ[j]? = some (some v):=by
    cases r:σ[j]? with
    | none=>rw [r]at hv; cases hv
    | some z=>rw [r]at hv; cases z with
     | none=>cases hv
     | some z=>cases hv; rfl
   have hfree:scope.names.lookup y = some .free:=S.hcaps y (List.mem_of_getElem? h1');have hkc:=S.free y (yL hfree);obtain ⟨m,hm,hl⟩:=I.loc;obtain ⟨u,ru,l⟩:=hl j y v hj hσ (.inr hkc);refine #[u,ru,.inr #[isCell y hfree,?_]];rcases l with ⟨k,_⟩ | ⟨_,c,e,z⟩
   ·have:X.env.kindOf y = some .local:=k;rcases hkc with q' | q' <;> (rw [q']at this; cases this)
   ·obtain ⟨c',e'⟩:=hcl2 y (yL hfree);have:=hcl1 y c' e';rw [e]at this;cases this;obtain ⟨o,ho,hd⟩:=z;exact #[c,e',o,hk c o ho,hd]
 ·intro x c e;obtain ⟨v,o,ho,hd⟩:=I.cell x c (hcl1 x c e);exact #[v,o,hk c o ho,hd]
 ·exact I.hok.fresh (Nat.le_refl _)
 ·intro x c e;exact I.freeC x c (hcl1 x c e)
 ·intro p hp
  have hp':p ∈ X.pn ++ pins:=by
   have:p ∈ (X.pn ++ pins) ++ []:=hp
   rwa [List.append_nil]at this
  obtain ⟨e,n,ne,nf,d⟩:=I.pin p hp';refine #[hk _ _ e,n,?_,fun z=>?_,d]
  ·exact Nat.ne_of_lt (Heap.lt_size e)
  ·rcases ac.mp (I.stkSub p.1 z)with q | q
   ·exact ne q
   ·exact nf q
 ·show (xD σ own.length ix).length =(own ++ caps).length;have:=congrArg List.length S.hix;rw [List.length_map,List.length_map]at this;unfold xD;rw [List.length_append,List.length_replicate,List.length_map,List.length_append,this]
end
end L3
namespace L3
open PySem PySem.Spec PyProof.Rows L2
def yO (σ σ':St):Prop:=σ.length = σ'.length /\ ∀ (i:Nat) v,σ[i]? = some (some v) -> σ'[i]? = some (some v)
def PTs (X:Cx) (ifs:List Expr) (t:TT):Prop :=
 ∀ (pins:List (Addr × Obj)) (s:Shared) (σ:St) (H:Hp) (Q:Bool -> Hp -> Prop),Inv X pins σ H s -> t σ H Q -> wpAny (model X.prog X.w) X.A (YS ifs X.env) (TP X pins σ Q) X.xe s
def ve:TT:=fun _ H Q=>Q true H
theorem yT {X:Cx}:PTs X [] ve:=fun _ _ _ H _ I h=>wpAny_pure #[H,I,h]
theorem VR {X:Cx} {c:Expr} {t:TT} (h:PT X c t):PTs X [c] t:=fun pins s σ H Q I hq=>by
 show wpAny _ _ (forIn [c] true _) _ _ s;simp only [List.forIn_cons,List.forIn_nil,if_true];exact wpAny_bind (wpAny_bind (thn (h pins s σ H Q I hq) fun b s' hb=>wpAny_pure (wpAny_pure hb)))
def vn (wi:TI) (g:TG) (tt:TT) (te:TE) (own:Nat) (ix:()):TE:=fun σ H Q=>wi σ H fun J H1=>∀ D,H1 D = none -> ∃ W:Nat -> Nat -> List V -> Hp -> Prop,(∃ m,W 0 m [] (upd H1 D (.lst []))) /\
 ∀ i m acc H',W i m acc H' -> (J.stop i H' /\ Q (.ref D) H') \/ (J.go i H' /\ ∀ x H2,J.yld i H' x H2 -> g x (xD σ own ix) H2 fun σ3 H3=>yO (xD σ own ix) σ3 /\ tt σ3 H3 fun b H4=>if b = true then
  te σ3 H4 fun v H5=>H5 D = some (.lst acc) /\ acc.length < sizeLine /\ ∃ m',m' < m /\ W (i + 1) m' (acc ++ [v]) (upd H5 D (.lst (acc ++ [v])))
  else ∃ m',m' < m /\ W (i + 1) m' acc H4)
theorem Un.but {fs ex:List Addr} {H H':Hp} {h h1 h2:Heap} {a:Addr} (u:Un fs ex H H' h h1) (sb:Heap.SameBut a h1 h2) (ha:h.get? a = none):Un fs ex H H' h h2:=by
 have ne:∀ b o,h.get? b = some o -> b ≠ a:=fun b o e z=>by subst z; rw [ha]at e; cases e
 refine #[fun b o e n hb hx=>(sb.2 b (ne b o e)).trans (u.keep b o e n hb hx),fun b o e n hb hx=>?_,u.free,fun b o e hx=>?_,u.tups,u.frzs,u.tbls]
 ·obtain ⟨sl,q⟩:=u.slot b o e n hb hx;exact #[sl,(sb.2 b (ne b o e)).trans q]
 ·obtain ⟨o',q⟩:=u.there b o e hx;exact #[o',(sb.2 b (ne b o e)).trans q]
theorem HOk.but {P:Program} {w:World} {H:Hp} {h1 h2:Heap} {a:Addr} (ok:HOk P w H h1) (sb:Heap.SameBut a h1 h2) (ha:H a = none):HOk P w H h2:=fun b ob e=>by
 refine (ok b ob e).stay (fun c u hc q=>(sb.2 c ?_).trans q) (fun _ q=>q) fun _ _ q=>q;rintro rfl;rcases hc with rfl | hc
 ·rw [ha]at e; cases e
 ·rw [ha]at hc; cases hc
section
variable {X:Cx} {scope:Scope} {own caps:List Str} {ix:()} {elt tg iter:Expr} {ifs:List Expr} {pos:Pos} {wi:TI} {g:TG} {tt:TT} {te:TE}
theorem ka (hc:X.calm = true) (S:xP X scope own caps ix)
  (hg:∀ cl C pins s3 H3 fp,PG (zI X scope cl C (own ++ caps) pins s3 H3 fp fun _ _=>False) tg g)
  (ht:∀ cl C pins s3 H3 fp,PTs (zI X scope cl C (own ++ caps) pins s3 H3 fp fun _ _=>False) ifs tt)
  (he:∀ cl C pins s3 H3 fp,PE (zI X scope cl C (own ++ caps) pins s3 H3 fp fun _ _=>False) elt te)
  {cl:List (Str × Addr)} (hc1:∀ y c,cl.lookup y = some c -> X.env.cells.lookup y = some c) (hc2:∀ y,(y,NameKind.free) ∈ scope.names -> ∃ c,cl.lookup y = some c)
  {pins:List (Addr × Obj)} {σ:St} {H2:Hp} {s2:Shared} {Q:VK} {it:Addr} {fp:List Addr} {tn:Nat -> Heap -> Prop} {J:It} (I2:Inv X pins σ H2 s2) (T:Wq X.prog X.w X.K tg J fp it tn) (st2:tn 0 s2.heap) (f2:∀ b ∈ fp,yV X pins H2 b)
  (q:∀ D,H2 D = none -> ∃ W:Nat -> Nat -> List V -> Hp -> Prop,(∃ m,W 0 m [] (upd H2 D (.lst []))) /\
   ∀ i m acc H',W i m acc H' -> (J.stop i H' /\ Q (.ref D) H') \/ (J.go i H' /\ ∀ x H2,J.yld i H' x H2 -> g x (xD σ own.length ix) H2 fun σ3 H3=>yO (xD σ own.length ix) σ3 /\ tt σ3 H3 fun b H4=>if b = true then
    te σ3 H4 fun v H5=>H5 D = some (.lst acc) /\ acc.length < sizeLine /\ ∃ m',m' < m /\ W (i + 1) m' (acc ++ [v]) (upd H5 D (.lst (acc ++ [v])))
    else ∃ m',m' < m /\ W (i + 1) m' acc H4))
  {RR:Value -> Addr -> Result -> Shared -> Prop} {E:Value -> Shared -> Prop}
  (hRR:∀ D C m s' H',H2 D = none -> s'.heap.Ns C m -> yV X pins H' C -> Inv X pins σ H' s' -> Q (.ref D) H' -> RR (.ref D) C (.ok .next) s') :
  wpAny (model X.prog X.w) X.A (newList []) (fun acc s3=>wpAny (model X.prog X.w) X.A (newFunctionEnv scope X.env.globals cl [] X.env.qual none .none (some X.env)) (fun cenv s4 =>
   codeAny (model X.prog X.w) X.A (.compStart (.ListComp elt [#[tg,iter,ifs,0]] scope pos) 0 (.ref it) acc { cenv with scope:=relabel scope X.env }) (RR acc cenv.locals) s4) E s3) E s2:=by
 have hD:H2 s2⁻¹ = none:=I2.hok.fresh (Nat.le_refl _);obtain ⟨W,⟨m0,w0⟩,turn⟩:=q _ hD;refine wpAny_newObj_type (wpAny_newFunctionEnv S.nocell (by intro y hy; simp at hy) (fun h1 hns1 hsb1=>?_) S.kind);dsimp only at hns1 hsb1 ⊢
 have I3:Inv X pins σ (upd H2 s2⁻¹ (.lst [])) { s2 with heap:=s2.heap.push { cls:=.type "list",dict:=none,data:=.seq ([]:List Value).toArray } } :=
  I2.lnew (its:=[]) (t':=s2.toks) .nil (Nat.zero_le _)
 generalize hs3:({ s2 with heap:=s2.heap.push { cls:=.type "list",dict:=none,data:=.seq ([]:List Value).toArray } }:Shared) = s3 at I3;have e3:s2.heap.push { cls:=.type "list",dict:=none,data:=.seq ([]:List Value).toArray } = s3.heap:=by rw [<- hs3]
 rw [e3]at hns1 hsb1 ⊢;have k1:∀ b o,s3.heap.get? b = some o -> h1.get? b = some o:=fun b o e=>(hsb1.2 b (Nat.ne_of_lt (Heap.lt_size e))).trans (Heap.get?_push_of_some _ e);have k23:∀ b o,s2.heap.get? b = some o -> s3.heap.get? b = some o:=fun b o e=>by rw [<- e3]; exact Heap.get?_push_of_some _ e
 have hz:s3⁻¹ = s2⁻¹ + 1:=by rw [<- e3,Heap.size_push]
 have fpObj:∀ b ∈ fp,∃ o,s2.heap.get? b = some o:=fun b hb=>let #[o,e,_]:=T.obj 0 _ st2 b hb; #[o,e];have fplt:∀ b ∈ fp,b < s2⁻¹:=fun b hb=>let #[o,e]:=fpObj b hb; Heap.lt_size e;have f3:∀ b ∈ fp,yV X pins (upd H2 s2⁻¹ (.lst [])) b:=fun b hb=>#[by rw [zk (Nat.ne_of_lt (fplt b hb))]; exact (f2 b hb).1,(f2 b hb).2]
 have I4:Inv (zI X scope cl s3⁻¹ (own ++ caps) pins s3 (upd H2 s2⁻¹ (.lst [])) fp fun _ _=>False) [] (xD σ own.length ix) (upd H2 s2⁻¹ (.lst [])) { s3 with heap:=h1,toks:=s3.toks + ([]:List (Str × Value)).length } :=
  vz S hc1 hc2 I3 f3 (fun b hb=>by rw [hz]; exact Nat.lt_succ_of_lt (fplt b hb)) hns1 k1
 have st4:tn 0 h1:=T.keep 0 _ _ st2 fun b hb o e=>k1 b o (k23 b o e);generalize hs4:({ s3 with heap:=h1,toks:=s3.toks + ([]:List (Str × Value)).length }:Shared) = s4 at I4;have es4:({ s2 with heap:=h1,toks:=s2.toks + ([]:List (Str × Value)).length }:Shared) = s4:=by rw [<- hs4,<- hs3]
 have e4:h1 = s4.heap:=by rw [<- hs4]
 have loop:codeAny (model X.prog X.w) X.A (.compLoop (.ListComp elt [#[tg,iter,ifs,0]] scope pos) 0 (.ref it) (.ref s2⁻¹) (compEnvC scope cl s3⁻¹ X.env)) (RR (.ref s2⁻¹) s3⁻¹) s4:=by
  let X':=zI X scope cl s3⁻¹ (own ++ caps) pins s3 (upd H2 s2⁻¹ (.lst [])) fp fun _ _=>False
  have fp':∀ {H':Hp},(∀ b ∈ fp,H' b = none) -> ∀ b ∈ fp,yV X' [] H' b:=fun {H'} hn b hb=>by
   obtain ⟨_,a1,a2,a3,a4,a5⟩:=f3 b hb;refine #[hn b hb,Nat.ne_of_lt (show b < s3⁻¹ from by rw [hz]; exact Nat.lt_succ_of_lt (fplt b hb)),fun z=>?_,.inl hb,fun x c e=>a4 x c (hc1 x c e),fun p hp=>?_]
   ·rcases ac.mp (I3.stkSub b z)with e | e
    ·exact a1 e
    ·exact a2 e
   ·have:p ∈ (X.pn ++ pins) ++ []:=hp;rw [List.append_nil]at this;exact a5 p this
  refine qG (fun n s'=>∃ i acc H',Inv X' [] (xD σ own.length ix) H' s' /\ tn i s'.heap /\ (∀ b ∈ fp,H' b = none) /\ W i n acc H') rfl ?_ m0 #[0,[],_,I4,by rw [<- e4]; exact st4,fun b hb=>(f3 b hb).1,w0];rintro n s5 ⟨i,acc,H5,I5,st5,fr5,w5⟩;refine wpAny_noRaise ?_;rcases turn i n acc H5 w5 with ⟨stop,qn⟩ | ⟨go,step⟩
  ·refine thn (T.done X' rfl rfl rfl hc i [] s5 _ H5 _ I5 (fp' fr5) st5 stop) fun r s6 ⟨hr,I6⟩=>?_;subst hr;obtain ⟨m,hm,_⟩:=I6.loc;refine hRR _ _ m s6 H5 hD hm (I3.fpOk (Nat.le_refl _) I6.free) (I3.call' (s':=s6) I6.os I6.base I6.hok I6.bare fun b hb=>?_) qn;obtain ⟨_,a1,a2,a3,a4,a5⟩:=f3 b hb;exact #[a3,a1,a4,a5]
  ·refine thn (T.item X' rfl rfl rfl hc i [] s5 _ H5 (fun _ _=>False) I5 (fp' fr5) st5 go) fun r s6 ⟨u,hr,h6⟩=>?_;subst hr;refine wpAny_noRaise (thn h6 fun _ s7=>el5 fun x H7 I7 r7 q_z=>?_);obtain ⟨y7,st7,fr7⟩:=q_z;have I7':=I7.pinned (fp' fr7) (T.obj _ _ st7);refine wpAny_noRaise (thn (hg _ _ _ _ _ _ _ s7 _ H7 x u _ I7' r7 (step x H7 y7)) fun _ s8=>el5 fun σ8 H8 I8 ks q8=>?_);refine wpAny_noRaise (thn (ht _ _ _ _ _ _ _ s8 σ8 H8 _ I8 q8) fun b s9=>el3 fun H9 I9 q9=>?_)
   have back:∀ {s':Shared} {H':Hp} {acc':List V} {m':Nat},Inv X' ([] ++ vp fp s7.heap) σ8 H' s' -> m' < n -> W (i + 1) m' acc' H' -> ∃ m,m < n /\ ∃ i acc H',Inv X' [] (xD σ own.length ix) H' s' /\ tn i s'.heap /\ (∀ b ∈ fp,H' b = none) /\ W i m acc H':=fun {s' H' acc' m'} J' hm w'=>by
    refine #[m',hm,i + 1,acc',H',(J'.unpinned).weak ks.1 ks.2,T.keep _ _ _ st7 fun b hb o e=>(J'.pin (b,o) (List.mem_append_right _ (List.mem_append_right _ (yl hb e)))).1,fun b hb=>?_,w'];obtain ⟨o,e,d⟩:=T.obj _ _ st7 b hb;exact (J'.pin (b,o) (List.mem_append_right _ (List.mem_append_right _ (yl hb e)))).2.1
   cases b with
   | false =>
    rw [if_neg Bool.false_ne_true]at q9 ⊢;obtain ⟨m',hm,w'⟩:=q9;exact back I9 hm w'
   | true =>
    rw [if_pos rfl]at q9 ⊢;refine wpAny_noRaise (thn (he _ _ _ _ _ _ _ s9 σ8 H9 _ I9 q9) fun v s10=>el5 fun y H10 I10 r10 q_z=>?_);obtain ⟨hD10,hsz,m',hm,w'⟩:=q_z;refine wpAny_noRaise ?_;have:=xg (X:=X') _ s10 σ8 H10 (.ref s2⁻¹) [y] (.ref s2⁻¹) [v] (fun _ H'=>H' = upd H10 s2⁻¹ (.lst (acc ++ [y]))) I10 rfl (.cons r10 .nil) #[acc,hD10,hsz,rfl];refine thn this fun _ s11 ⟨_,H11,I11,_,eH⟩=>?_;subst eH;exact back I11 hm w'
 have goal:codeAny (model X.prog X.w) X.A (.compStart (.ListComp elt [#[tg,iter,ifs,0]] scope pos) 0 (.ref it) (.ref s2⁻¹) (compEnvC scope cl s3⁻¹ X.env)) (RR (.ref s2⁻¹) s3⁻¹) s4 :=
  codeAny_compStart_list loop (T.self _ 0 s4 _ _ (by rw [<- e4]; exact st4) loop)
 rw [<- es4]at goal;exact goal
theorem Uj (hc:X.calm = true) (S:xP X scope own caps ix) (hi:PI X tg iter wi)
  (hg:∀ cl C pins s3 H3 fp,PG (zI X scope cl C (own ++ caps) pins s3 H3 fp fun _ _=>False) tg g)
  (ht:∀ cl C pins s3 H3 fp,PTs (zI X scope cl C (own ++ caps) pins s3 H3 fp fun _ _=>False) ifs tt)
  (he:∀ cl C pins s3 H3 fp,PE (zI X scope cl C (own ++ caps) pins s3 H3 fp fun _ _=>False) elt te)
  (hs:∀ x,foldedSetIterable iter X.env x = pure x:=by intro _; rfl) :
  PE X (.ListComp elt [#[tg,iter,ifs,0]] scope pos) (vn wi g tt te own.length ix):=by
 intro pins s σ H Q I h;obtain ⟨cl,hclos,hc1,hc2⟩:=yP (scope:=scope) (env:=X.env) fun y hy=>I.ok.has y (S.free y hy);rw [eval_ListComp];refine wpAny_comprehension_free (use:=none) rfl hs hclos S.kind S.names (thn (hi pins s σ H _ I h) fun v s1 h1=>thn h1 fun itv s2 h2=>?_);obtain ⟨it,fp,tn,J,H2,e,I2,T,st2,f2,q⟩:=h2;subst e;refine ka (RR:=fun acc C=>compPost (model X.prog X.w) X.A X.xe none (EP X pins σ Q) acc C) hc S hg ht he hc1 hc2 I2 T st2 f2 q ?_;intro D C m s' H' _ hn fc I' qn;obtain ⟨a0,a1,a2,a3,a4,a5⟩:=fc;exact #[m,hn,fun h' sb=>#[.ref D,H',I'.turned (t':=s'.toks) (fun b o hb e=>(sb.2 b hb).trans e) a0 a1 a3 a4 a5,rfl,qn]]
def vO (i:Nat) (t:TE):TS:=fun D σ H=>t σ H fun x H1=>D.nx (σ.set i (some x)) H1
end
end L3
namespace L3
open PySem PySem.Spec PyProof.Rows L2
section
variable {X:Cx} {a b:Expr} {ta tb:TE} {pos:Pos}
def ZO:R2:=fun x y H Q=>match x with | .int i=>onInt y fun j=>Q (.int (i + j)) H | .str i=>onStr y fun j=>i.length + j.length <= sizeLine /\ Q (.str (i ++ j)) H | .ref l=>UT (.ref l) y H Q | _=>False
theorem VE:OpR X (binaryOp .Add) ZO:=by
 intro pins s σ H x y v u Q I rx ry h
 cases x with
 | int i=>exact z8 pins s σ H (.int i) y v u Q I rx ry h
 | str i=>exact yc pins s σ H (.str i) y v u Q I rx ry (by obtain ⟨j,rfl,q⟩:=onStr.of h; exact #[i,j,rfl,rfl,q])
 | ref l=>exact ZV pins s σ H (.ref l) y v u Q I rx ry h
 | _=>exact h.elim
def QW:R2:=fun x y H Q=>match x with | .int i=>onInt y fun j=>CMul i j /\ Q (.int (i * j)) H | .str z=>onInt y fun n=>0 <= n /\ n <= 1000 /\ z.length <= 1000 /\ Q (.str (tx (List.replicate n.toNat (cs z)).flatten)) H | _=>False
def KM:R2:=fun x y H Q=>match x with | .int i=>onInt y fun j=>Q (.bl (decide (i < j))) H | .str i=>onStr y fun j=>Q (.bl (decide (cs i < cs j))) H | _=>False
def Kn:R2:=fun x y H Q=>match x with | .int i=>onInt y fun j=>Q (.bl (decide (i <= j))) H | .str i=>onStr y fun j=>Q (.bl (!(decide (cs j < cs i)))) H | _=>False
theorem vG:OpR X (compareOp .LtE) Kn:=by
 intro pins s σ H x y v u Q I rx ry h
 cases x with
 | int i=>exact J1 pins s σ H (.int i) y v u Q I rx ry h
 | str i=>exact YN pins s σ H (.str i) y v u Q I rx ry (by obtain ⟨j,rfl,q⟩:=onStr.of h; exact #[i,j,rfl,rfl,q])
 | _=>exact h.elim
theorem ZD:OpR X (compareOp .Gt) (fun x y H Q=>∃ i j,x = .str i /\ y = .str j /\ Q (.bl (decide (cs j < cs i))) H):=by
 intro pins s σ H x y v u Q I rx ry h;obtain ⟨i,j,rfl,rfl,q⟩:=h;obtain ⟨t,rfl⟩:=rx;obtain ⟨t',rfl⟩:=ry;exact PySem.P.gt_str #[.bl _,H,I,rfl,q]
def JH:R2:=fun x y H Q=>match x with | .int i=>onInt y fun j=>Q (.bl (decide (j < i))) H | .str i=>onStr y fun j=>Q (.bl (decide (cs j < cs i))) H | _=>False
theorem Qy:OpR X (compareOp .Gt) JH:=by
 intro pins s σ H x y v u Q I rx ry h
 cases x with
 | int i=>exact Wc pins s σ H (.int i) y v u Q I rx ry h
 | str i=>exact ZD pins s σ H (.str i) y v u Q I rx ry (by obtain ⟨j,rfl,q⟩:=onStr.of h; exact #[i,j,rfl,rfl,q])
 | _=>exact h.elim
def KB (K:PySem.W.Frag):V -> Option Int -> Option Int -> Hp -> VK -> Prop:=fun x lo hi H Q=>match x with | .ref a=>KH K (.ref a) lo hi H Q | .str z=>QT (.str z) lo hi H Q | _=>False
noncomputable def cV:V -> Option Value
 | .ty n=>some (.type n)
 | .ref a=>some (.ref a)
 | _=>none
theorem XG:wX X (.builtin "isinstance") (fun xs H Q=>∃ x c u t b,xs = [x,c] /\ cV c = some u /\ jD X.K H x t /\ PySem.W.kitOne X.K t u = some b /\ Q (.bl b) H):=by
 intro pins s σ H xs us Q I r h;obtain ⟨x,c,u,t,b,rfl,hc,ty,e,q⟩:=h;obtain ⟨v,w',rfl,rx,rc⟩:=X8 r
 have:w' = u:=by
  cases c with
  | ty n=>cases hc; exact rc
  | ref a=>cases hc; exact rc
  | _=>cases hc
 subst this;exact ZJ I rx ty e fun tk=>#[.bl b,H,I.tok tk,rfl,q]
end
end L3
namespace L3
open PySem PySem.Spec PyProof.Rows L2
noncomputable def Iel (K:PySem.W.Frag) (a:Addr):It:=#[fun i H=>∃ xs x,SqL K H a xs /\ xs[i]? = some x,fun i H v H'=>∃ p x,H p = none /\ (∀ xs,SqL K H a xs -> xs[i]? = some x) /\ v = .ref p /\ H' = upd H p (.tup [.int (i:Nat),x]),fun i H=>∃ xs,SqL K H a xs /\ i = xs.length]
theorem kA {P:Program} {w:World} {K:PySem.W.Frag} {elts:List Expr} {x1:Nat} {tpos:Pos} (e it a:Addr) (hei:e ≠ it) :
  Wq P w K (.Tuple elts x1 tpos) (Iel K a) [e,it] e (fun i h=>(∃ old,IsEnum h e it i old) /\ h.IsListIter it a i) where
 mem:=by simp
 obj:=fun i h st b hb=>by
  obtain ⟨⟨old,he⟩,o,e2,c,d⟩:=st;rcases ac.mp hb with q | q
  ·subst q;exact #[_,he,fun v z=>by have z':Data.fields _ = Data.cell v:=z; cases z']
  ·have q':b = it:=by simpa using q
   subst q';exact #[o,e2,fun v z=>by rw [d]at z; cases z]
 keep:=fun i h h' st k=>by
  obtain ⟨⟨old,he⟩,st⟩:=st;exact #[#[old,k e (by simp) _ he],st.at fun o q=>k it (by simp) o q]
 item:=by
  intro X hP hw hK hc i pins s σ H E I hf st hg;subst hP hw hK;obtain ⟨⟨old,he⟩,st⟩:=st;obtain ⟨xs,x,hq,hx⟩:=hg;obtain ⟨its,rv,p,hz⟩:=I.list hq;obtain ⟨u,hu,ru⟩:=rv.get hx;have hA:X.A.in1.handled = none:=I.ok.hd hc;have pl:=p.isList
  have hai:a ≠ it:=fun z=>by
   subst z;obtain ⟨o1,q1,c1,_⟩:=st;obtain ⟨o2,q2,c2,_⟩:=pl;rw [q1]at q2; cases q2;rw [c1]at c2;exact absurd (Value.type.inj c2) ∅
  have hea:e ≠ a:=fun z=>by
   subst z;obtain ⟨o2,q2,c2,_⟩:=pl;rw [he]at q2; cases q2;exact absurd (Value.type.inj c2) ∅
  refine wpAny_pyNext_enum_itemD (Draws.list (A:=X.A.in1) hA it a hai its.toArray) he #[st,pl] (by rw [List.size_toArray]; exact (ae.mp hu).1) hei (by simp [hei,hea]) fun v h' tk hv ho st' hT hsz kk=>?_
  have ev:v = u:=by
   have hv':its.toArray[i]? = some v:=hv;rw [List.getElem?_toArray,hu]at hv';exact (Option.some.inj hv').symm
  subst ev;refine #[_,rfl,wpAny_letOwnedTupleGo_enum ho fun h2 he2 sb=>?_];have elt:e < s⁻¹:=Heap.lt_size he;have ilt:it < s⁻¹:=by obtain ⟨o,q,_⟩:=st; exact Heap.lt_size q
  have I1:Inv X pins σ H { s with heap:=h2,toks:=tk + 1 }:=Inv.turns (fp:=[e,it]) I (fun b o hb q=>by
   have hb':b ≠ e /\ b ≠ it:=by simpa using hb
   exact (sb.2 b hb'.1).trans (kk b o hb'.1 hb'.2 q)) hf
  have hp:H s⁻¹ = none:=I.hok.fresh (Nat.le_refl _);have hT2:h2.get? s⁻¹ = some { cls:=.type "tuple",data:=.seq (List.toArray [.int (i:Nat) tk,v]) }:=(sb.2 _ (Nat.ne_of_gt elt)).trans hT
  have I2:Inv X pins σ (upd H s⁻¹ (.tup [.int (i:Nat),x])) { s with heap:=h2,toks:=tk + 1 } :=
   Inv.track I1 (I.fpOk (Nat.le_refl _) hp) #[by show 2 <= sizeLine; decide,[.int (i:Nat) tk,v],.cons #[_,rfl] (.cons ru .nil),#[_,hT2,rfl,_,rfl]]
  refine #[.ref s⁻¹,_,I2,rfl,#[s⁻¹,x,hp,fun ys hy=>by rw [I.list_inj hy hq]; exact hx,rfl,rfl],#[#[_,by simpa using he2],?_],fun b hb=>?_]
  ·exact st'.1.at fun o q=>(sb.2 it (Ne.symm hei)).trans q
  ·rw [zk]
   ·exact (hf b hb).1
   ·rcases ac.mp hb with q | q
    ·rw [q]; exact Nat.ne_of_lt elt
    ·have q':b = it:=by simpa using q
     rw [q']; exact Nat.ne_of_lt ilt
 done:=by
  intro X hP hw hK hc i pins s σ H E I hf st hg;subst hP hw hK;obtain ⟨⟨old,he⟩,st⟩:=st;obtain ⟨xs,hq,hi⟩:=hg;obtain ⟨its,rv,p,hz⟩:=I.list hq;have pl:=p.isList
  have hai:a ≠ it:=fun z=>by
   subst z;obtain ⟨o1,q1,c1,_⟩:=st;obtain ⟨o2,q2,c2,_⟩:=pl;rw [q1]at q2; cases q2;rw [c1]at c2;exact absurd (Value.type.inj c2) ∅
  have hA:X.A.in1.handled = none:=I.ok.hd hc;have hi':i = its.toArray.size:=by rw [List.size_toArray,<- rv.length]; exact hi
  subst hi';refine wpAny_pyNext_enum_endD (Draws.list (A:=X.A.in1) hA it a hai its.toArray) he #[st,pl] fun h' hx=>#[rfl,?_];exact Inv.turns (fp:=[e,it]) (t':=s.toks) I (fun b o hb q=>hx b o (fun z=>hb (by simp [z])) q) hf
 self:=fun A i s Q E st h=>by
  obtain ⟨⟨old,he⟩,_⟩:=st;exact wpAny_pyIter_enum he h
section
variable {X:Cx}
def Ww (K:PySem.W.Frag) (ta:TA):TI:=fun σ H R=>ta σ H fun vs H1=>∃ a,vs = [.ref a] /\ (∃ xs,SqL K H1 a xs) /\ R (Iel K a) H1
theorem Wp {a:Expr} {ta:TA} {p pos tpos:Pos} {elts:List Expr} {x1:Nat} (hg:Gl X "enumerate") (hm:X.mg "enumerate" = none) (ha:PA X [a] ta) (hs:starEach [a] X.env = [(false,eval a X.env)]:=by rfl) :
  PI X (.Tuple elts x1 tpos) (.Call (.Name "enumerate" p) [a] [] pos) (Ww X.K ta):=by
 intro pins s σ H R I h;refine Call_ (xR I hg hm PyProof.Rows.boot_enumerate (PyProof.Rows.callWith_type1 (thn (ha pos pins s σ H _ I h) fun us s1=>el5 fun vs H1 I1 r1 q1=>?_) hs rfl));obtain ⟨l,e,⟨xs,hq⟩,q⟩:=q1;subst e;obtain ⟨u,rfl,ru⟩:=xa r1;cases ru;obtain ⟨its,rv,pl,hz⟩:=I1.list hq;refine call_enumerate_list pl.isList fun h' he hit hsz kk=>?_;have I2:Inv X pins σ H1 { s1 with heap:=h' }:=I1.kept (t':=s1.toks) kk;refine wpAny_pyIter_enum (s:={ s1 with heap:=h' }) (i:=0) he ?_;refine #[s1⁻¹ + 1,[s1⁻¹ + 1,s1⁻¹],_,_,H1,rfl,I2,kA _ _ l (Nat.succ_ne_self _),#[#[_,he],hit],fun b hb=>?_,q]
 have hb':s1⁻¹ <= b:=by
  rcases ac.mp hb with e | e
  ·rw [e]; exact Nat.le_succ _
  ·have:b = s1⁻¹:=by simpa using e
   rw [this]; exact Nat.le_refl _
 exact I1.fpOk hb' (I1.hok.fresh hb')
end
def ForEL (K:PySem.W.Frag) (a:Addr) (g:TG) (tb:TS) (D:xW) (σ:St) (H:Hp):Prop:=∃ W:Nat -> Nat -> St -> Hp -> Prop,(∃ m,W 0 m σ H) /\ ∀ i m σ H,W i m σ H ->
 ((Iel K a).stop i H /\ D.nx σ H) \/ ((Iel K a).go i H /\ ∃ N:St -> Hp -> Prop,(∀ σ' H',N σ' H' -> ∃ m',m' < m /\ W (i + 1) m' σ' H') /\ ∀ x H',(Iel K a).yld i H x H' -> g x σ H' fun σ2 H2=>tb { D with nx:=N,ct:=N,bk:=D.nx } σ2 H2)
theorem U2 {K:PySem.W.Frag} {ta:TA} {g:TG} {tb:TS} {D:xW} {σ:St} {H:Hp}:Xa (Ww K ta) g tb D σ H = ta σ H fun vs H1=>∃ a,vs = [.ref a] /\ (∃ xs,SqL K H1 a xs) /\ ForEL K a g tb D σ H1:=rfl
theorem ForEL.by {K:PySem.W.Frag} {a:Addr} {xs:List V} {g:TG} {tb:TS} {D:xW} {σ:St} {H:Hp} (Pv:Nat -> St -> Hp -> Prop) (h0:Pv 0 σ H) (hl:∀ i σ H,i <= xs.length -> Pv i σ H -> SqL K H a xs)
  (hs:∀ i x σ H p,xs[i]? = some x -> Pv i σ H -> H p = none -> g (.ref p) σ (upd H p (.tup [.int (i:Nat),x])) fun σ2 H2=>tb { D with nx:=Pv (i + 1),ct:=Pv (i + 1),bk:=D.nx } σ2 H2) (hd:∀ σ H,Pv xs.length σ H -> D.nx σ H):ForEL K a g tb D σ H:=by
 refine #[fun i m σ H=>m = xs.length - i /\ i <= xs.length /\ Pv i σ H,#[xs.length,by simp,Nat.zero_le _,h0],?_];rintro i m σ H ⟨rfl,hi,p⟩;have q:=hl i σ H hi p;by_cases hlt:i < xs.length
 ·refine .inr #[#[xs,xs[i],q,by simp [hlt]],Pv (i + 1),fun σ' H' p'=>#[xs.length - (i + 1),⋯,rfl,hlt,p'],fun v H' y=>?_];obtain ⟨p',x,hp,hx,ev,eH⟩:=y;subst ev eH;exact hs i x σ H p' (hx xs q) p hp
 ·have e:i = xs.length:=⋯;subst e;exact .inl #[#[xs,q,rfl],hd σ H p]
def K0 (K:PySem.W.Frag) (a:Addr) (g:TG) (tb:TS) (D:xW) (σ:St) (H:Hp):Prop:=∃ W:Nat -> Nat -> St -> Hp -> Prop,(∃ m,W 0 m σ H) /\ ∀ i m σ H,W i m σ H ->
 ((Itt K a).stop i H /\ D.nx σ H) \/ ((Itt K a).go i H /\ ∃ N:St -> Hp -> Prop,(∀ σ' H',N σ' H' -> ∃ m',m' < m /\ W (i + 1) m' σ' H') /\ ∀ x H',(Itt K a).yld i H x H' -> g x σ H' fun σ2 H2=>tb { D with nx:=N,ct:=N,bk:=D.nx } σ2 H2)
theorem KI {K:PySem.W.Frag} {tl:TE} {g:TG} {tb:TS} {D:xW} {σ:St} {H:Hp}:Xa (zad K tl) g tb D σ H = tl σ H fun x H1=>∃ a,x = .ref a /\ (∃ xs,SqT K H1 a xs) /\ K0 K a g tb D σ H1:=rfl
def Jy (K:PySem.W.Frag) (x:V) (H:Hp) (p:Bool -> Prop):Prop:=match x with | .bl b=>p b | x=>∃ k,Qs K x H k /\ p k
def tTr (K:PySem.W.Frag) (ta:TE):TT:=fun σ H Q=>ta σ H fun x H'=>Jy K x H' fun k=>Q k H'
theorem Uu {K:PySem.W.Frag} {ta:TE} {σ:L2.St} {H:Hp} {Q:Bool -> Hp -> Prop}:tTr K ta σ H Q = ta σ H fun x H'=>Jy K x H' fun k=>Q k H':=rfl
def tBl (ta:TE):TT:=fun σ H Q=>ta σ H fun x H'=>onBl x fun k=>Q k H'
theorem VG {ta:TE} {σ:L2.St} {H:Hp} {Q:Bool -> Hp -> Prop}:tBl ta σ H Q = ta σ H fun x H'=>onBl x fun k=>Q k H':=rfl
section
variable {X:Cx} {a:Expr} {ta:TE}
theorem xA (ha:PE X a ta) (he:∀ whole,isTrue a X.env whole =(do let v <- whole; standAt a.pos; holding [v] (truthy v))):PT X a (tBl ta):=by
 intro pins s σ H Q I h;refine isTrue_plain (thn (ha pins s σ H _ I h) fun v s1=>el5 fun x H1 I1 r1 q1=>?_) (he _);obtain ⟨k,rfl,q1⟩:=onBl.of q1;exact WD pins s1 σ H1 (.bl k) v Q I1 r1 #[k,rfl,q1]
end
end L3
namespace L3
open PySem PySem.Spec PyProof.Rows L2
noncomputable def Irv (K:PySem.W.Frag) (a:Addr) (n:Nat):It:=#[fun i H=>∃ xs,SqL K H a xs /\ xs.length = n /\ i < n,fun i H v H'=>H' = H /\ ∀ xs,SqL K H a xs -> xs.length = n -> xs[n - 1 - i]? = some v,fun i H=>i = n]
theorem Xr {P:Program} {w:World} {K:PySem.W.Frag} {tg:Expr} (a it:Addr) (n:Nat):Wq P w K tg (Irv K a n) [it] it (fun i h=>i <= n /\ h.IsRevIter it a ((n:Int) - 1 - (i:Int))) where
 mem:=by simp
 obj:=fun i h st b hb=>by
  have e:b = it:=by simpa using hb
  subst e;obtain ⟨_,o,e,c,d⟩:=st;exact #[o,e,fun v z=>by rw [d]at z; cases z]
 keep:=fun i h h' st k=>#[st.1,st.2.at fun o e=>k it (by simp) o e]
 item:=by
  intro X hP hw hK hc i pins s σ H E I hf st hg;subst hP hw hK;obtain ⟨xs,hq,hn,hi⟩:=hg;obtain ⟨its,rv,p,hz⟩:=I.list hq;obtain ⟨f0,f1,f2,f3,f4,f5⟩:=hf it (by simp);have hx:xs[n - 1 - i]? = some (xs[n - 1 - i]'⋯):=List.getElem?_eq_getElem ⋯;generalize xs[n - 1 - i]'⋯ = x at hx;obtain ⟨u,hu,ru⟩:=rv.get hx;have st2:=st.2;have e:(n:Int) - 1 - (i:Int) =((n - 1 - i:Nat):Int):=⋯;rw [e]at st2;refine wpAny_pyNext_rev_item st2 p.isList (x:=u) (by simpa using hu) fun h' st' sb=>?_;have I1:Inv X pins σ H { s with heap:=h' }:=I.turned (t':=s.toks) (fun b o hb e=>(sb.2 b hb).trans e) f0 f1 f3 f4 f5;have e2:((n - 1 - i:Nat):Int) - 1 =(n:Int) - 1 - ((i + 1:Nat):Int):=⋯;rw [e2]at st';obtain ⟨o,e,c,d⟩:=id st';exact #[u,rfl,Xs (s:={ s with heap:=h' }) e c d ∅ #[x,H,I1,ru,#[rfl,fun ys hy _=>by rw [I.list_inj hy hq]; exact hx],#[hi,st'],fun b hb=>(hf b hb).1]]
 done:=by
  intro X hP hw hK hc i pins s σ H E I hf st hg;subst hP hw hK;obtain ⟨f0,f1,f2,f3,f4,f5⟩:=hf it (by simp);have hi:i = n:=hg;have st2:=st.2;rw [hi,show (n:Int) - 1 - (n:Int) = -1 by lia]at st2;exact wpAny_pyNext_rev_end (I.ok.hd hc) st2 fun h' eb=>#[rfl,I.turned (t':=s.toks) (fun b o hb e=>eb b o hb e) f0 f1 f3 f4 f5]
 self:=fun _ _ _ _ _ st h=>wpAny_pyIter_revIter st.2 h
theorem Xj:bootBuiltins "reversed" = some (.type "reversed"):=PyProof.Rows.boot_reversed
section
variable {X:Cx} {tg:Expr}
def KO (K:PySem.W.Frag) (ta:TA):TI:=fun σ H R=>ta σ H fun vs H1=>∃ a xs,vs = [.ref a] /\ SqL K H1 a xs /\ R (Irv K a xs.length) H1
theorem QA {a:Expr} {ta:TA} {p pos:Pos} (hg:Gl X "reversed") (hm:X.mg "reversed" = none) (ha:PA X [a] ta) (hs:starEach [a] X.env = [(false,eval a X.env)]:=by rfl) :
  PI X tg (.Call (.Name "reversed" p) [a] [] pos) (KO X.K ta):=by
 intro pins s σ H R I h;refine Call_ (xR I hg hm Xj (PyProof.Rows.callWith_type1 (thn (ha pos pins s σ H _ I h) fun us s1=>el5 fun vs H1 I1 r1 q1=>?_) hs rfl));obtain ⟨l,xs,e,hq,q⟩:=q1;subst e;obtain ⟨u,rfl,ru⟩:=xa r1;cases ru;obtain ⟨its,rv,pl,hz⟩:=I1.list hq;have hn:its.toArray.size = xs.length:=by rw [List.size_toArray,<- rv.length]
 refine call_reversed_list pl.isList ?_
 have hit:(s1.heap.push (revObj l ((its.toArray.size:Int) - 1))).IsRevIter s1⁻¹ l ((xs.length:Int) - 1 - ((0:Nat):Int)):=by
  refine #[_,Heap.get?_push_size _ rfl,rfl,?_];rw [hn,show (xs.length:Int) - 1 - ((0:Nat):Int) =(xs.length:Int) - 1 by lia];rfl
 refine wpAny_pyIter_revIter (s:={ s1 with heap:=s1.heap.push (revObj l ((its.toArray.size:Int) - 1)) }) hit ?_;refine #[s1⁻¹,[s1⁻¹],_,_,H1,rfl,I1.kept (t':=s1.toks) fun b o e=>Heap.get?_push_of_some _ e,Xr l _ xs.length,#[Nat.zero_le _,hit],fun b hb=>?_,q];have e:b = s1⁻¹:=by simpa using hb
 subst e;exact I1.fpOk (Nat.le_refl _) (I1.hok.fresh (Nat.le_refl _))
end
section
variable {prog:Program} {w:World} {A:Around} {E:Value -> Shared -> Prop} {s:Shared}
end
section
variable {X:Cx}
def Kt (K:PySem.W.Frag) (ta:TA):TE:=fun σ H Q=>ta σ H fun vs H1=>∃ a xs,vs = [.ref a] /\ SqL K H1 a xs /\ ∀ l,H1 l = none -> Q (.ref l) (upd H1 l (.lst xs.reverse))
theorem Y0 {K:PySem.W.Frag} {ta:TA} {σ:L2.St} {H:Hp} {Q:VK}:Kt K ta σ H Q = ta σ H fun vs H1=>∃ a xs,vs = [.ref a] /\ SqL K H1 a xs /\ ∀ l,H1 l = none -> Q (.ref l) (upd H1 l (.lst xs.reverse)):=rfl
end
noncomputable def Izp (K:PySem.W.Frag) (a b:Addr):It:=#[fun i H=>∃ xs ys x y,SqL K H a xs /\ SqL K H b ys /\ xs[i]? = some x /\ ys[i]? = some y,fun i H v H'=>∃ p x y,H p = none /\ (∀ xs,SqL K H a xs -> xs[i]? = some x) /\ (∀ ys,SqL K H b ys -> ys[i]? = some y) /\ v = .ref p /\ H' = upd H p (.tup [x,y]),fun i H=>∃ xs ys,SqL K H a xs /\ SqL K H b ys /\ (xs.length = i \/ ys.length = i) /\ i <= xs.length /\ i <= ys.length]
theorem yX {h:Heap} {a b:Addr} {o1 o2:Obj} {t u:String} (h1:h.get? a = some o1) (c1:o1.cls = .type t) (h2:h.get? b = some o2) (c2:o2.cls = .type u) (hne:t ≠ u):a ≠ b:=fun z=>by
 rw [z,h2]at h1;cases h1;rw [c2]at c1;exact hne (Value.type.inj c1).symm
structure U7 (z TI TO i1 i2:Addr):Prop where
 TIz:TI ≠ z
 TOz:TO ≠ z
 i1z:i1 ≠ z
 i2z:i2 ≠ z
 TITO:TI ≠ TO
 TIi1:TI ≠ i1
 TIi2:TI ≠ i2
 TOi1:TO ≠ i1
 TOi2:TO ≠ i2
 i12:i1 ≠ i2
def ZipAt (z TI TO i1 i2 l1 l2:Addr) (i:Nat) (h:Heap):Prop:=IsZip h z TI TO .none /\ IsPair h TI (.ref i1) (.ref i2) /\ (∃ a b,IsPair h TO a b) /\ h.IsListIter i1 l1 i /\ h.IsListIter i2 l2 i
theorem ZipAt.apart {z TI TO i1 i2 l1 l2:Addr} {i:Nat} {h:Heap} {xs ys:Array Value} (D:U7 z TI TO i1 i2) (st:ZipAt z TI TO i1 i2 l1 l2 i h) (h1:h.IsList l1 xs) (h2:h.IsList l2 ys):ZipApart z TI TO i1 i2 l1 l2:=by
 obtain ⟨hz,hTI,⟨a,b,hTO⟩,⟨o1,e1,c1,_⟩,⟨o2,e2,c2,_⟩⟩:=st;obtain ⟨p1,q1,k1,_⟩:=h1;obtain ⟨p2,q2,k2,_⟩:=h2;exact #[D.TIz,D.TOz,D.i1z,D.i2z,D.TITO,D.TIi1,D.TIi2,D.TOi1,D.TOi2,D.i12,yX q1 k1 hz rfl ∅,yX q1 k1 hTO rfl ∅,yX q1 k1 e1 c1 ∅,yX q1 k1 e2 c2 ∅,yX q2 k2 hz rfl ∅,yX q2 k2 hTO rfl ∅,yX q2 k2 e1 c1 ∅,yX q2 k2 e2 c2 ∅]
section
variable {X:Cx}
def K2 (K:PySem.W.Frag) (ta:TA):TI:=fun σ H R=>ta σ H fun vs H1=>∃ a b,vs = [.ref a,.ref b] /\ (∃ xs,SqL K H1 a xs) /\ (∃ ys,SqL K H1 b ys) /\ R (Izp K a b) H1
end
def K4 (K:PySem.W.Frag) (a b:Addr) (g:TG) (tb:TS) (D:xW) (σ:L2.St) (H:Hp):Prop:=∃ W:Nat -> Nat -> L2.St -> Hp -> Prop,(∃ m,W 0 m σ H) /\ ∀ i m σ H,W i m σ H ->
 ((Izp K a b).stop i H /\ D.nx σ H) \/ ((Izp K a b).go i H /\ ∃ N:L2.St -> Hp -> Prop,(∀ σ' H',N σ' H' -> ∃ m',m' < m /\ W (i + 1) m' σ' H') /\ ∀ x H',(Izp K a b).yld i H x H' -> g x σ H' fun σ2 H2=>tb { D with nx:=N,ct:=N,bk:=D.nx } σ2 H2)
theorem KP {K:PySem.W.Frag} {ta:TA} {g:TG} {tb:TS} {D:xW} {σ:L2.St} {H:Hp}:Xa (K2 K ta) g tb D σ H = ta σ H fun vs H1=>∃ a b,vs = [.ref a,.ref b] /\ (∃ xs,SqL K H1 a xs) /\ (∃ ys,SqL K H1 b ys) /\ K4 K a b g tb D σ H1:=rfl
end L3
namespace L3
open PySem PySem.Spec PyProof.Rows L2
noncomputable abbrev xob (C:Addr) (dx:Option Addr) (t:Addr) (tb:Value):Obj:={ cls:=.ref C,dict:=dx,data:=.fields (List.toArray [.ref t,tb,.none,.none,.bool false,.none]) }
noncomputable abbrev xog (C:Addr) (dx:Option Addr) (t:Addr) (tb c:Value) (k:Bool):Obj:={ cls:=.ref C,dict:=dx,data:=.fields (List.toArray [.ref t,tb,c,.none,.bool k,.none]) }
def UU (h:Heap) (x:Addr) (tb:Value):Prop:=tb = .none \/ ∃ T oT ts,tb = .ref T /\ T ≠ x /\ h.get? T = some oT /\ oT.data = .fields ts /\ 3 < ts.size
section
variable {M:Model} {A:Around} {E:Value -> Shared -> Prop} {s:Shared} {base:Heap} {env env0:Env} {outer:List Env} {L x t C:Addr} {dx:Option Addr} {cx:Value} {kx:Bool}
theorem qy (h:env.frame = env0.frame):PySem.frameOf env = PySem.frameOf env0:=by unfold PySem.frameOf; rw [h]
theorem ug {tb head:Value} {hadNext:Bool} {Q:Unit -> Shared -> Prop} (hfr:A.frames = some (env0 :: outer)) (hl:s.heap.FunFrames base (env0 :: outer)) (hf:env0.frame = some L) (he:env.frame = some L)
  (hx:s.heap.get? x = some (xog C dx t tb cx kx))
  (h:∀ h' oT ts,h'.get? x = some (xog C dx t (.ref s⁻¹) cx kx) -> s⁻¹ ≠ x -> h'.get? s⁻¹ = some oT -> oT.data = .fields ts -> 3 < ts.size ->
   (∀ b o,b ≠ x -> b ∉ frs (env0 :: outer) -> s.heap.get? b = some o -> h'.get? b = some o) -> (∀ b o,b ≠ x -> s.heap.get? b = some o -> ∃ sl,h'.get? b = some { o with slots:=sl }) -> Q Unit.unit { s with heap:=h' }) :
  wpAny M A (do let a <- PySem.frameOf env; let pl <- entryPlaceOf L hadNext; let b <- EntryCells.newEntry head a .none (rawInt L) .none pl; setField (.ref x) 1 b) Q E s:=by
 have hxf:x ∉ frs (env0 :: outer):=fun hm=>by
  obtain ⟨_,o,ho,hnf⟩:=hl.mem hm;rw [hx]at ho;cases ho;exact hnf _ rfl
 rw [qy (he.trans hf.symm)];refine wpAny_bind (wpAny_frameOf_fun hfr hl hf fun h1 hs1=>wpAny_bind (wpAny_entryPlaceOf fun pl hpl=>?_));unfold EntryCells.newEntry newFields;refine wpAny_bind (wpAny_newObj_type ?_ (hpl.sizeOk5 _ _ _ _ _));have hz:h1.objs.size = s⁻¹:=hs1.1;have hx1:h1.get? x = some (xog C dx t tb cx kx):=(hs1.2.1 x hxf).trans hx;generalize ho:({ cls:=.type "traceback",dict:=none,data:=.fields ([head,.ref L,.none,rawInt L,.none] ++ (if pl.isEmpty then List.replicate 6 Value.none else pl)).toArray }:Obj) = ob;have hx2:(h1.push ob).get? x = some (xog C dx t tb cx kx):=Heap.get?_push_of_some _ hx1;refine wpAny_setField hx2 rfl (by show 1 < 6; decide) ?_;have hne:h1.objs.size ≠ x:=Nat.ne_of_gt (Heap.lt_size hx1)
 have hx3:((h1.push ob).update x (Obj.mapFields (·.setIfInBounds 1 (Value.ref h1.objs.size)))).get? x = some (xog C dx t (.ref h1.objs.size) cx kx) :=
  Heap.get?_update_self (Obj.mapFields (·.setIfInBounds 1 (Value.ref h1.objs.size))) hx2 rfl
 have hT:((h1.push ob).update x (Obj.mapFields (·.setIfInBounds 1 (Value.ref h1.objs.size)))).get? h1.objs.size = some ob :=
  (Heap.get?_update_other _ _ (Ne.symm hne)).trans (Heap.get?_push_size h1 (by rw [<- ho]; rfl))
 rw [hz]at hx3 hT hne
 have kp:∀ b o,b ≠ x -> h1.get? b = some o -> ((h1.push ob).update x (Obj.mapFields (·.setIfInBounds 1 (Value.ref h1.objs.size)))).get? b = some o:=fun b o hb e =>
  (Heap.get?_update_other _ _ (Ne.symm hb)).trans (Heap.get?_push_of_some _ e)
 rw [hz]at kp ⊢;refine h _ ob _ hx3 hne hT (by rw [<- ho]) (by simp only [List.size_toArray,List.length_append,List.length_cons,List.length_nil] <;> lia) (fun b o hb hbf e=>kp b o hb ((hs1.2.1 b hbf).trans e)) fun b o hb e=>?_;obtain ⟨sl,q⟩:=hs1.2.2 b o e;exact #[sl,kp b _ hb q]
theorem XO {tb:Value} {Q:Unit -> Shared -> Prop} (hfr:A.frames = some (env0 :: outer)) (hl:s.heap.FunFrames base (env0 :: outer)) (hf:env0.frame = some L) (he:env.frame = some L)
  (hx:s.heap.get? x = some (xog C dx t tb cx kx)) (htb:UU s.heap x tb)
  (h:∀ h' T oT ts,h'.get? x = some (xog C dx t (.ref T) cx kx) -> T ≠ x -> (tb = .ref T \/ s⁻¹ <= T) -> h'.get? T = some oT -> oT.data = .fields ts -> 3 < ts.size ->
   (∀ b o,b ≠ x -> tb ≠ .ref b -> b ∉ frs (env0 :: outer) -> s.heap.get? b = some o -> h'.get? b = some o) -> (∀ b o,b ≠ x -> tb ≠ .ref b -> s.heap.get? b = some o -> ∃ sl,h'.get? b = some { o with slots:=sl }) -> Q Unit.unit { s with heap:=h' }) :
  wpAny M A (noteFrame (.ref x) env) (fun _ s1=>wpAny M A (setFlight (.ref x) none) Q E s1) E s:=by
 have land:∀ (h1:Heap) (T:Addr) (oT:Obj) (ts:Array Value),h1.get? x = some (xog C dx t (.ref T) cx kx) -> T ≠ x -> (tb = .ref T \/ s⁻¹ <= T) -> h1.get? T = some oT -> oT.data = .fields ts -> 3 < ts.size ->
   (∀ b o,b ≠ x -> tb ≠ .ref b -> b ∉ frs (env0 :: outer) -> s.heap.get? b = some o -> h1.get? b = some o) -> (∀ b o,b ≠ x -> tb ≠ .ref b -> s.heap.get? b = some o -> ∃ sl,h1.get? b = some { o with slots:=sl }) ->
   wpAny M A (setFlight (.ref x) none) Q E { s with heap:=h1 }:=fun h1 T oT ts e1 nT oldT e2 d2 z2 k1 k2=>by
  unfold setFlight;refine wpAny_bind (wpAny_field (s:={ s with heap:=h1 }) e1 rfl (x:=.ref T) rfl ?_);rw [if_pos (show (Value.ref T != Value.none) = true from by simp)];refine wpAny_setField (s:={ s with heap:=h1 }) e2 d2 z2 ?_;have d3:=Obj.data_mapFields d2 (·.setIfInBounds 3 ((none:Option Addr).elim Value.none fun f=>rawInt f))
  have nb:∀ b,b ≠ x -> tb ≠ .ref b -> (∃ o,s.heap.get? b = some o) -> b ≠ T:=fun b hb hbt ⟨o,eo⟩ z=>by
   subst z;rcases oldT with q | q
   ·exact hbt q
   ·exact absurd (Heap.lt_size eo) (Nat.not_lt.mpr q)
  refine h _ T _ _ ((Heap.get?_update_other _ _ nT).trans e1) nT oldT (Heap.get?_update_self _ e2 (Obj.isFreed_of_fields d3)) d3 (by simpa using z2) (fun b o hb hbt hbf e=>?_) fun b o hb hbt e=>?_
  ·exact (Heap.get?_update_other _ _ (Ne.symm (nb b hb hbt #[o,e]))).trans (k1 b o hb hbt hbf e)
  ·obtain ⟨sl,q⟩:=k2 b o hb hbt e;exact #[sl,(Heap.get?_update_other _ _ (Ne.symm (nb b hb hbt #[o,e]))).trans q]
 unfold noteFrame;simp only [he];refine wpAny_bind (wpAny_field hx rfl (x:=tb) rfl ?_);rcases htb with rfl | ⟨T,oT,ts,rfl,nT,e2,d2,z2⟩
 ·rw [if_neg ∅];refine ug hfr hl hf he hx fun h' oT ts e1 ne e2 d2 z2 k1 k2=>land h' _ oT ts e1 ne (.inr (Nat.le_refl _)) e2 d2 z2 (fun b o hb _ hbf e=>k1 b o hb hbf e) fun b o hb _ e=>k2 b o hb e
 ·rw [if_pos (show (Value.ref T != Value.none) = true from by simp)];obtain ⟨y,hy⟩:∃ y,ts[3]? = some y:=#[ts[3],by simp [z2]];refine wpAny_bind (wpAny_field e2 d2 (x:=y) hy ?_);by_cases c:(y == rawInt L) = true
  ·rw [if_pos c];exact wpAny_pure (land s.heap T oT ts hx nT (.inl rfl) e2 d2 z2 (fun b o _ _ _ e=>e) fun b o _ _ e=>#[o.slots,e])
  ·rw [if_neg c];refine wpAny_bind (wpAny_setField e2 d2 z2 ?_);have oth:∀ b,b ≠ T -> (s.heap.update T (Obj.mapFields (·.setIfInBounds 3 Value.none))).get? b = s.heap.get? b:=fun b hb=>Heap.get?_update_other _ _ (Ne.symm hb);have hl1:(s.heap.update T (Obj.mapFields (·.setIfInBounds 3 Value.none))).FunFrames base (env0 :: outer):=hl.of_keeps fun b o hb hnf=>#[o,(oth b fun q=>by rw [q,e2]at hb; cases hb; exact hnf ts d2).trans hb,rfl];have hsz:(s.heap.update T (Obj.mapFields (·.setIfInBounds 3 Value.none))).objs.size = s⁻¹:=Heap.size_update ..;refine ug (s:={ s with heap:=s.heap.update T (Obj.mapFields (·.setIfInBounds 3 Value.none)) }) hfr hl1 hf he ((oth x (Ne.symm nT)).trans hx) fun h' oT' ts' e1 ne e2' d2' z2' k1 k2=>?_;refine land h' _ oT' ts' e1 ne (.inr (by rw [hsz]; exact Nat.le_refl _)) e2' d2' z2' (fun b o hb hbt hbf e=>k1 b o hb hbf ((oth b fun q=>hbt (by rw [q])).trans e)) fun b o hb hbt e=>k2 b o hb ((oth b fun q=>hbt (by rw [q])).trans e)
theorem VL {tb:Value} {Q:Unit -> Shared -> Prop} (hfr:A.frames = some (env0 :: outer)) (hl:s.heap.FunFrames base (env0 :: outer)) (hf:env0.frame = some L) (he:env.frame = some L)
  (hx:s.heap.get? x = some (xog C dx t tb cx kx)) (htb:UU s.heap x tb)
  (h:∀ h' T oT ts,h'.get? x = some (xog C dx t (.ref T) cx kx) -> T ≠ x -> (tb = .ref T \/ s⁻¹ <= T) -> h'.get? T = some oT -> oT.data = .fields ts -> 3 < ts.size ->
   (∀ b o,b ≠ x -> tb ≠ .ref b -> b ∉ frs (env0 :: outer) -> s.heap.get? b = some o -> h'.get? b = some o) -> (∀ b o,b ≠ x -> tb ≠ .ref b -> s.heap.get? b = some o -> ∃ sl,h'.get? b = some { o with slots:=sl }) -> Q Unit.unit { s with heap:=h' }) :
  wpAny M A (leaving env (.ref x)) Q E s:=wpAny_bind (XO hfr hl hf he hx htb h)
end
def CXx (P:Program) (w:World):CXT:=fun outer H s E e s'=>∃ (x C t:Addr) (dx:Option Addr) (tb:Value) (H':Hp),e = .ref x /\ s'.os = s.os /\ AllBare s'.gens /\ Un (frs outer) [] H H' s.heap s'.heap /\ HOk P w H' s'.heap /\
 s'.heap.get? x = some (xob C dx t tb) /\ UU s'.heap x tb /\ H' x = none /\ s⁻¹ <= x /\ (∀ T,tb = .ref T -> H' T = none /\ s⁻¹ <= T) /\ E (.ref C) dx H'
def Q8 (X:Cx) (E:XK) (e:Value) (s:Shared):Prop:=∃ (pins:List (Addr × Obj)) (σ:St) (H:Hp) (x C t:Addr) (dx:Option Addr) (tb:Value),e = .ref x /\ Inv X pins σ H s /\
 s.heap.get? x = some (xob C dx t tb) /\ UU s.heap x tb /\ yV X pins H x /\ (∀ T,tb = .ref T -> yV X pins H T) /\ E (.ref C) dx H
def XE (X:Cx) (E:XK):Prop:=∀ e s,Q8 X E e s -> X.xe e s
theorem Xd {X:Cx} {E:XK} (hx:XE X E):wf (CXx X.prog X.w) X E:=by
 intro pins σ H s e s' I h;obtain ⟨x,C,t,dx,tb,H',rfl,os,bare,un,hok,ob,tr,hn,hsz,hT,q⟩:=h;have I':Inv X pins σ H' s':=I.call' os un hok bare fun b z=>absurd z (by simp);exact hx _ _ #[pins,σ,H',x,C,t,dx,tb,rfl,I',ob,tr,I.fpOk hsz hn,fun T e=>I.fpOk (hT T e).2 (hT T e).1,q]
theorem U3 {P:Program} {w:World} {K:PySem.W.Frag} {mg:Str -> Option Value} {base:Heap} {N:List Str} {qual:Str} {scope:Scope} {f:Addr} {cd:Value} {A:Around} {outer:List Env} {s:Shared} {H:Hp} {E:XK} :
  XE (wA (CXx P w) P w K mg base N qual scope f cd A outer s H E) E:=by
 intro e s1 h;obtain ⟨pins,σ,H1,x,C,t,dx,tb,rfl,I,ob,tr,fx,fT,q⟩:=h;show wpAny _ _ (leaving _ (.ref x)) _ _ s1;have ff:=I.stack;refine VL (A:=(wA (CXx P w) P w K mg base N qual scope f cd A outer s H E).A) (env0:=envOfC qual scope s⁻¹ f cd) (outer:=outer) I.ok.frames ff rfl rfl ob tr fun h' T oT ts e1 nT oldT e2 d2 z2 k1 k2=>?_;have szs:s⁻¹ <= s1⁻¹:=I.sz
 have hxs:s⁻¹ <= x:=by
  rcases fx.2.2.2.1 with z | z
  ·exact absurd z (by simp [wA])
  ·exact z
 have hTs:s⁻¹ <= T /\ H1 T = none:=by
  rcases oldT with z | z
  ·obtain ⟨a0,_,_,a3,_⟩:=fT T z;rcases a3 with y | y
   ·exact absurd y (by simp [wA])
   ·exact #[y,a0]
  ·exact #[Nat.le_trans szs z,I.hok.fresh z]
 have tbs:∀ b,tb = .ref b -> s⁻¹ <= b /\ H1 b = none:=fun b hb=>by
  obtain ⟨a0,_,_,a3,_⟩:=fT b hb;rcases a3 with y | y
  ·exact absurd y (by simp [wA])
  ·exact #[y,a0]
 have old:∀ b o,s.heap.get? b = some o -> b ≠ x /\ tb ≠ .ref b:=fun b o e=>by
  have hb:=Heap.lt_size e;refine #[Nat.ne_of_lt (Nat.lt_of_lt_of_le hb hxs),fun z=>?_];exact absurd (Nat.lt_of_lt_of_le hb (tbs b z).1) (Nat.lt_irrefl _)
 have un:Un (frs outer) [] H H1 s.heap h':=by
  have B:=I.base;refine #[fun b o e n hb _=>?_,fun b o e n hb _=>?_,fun b o e n _=>B.free b o e n (by simp [wA]),fun b o e _=>?_,B.tups,B.frzs,B.tbls]
  ·have e1:=B.keep b o e n hb (by simp [wA]);refine k1 b o (old b o e).1 (old b o e).2 (fun z=>?_) e1;have z':=I.stkSub b z;rcases ac.mp z' with q | q
   ·exact absurd q (Nat.ne_of_lt (Nat.lt_of_lt_of_le (Heap.lt_size e) I.ok.above))
   ·exact hb q
  ·obtain ⟨sl,e1⟩:=B.slot b o e n hb (by simp [wA]);obtain ⟨sl',e2⟩:=k2 b _ (old b o e).1 (old b o e).2 e1;exact #[sl',e2]
  ·obtain ⟨o',e1⟩:=B.there b o e (by simp [wA]);obtain ⟨sl',e2⟩:=k2 b _ (old b o e).1 (old b o e).2 e1;exact #[_,e2]
 have hok:HOk P w H1 h':=fun b u e=>by
  refine (I.hok b u e).stay (fun c v hc q=>k1 c v ?_ ?_ ?_ q) (fun _ q=>q) fun _ _ q=>q
  ·rintro rfl;rcases hc with rfl | hc
   ·rw [fx.1]at e; cases e
   ·rw [fx.1]at hc; cases hc
  ·intro z;have:=(tbs c z).2;rcases hc with rfl | hc
   ·rw [this]at e; cases e
   ·rw [this]at hc; cases hc
  ·intro z;have:=I.stkFree c z;rcases hc with rfl | hc
   ·rw [this]at e; cases e
   ·rw [this]at hc; cases hc
 exact #[x,C,t,dx,.ref T,H1,rfl,I.os,I.bare,un,hok,e1,.inr #[T,oT,ts,rfl,nT,e2,d2,z2],fx.1,hxs,fun T' z=>by cases z; exact #[hTs.2,hTs.1],q]
theorem Fun.okX {P:Program} {w:World} {K:PySem.W.Frag} {mg:Str -> Option Value} {base:Heap} {x qual:Str} {st:Stmt} {f:Addr} {fd:FuncData} {N ps:List Str} {k:Nat} {sp:Sp} (F:Fun K x qual st f fd) (S:zn N ps (ze st)) (len:∀ vs H Q E,sp vs H Q E -> vs.length = ps.length)
  (hbody:∀ (cdv:Value) (A:Around) (outer:List Env) (s:Shared) (H:Hp) (vs:List V) (Q:VK) (E:XK),Room k (A.deeper (envOfC qual (ze st) s⁻¹ f cdv)) -> XE (wA (CXx P w) P w K mg base N qual (ze st) f cdv A outer s H E) E -> sp vs H Q E ->
   ∃ t,PSs (wA (CXx P w) P w K mg base N qual (ze st) f cdv A outer s H E) (zO st) t /\ t { nx:=fun _ H'=>Q .non H',rt:=Q } (start N vs) H):FnOk P w K mg base (CXx P w) (k + 1) f fd ps sp:=by
 obtain ⟨oc,od,kV,doc,pm,an,cdv,ct,osl,rfl,lk,hcd⟩:=F.ex;exact Wg lk hcd S len fun A outer s H vs Q E hr hsp=>hbody cdv A outer s H vs Q E hr U3 hsp
def Qp (X:Cx) (E:XK) (e:Value) (s:Shared):Prop:=∃ (cx:Value) (kx:Bool) (pins:List (Addr × Obj)) (σ:St) (H:Hp) (x C t:Addr) (dx:Option Addr) (tb:Value),e = .ref x /\ Inv X pins σ H s /\
 s.heap.get? x = some (xog C dx t tb cx kx) /\ UU s.heap x tb /\ yV X pins H x /\ (∀ T,tb = .ref T -> yV X pins H T) /\ E (.ref C) dx H
def XEg (X:Cx) (E:XK):Prop:=∀ e s,Qp X E e s -> X.xe e s
end L3
namespace L3
open PySem PySem.Spec PyProof.Rows L2
structure RoomH (k:Nat) (A:Around):Prop where
 dp:A.depth + 3 * k + 5 < recursionLimit
 un:A.units + 16 * k + 200 < cLine
theorem RoomH.mark {k:Nat} {A:Around} (r:RoomH k A) (e:Option Value):RoomH k (A.mark e):=#[r.dp,r.un]
noncomputable def cxH (P:Program) (w:World) (K:PySem.W.Frag) (mg:Str -> Option Value) (base:Heap) (N:List Str) (qual:Str) (scope:Scope) (f:Addr) (cd:Value) (A:Around) (outer:List Env) (s:Shared) (H:Hp):Cx :=
 { wA CX0 P w K mg base N qual scope f cd A outer s H E0 with calm:=false,xe:=fun _ _=>False }
section
variable {X:Cx} {k:Nat} {f:Addr} {fd:FuncData} {ps:List Str} {sp:Sp} {x:Str} {p pos:Pos} {e:Expr} {es:List Expr} {t:TA}
end
end L3
namespace L3
open PySem PySem.Spec PyProof.Rows L2
noncomputable abbrev bmV:List Value:=[.type "ValueError",.type "Exception",.type "BaseException",.type "object"]
noncomputable def Z9 (K:PySem.W.Frag) (C:Addr):Bool:=match K.lookup C with
 | some ⟨.type "type",_,.cls cd,sl⟩=>(match cd.mro,sl.toList with
  | .ref C' :: bm,[_,_,_,_,some (.builtin n),_]=>C' == C && (n == "ValueError.__new__" && (!cd.hasDel && (cd.hasDict && PySem.W.tailIn K bmV bm)))
  | _,_=>false)
 | _=>false
theorem Qq {K:PySem.W.Frag} {C:Addr} (q:Z9 K C = true):∃ bm N nm qn bs sn sub ab col dd k0 k1 k2 k3 k5,K.lookup C = some (excClassObj nm qn C N bs bm true sn sub ab col dd k0 k1 k2 k3 k5 "ValueError.__new__") /\ ∀ h:Heap,K.In h -> OwnTail h bmV bm:=by
 unfold Z9 at q;split at q
 ·rename_i dd cd sl ho;split at q
  ·rename_i C' bm k0 k1 k2 k3 n k5 hm hs;simp only [Bool.and_eq_true,beq_iff_eq,Bool.not_eq_true']at q;obtain ⟨rfl,rfl,hdel,hdct,ht⟩:=q;obtain ⟨nm,bs,mro,ns,qn,hd,sn,sub,ab,col,del⟩:=cd;dsimp only at hm hdel hdct;subst hm hdel hdct
   have hsl:sl =(List.toArray [k0,k1,k2,k3,some (.builtin "ValueError.__new__"),k5]):=by
    obtain ⟨l⟩:=sl;simp only at hs;rw [hs]
   subst hsl;exact #[bm,ns,nm,qn,bs,sn,sub,ab,col,dd,k0,k1,k2,k3,k5,ho,fun h X=>PySem.W.tail_of_in X ht]
  ·cases q
 ·cases q
theorem qk {K:PySem.W.Frag} {C:Addr} {G:Prop} (q:Z9 K C = true) (f:∀ bm N nm qn bs sn sub ab col dd k0 k1 k2 k3 k5,K.lookup C = some (excClassObj nm qn C N bs bm true sn sub ab col dd k0 k1 k2 k3 k5 "ValueError.__new__") -> (∀ h:Heap,K.In h -> OwnTail h bmV bm) -> G):G:=by
 obtain ⟨bm,N,nm,qn,bs,sn,sub,ab,col,dd,k0,k1,k2,k3,k5,lk,tl⟩:=Qq q;exact f bm N nm qn bs sn sub ab col dd k0 k1 k2 k3 k5 lk tl
structure XC (K:PySem.W.Frag) (C:Addr):Prop where
 ok:Z9 K C = true
 sa:PySem.W.findIn K (.ref C) "__setattr__" = some (some (.builtin "object.__setattr__"))
 ga:PySem.W.findIn K (.ref C) "__getattribute__" = some (some (.builtin "BaseException.__getattribute__"))
 gt:PySem.W.findIn K (.ref C) "__getattr__" = some none
 kp:PySem.W.keepIn K (.ref C) = true
section
variable {prog:Program} {w:World} {A:Around} {R:Result -> Shared -> Prop} {h:Heap} {g:Array GenState} {d:Drawn} {t:Nat} {os:OsState} {K:PySem.W.Frag} {C:Addr}
theorem j9 {init:Value} {rest:List Value} (X:K.In h) (q:Z9 K C = true) (hi:PySem.W.findIn K (.ref C) "__init__" = some (some init))
  (hb:∀ self,PySem.W.Looks (model prog w) h (bindSpecial init self) (init,[self])) (hrest:rest.length <= sizeLine)
  (hq:codeAny (model prog w) (A.under (.builtin "type.__call__" #[.ref C :: rest,[]])) (.call init #[.ref (h.objs.size + 1) :: rest,[]]) (PySem.W.InitBack (h.objs.size + 1) R) #[(h.push { cls:=.type "tuple",data:=.seq rest.toArray }).push (xob C none h.objs.size .none),g,d,t,os]) :
  codeAny (model prog w) A (.call (.ref C) #[rest,[]]) R #[h,g,d,t,os]:=by
 refine qk (q) fun bm N nm qn bs sn sub ab col dd k0 k1 k2 k3 k5 lk tl=>?_;have hC:=X _ _ lk;have T:=tl h X;have F:=PySem.F.excBase_ValueError;have f1:=tc_lookup;have f2:=tc_bind (.ref C);have hT:(#[h,g,d,t,os]:Shared).TypeIs (.ref C) "type":=#[_,hC,rfl];refine codeAny_of_tree ?_;show wpAny _ _ (callAny (.ref C) _) _ _ _
 repeat (any_goals (first | assumption | with_reducible refine wpAny_loadPart_at hC ?_ | wp_step))
 refine #[rfl,?_];refine codeAny_call_builtin_at (Code.quiet_builtin _ (by symm)) entry_typeCall (wpAny_check_type_call_sub hC ?_)
 repeat (first | with_reducible refine wpAny_loadPart_at hC ?_ | with_reducible refine wpAny_madeBy_exc hC ?_ | wp_step)
 refine codeAny_call_builtin_code (Code.quiet_builtin _ F.quiet) (wpAny_check_new_subT F T hC ?_);refine codeAny_exc_new_subT F T hC ?_ hrest;show wpAny _ _ _ _ _ _;have k:∀ b o,h.get? b = some o -> ((h.push { cls:=.type "tuple",data:=.seq rest.toArray }).push (xob C none h.objs.size .none)).get? b = some o:=fun b o e=>Heap.get?_push_of_some _ (Heap.get?_push_of_some _ e);have hC1:=k _ _ hC;have hget:((h.push { cls:=.type "tuple",data:=.seq rest.toArray }).push (xob C none h.objs.size .none)).get? (h.objs.size + 1) = some (xob C none h.objs.size .none):=by heap_get
 have hcC:(Value.ref C :: bm).contains (.ref C) = true:=by simp
 unfold isInstance
 repeat (first | with_reducible refine wpAny_loadPart_at hget ?_ | wp_step)
 refine wpAny_isSubtype_exc (C:=C) hC1 ?_;rw [hcC]
 repeat wp_step
 show wpAny _ _ (typeLookup (.ref C) _) _ _ _;refine ((PySem.W.looks_findIn X hi).keeps k).at ?_;refine wpAny_holding (wpAny_bind (((hb _).keeps k).at ?_));refine wpAny_bind (wpAny_call (codeAny_mono hq fun r s' z=>?_));rcases r with e | (v | _ | _ | _) <;> first | exact z | exact z.elim | skip;obtain ⟨rfl,z⟩:=z;exact wpAny_pure (wpAny_pure z)
end
end L3
namespace L3
open PySem PySem.Spec PyProof.Rows L2
noncomputable def XN (x C:Addr) (dx:Option Addr):HO:=.ext fun h=>∃ t,h.get? x = some (xob C dx t .none)
noncomputable def XT (x C:Addr) (dx:Option Addr):HO:=.ext fun h=>∃ t tb c k,h.get? x = some (xog C dx t tb c k)
noncomputable def XP (x C:Addr) (dx:Option Addr):HO:=.ext fun h=>∃ t tb,h.get? x = some (xob C dx t tb)
theorem QX {P:Program} {w:World} {H:Hp} {h:Heap} {x C t:Addr} {dx:Option Addr} (e:h.get? x = some (xob C dx t .none)):ObjOk P w H h x (XN x C dx) :=
 #[#[t,e],#[_,e],fun h1 h2 ⟨t,q⟩ k=>#[t,k _ q]]
theorem Qv {P:Program} {w:World} {H:Hp} {h:Heap} {x C:Addr} {dx:Option Addr} (o:ObjOk P w H h x (XN x C dx)):∃ t,h.get? x = some (xob C dx t .none):=o.1
theorem Ks {P:Program} {w:World} {H:Hp} {h:Heap} {x C:Addr} {dx:Option Addr} (o:ObjOk P w H h x (XT x C dx)):∃ t tb c k,h.get? x = some (xog C dx t tb c k):=o.1
section
variable {nm q:Str} {C N:Addr} {bs bm:List Value} {hdct:Bool} {sn:List Str} {sub:List Value} {ab:Bool} {col:Option Bool} {dd:Option Addr} {k0 k1 k2 k3 k5:Option Value} {newId:String} {h:Heap} {M:Model}
theorem qd (hC:h.get? C = some (excClassObj nm q C N bs bm hdct sn sub ab col dd k0 k1 k2 k3 k5 newId)) (base:Value):PySem.W.Looks M h (isSubtype (.ref C) base) ((Value.ref C :: bm).contains base):=fun A Q E s k z=>by
 obtain ⟨hp,g,d,t,os⟩:=s;exact wpAny_isSubtype_exc (k _ _ hC) z
theorem k8 (hC:h.get? C = some (excClassObj nm q C N bs bm hdct sn sub ab col dd k0 k1 k2 k3 k5 newId)):PySem.W.Looks M h (mroOf (.ref C)) (.ref C :: bm):=fun A Q E s k z=>by
 obtain ⟨hp,g,d,t,os⟩:=s;exact wpAny_mroOf_exc (k _ _ hC) z
theorem Z0 (hC:h.get? C = some (excClassObj nm q C N bs bm hdct sn sub ab col dd k0 k1 k2 k3 k5 newId)):PySem.W.Looks M h (classData C) { name:=nm,bases:=bs,mro:=.ref C :: bm,ns:=N,qualname:=q,hasDict:=hdct,slotNames:=sn,subclasses:=sub,abstract:=ab,collection:=col,hasDel:=false }:=fun A Q E s k z=>by
 unfold classData;exact wpAny_bind (wpAny_load (k _ _ hC) (wpAny_pure z))
theorem jj {bmB bm:List Value} (T:OwnTail h bmB bm) (self:Value) (hp:refuseLoop self "__setattr__" bmB = pure Unit.unit):refuseLoop self "__setattr__" bm = pure Unit.unit:=by
 induction T with
 | base=>exact hp
 | own _ _ _ _ ih=>rw [refuseLoop_ref]; exact ih
end
section
variable {X:Cx} {pins:List (Addr × Obj)} {σ:St} {H:Hp} {s:Shared} {A:Around} {E:Value -> Shared -> Prop} {x C:Addr} {f:Str} {y:V} {u:Value}
theorem Uf {Q:Unit -> Shared -> Prop} (I:Inv X pins σ H s) (e:H x = some (XN x C none)) (xc:XC X.K C) (n:NoAttr X.K C f) (ry:RelV y u)
  (h:∀ s' dx,H dx = none -> Inv X pins σ (upd (upd H dx (.xd [(f,y)])) x (XN x C (some dx))) s' -> Q Unit.unit s'):wpAny (model X.prog X.w) A (setAttr (.ref x) f u) Q E s:=by
 obtain ⟨t,ob⟩:=Qv (I.hok x _ e);refine qk (xc.ok) fun bm N nm qn bs sn sub ab col dd k0 k1 k2 k3 k5 lk tl=>?_;have hC:=I.kIn _ _ lk;have T:=tl _ I.kIn;have SF:=PySem.F.store_ValueError;have J:PySem.W.InstAt s.heap x (xob C none t .none) C none:=#[ob,rfl,rfl,trivial];have hob:(Value.ref C :: bm).contains (.type "object") = true:=by rw [List.contains_cons,T.hasType (show bmV.contains (.type "object") = true by symm),Bool.or_true]
 have isO:PySem.W.Looks (model X.prog X.w) s.heap (isInstance (.ref x) (.type "object")) true:=J.type.andThen (by have:=qd (M:=model X.prog X.w) hC (.type "object"); rw [hob]at this; exact this);refine PySem.W.set_plain I.kIn J xc.sa ?_;refine codeAny_call_builtin SF.slot.plain SF.entry (@PySem.W.check_slot (model X.prog X.w) _ _ { s with toks:=s.toks + 1 } "object.__setattr__" "object" "__setattr__" (.ref x) [.str f s.toks,u] [] _ SF.kind SF.split isO (SF.args _ _ _) ?_);rw [PySem.W.osa_eq,refuse_eq];refine wpAny_bind (wpAny_bind (J.type.here (s:={ s with toks:=s.toks + 1 }) (wpAny_bind ((k8 hC).here (s:={ s with toks:=s.toks + 1 }) ?_))));rw [refuseLoop_ref,jj T _ (SF.passes _)];refine wpAny_pure (wpAny_bind (J.type.here (s:={ s with toks:=s.toks + 1 }) (wpAny_bind ((PySem.W.looks_findIn I.kIn n).here (s:={ s with toks:=s.toks + 1 }) (wpAny_bind (wpAny_pure ?_))))));show wpAny _ _ (Builtin.ObjectAttr.storeInOwnDict (.ref x) (.ref C) (.str f s.toks) f u false) _ _ _;have hx1:(s.heap.push { cls:=.type "dict",data:=.dict #[] }).get? x = some (xob C none t .none):=Heap.get?_push_of_some _ ob;have hxs:x ≠ s⁻¹:=Nat.ne_of_lt (Heap.lt_size ob);refine wpAny_bind (wpAny_pure (wpAny_bind (wpAny_bind (wpAny_loadPart ob (wpAny_bind ((Z0 hC).here (s:={ s with toks:=s.toks + 1 }) ?_))))));rw [if_neg (by simp)];show wpAny _ _ (if (!true || !typeHasDict (.ref C)) = true then _ else _) _ _ _;rw [if_neg (by simp [typeHasDict])]
 have hgd:((s.heap.push { cls:=.type "dict",data:=.dict #[] }).update x fun o=>{ cls:=o.cls,dict:=some s⁻¹,data:=o.data,slots:=o.slots }).get? s⁻¹ = some { cls:=.type "dict",data:=.dict #[] } :=
  (Heap.get?_update_other _ _ hxs).trans (Heap.get?_push_at rfl rfl)
 have hgx:((s.heap.push { cls:=.type "dict",data:=.dict #[] }).update x fun o=>{ cls:=o.cls,dict:=some s⁻¹,data:=o.data,slots:=o.slots }).get? x = some (xob C (some s⁻¹) t .none) :=
  Heap.get?_update_self _ hx1 rfl
 have hnd:((s.heap.push { cls:=.type "dict",data:=.dict #[] }).update x fun o=>{ cls:=o.cls,dict:=some s⁻¹,data:=o.data,slots:=o.slots }).Ns s⁻¹ (fun _=>none) :=
  #[_,#[],_,hgd,rfl,fun e he=>absurd he (by simp),fun _=>rfl]
 refine wpAny_bind (wpAny_alloc' (wpAny_bind (wpAny_update' hx1 (wpAny_pure ?_))));show wpAny _ _ (Builtin.ObjectAttr.storeInDict s⁻¹ (.str f s.toks) f u) _ _ _;unfold Builtin.ObjectAttr.storeInDict Builtin.ObjectAttr.newKeyGuard;refine wpAny_bind (wpAny_pure (wpAny_bind (wpAny_nsSet1 (Heap.Ns1.of_empty hnd) fun h' hn' hs=>?_)));obtain ⟨oD,esD,epD,hoD,hdD,hcD⟩:=hn'.count (Within.cons f u Within.nil);refine wpAny_bind (wpAny_lookBehind hoD (by rw [hdD]; exact pastItsLine_dict (Nat.le_trans hcD (by rw [List.length_cons,List.length_nil,sizeLine_eq]; lia))) ?_);refine wpAny_pure ?_;have hx2:h'.get? x = some (xob C (some s⁻¹) t .none):=(hs.2 x hxs).trans hgx;have hfr:H s⁻¹ = none:=I.hok.fresh (Nat.le_refl _);have hxe:x ≠ s⁻¹:=hxs;refine h _ s⁻¹ hfr ?_
 have k0:∀ b o,b ≠ x -> s.heap.get? b = some o -> h'.get? b = some o:=fun b o hb q =>
  (hs.2 b (Nat.ne_of_lt (Heap.lt_size q))).trans ((Heap.get?_update_other _ _ (Ne.symm hb)).trans (Heap.get?_push_of_some _ q))
 have I1:Inv X pins σ (upd H x (XN x C (some s⁻¹))) { s with heap:=h',toks:=s.toks + 1 + 1 } :=
  I.write (x:=x) (e:=x) (by rw [e]; exact True.intro) (.inl rfl) k0 ⟨_,hx2⟩ (QX hx2)
 have hd2:ObjOk X.prog X.w (upd (upd H x (XN x C (some s⁻¹))) s⁻¹ (.xd [(f,y)])) h' s⁻¹ (.xd [(f,y)]):=by
  refine #[_,hn',fun g=>?_];show RelO (List.lookup g [(f,y)]) (if g = f then some u else none);by_cases q:g = f
  ·subst q;rw [if_pos rfl];simp [List.lookup,RelO,ry]
  ·rw [if_neg q];have q':(g == f) = false:=by simpa using q
   simp [List.lookup,q',RelO]
 have fd:yV X pins (upd H x (XN x C (some s⁻¹))) s⁻¹:=I.fpOk (Nat.le_refl _) (by rw [zk (Ne.symm hxe)]; exact hfr);have I2:=Inv.track I1 fd hd2
 have eH:upd (upd H x (XN x C (some s⁻¹))) s⁻¹ (.xd [(f,y)]) = upd (upd H s⁻¹ (.xd [(f,y)])) x (XN x C (some s⁻¹)):=by
  funext b;unfold upd;by_cases b1:b = s⁻¹
  ·subst b1;rw [if_pos rfl,if_neg (Ne.symm hxe),if_pos rfl]
  ·by_cases b2:b = x
   ·subst b2;rw [if_neg b1,if_pos rfl,if_pos rfl]
   ·rw [if_neg b1,if_neg b2,if_neg b2,if_neg b1]
 rw [eH]at I2;exact I2
end
end L3
namespace L3
open PySem PySem.Spec PyProof.Rows L2
def UY (K:PySem.W.Frag) (ta tv:TE) (f:Str):TS:=fun D σ H=>tv σ H fun y H1=>ta σ H1 fun o H2=>∃ x C,o = .ref x /\ H2 x = some (XN x C none) /\ XC K C /\ NoAttr K C f /\ ∀ dx,H2 dx = none -> D.nx σ (upd (upd H2 dx (.xd [(f,y)])) x (XN x C (some dx)))
section
variable {X:Cx} {o value:Expr} {f:Str} {pos pos':Pos} {ta tv:TE}
theorem V0 (ha:PE X o ta) (hv:PE X value tv) (hs:swapsWith value (some (.Attribute o f pos')) pos.line X.env = pure false):PS X (.Assign [.Attribute o f pos'] value pos) (UY X.K ta tv f):=by
 intro pins s σ H D I h;refine plainObj_wpAny_Assign_Attribute (thn (hv pins s σ H _ I h) fun u s1=>el5 fun y H1 I1 ry q=>thn (ha pins s1 σ H1 _ I1 q) fun ov s2=>el5 fun x' H2 I2 rx q_z=>?_) hs;obtain ⟨x,C,ex,e,xc,n,q2⟩:=q_z;subst ex;obtain rfl:ov = Value.ref x:=rx;exact Uf I2 e xc n ry fun s3 dx hdx I3=>#[σ,_,I3,q2 dx hdx]
end
section
variable {M:Model} {A:Around} {E:Value -> Shared -> Prop} {s:Shared} {env:Env}
theorem ZG {K:PySem.W.Frag} {x:Sem Value} {Q:Flow -> Shared -> Prop} (hh:A.handled = none)
  (h:wpAny M A x (fun v s1=>∃ e C t dx,v = .ref e /\ K.In s1.heap /\ Z9 K C = true /\ s1.heap.get? e = some (xob C dx t .none) /\ E (.ref e) s1) E s):wpAny M A (raiseStmt env (some x) none) Q E s:=by
 unfold raiseStmt;refine wpAny_bind (thn h fun v s1 h1=>?_);obtain ⟨e,C,t,dx,rfl,X,hC,he,hE⟩:=h1;refine qk (hC) fun bm N nm qn bs sn sub ab col dd k0 k1 k2 k3 k5 lk tl=>?_;have hCo:=X _ _ lk;have T:=tl _ X;have hcB:(Value.ref C :: bm).contains (.type "BaseException") = true:=by rw [List.contains_cons,T.hasType (show bmV.contains (.type "BaseException") = true by symm),Bool.or_true]
 obtain ⟨hp,g,d,tk,os⟩:=s1
 repeat (first | with_reducible refine wpAny_loadPart_at he ?_ | with_reducible refine wpAny_loadPart_at hCo ?_ | (with_reducible refine wpAny_isSubtype_exc hCo ?_; rw [hcB]) | wp_step)
 exact wpAny_raiseNew_none hh hE
theorem Zw {K:PySem.W.Frag} {e:Expr} {pos:Pos} {Q:Flow -> Shared -> Prop} (hh:A.handled = none)
  (h:wpAny M A (eval e env) (fun v s1=>∃ a C t dx,v = .ref a /\ K.In s1.heap /\ Z9 K C = true /\ s1.heap.get? a = some (xob C dx t .none) /\ E (.ref a) s1) E s):wpAny M A (exec (.Raise (some e) none pos) env) Q E s:=by
 rw [arm_exec_Raise]
 first
  | exact wpAny_bind (wpAny_standAt (ZG hh (wpAny_bind (thn h fun v s1 h1=>wpAny_bind (wpAny_standAt (wpAny_pure h1))))))
  | (simp only [evalOpt,Option.map]; exact wpAny_bind (wpAny_standAt (ZG hh (wpAny_bind (thn h fun v s1 h1=>wpAny_bind (wpAny_standAt (wpAny_pure h1)))))))
end
noncomputable def del (H:Hp) (x:Addr):Hp:=fun b=>if b = x then none else H b
theorem YV {H:Hp} {x b:Addr} (h:b ≠ x):del H x b = H b:=if_neg h
theorem j6 {H:Hp} {x:Addr}:del H x x = none:=if_pos rfl
section
variable {X:Cx} {pins:List (Addr × Obj)} {σ:St} {H:Hp} {s:Shared}
theorem Inv.untrack {x:Addr} {φ:Heap -> Prop} (I:Inv X pins σ H s) (e:H x = some (.ext φ)) (hs:X.s₀.heap.objs.size <= x):Inv X pins σ (del H x) s:=by
 have nx:∀ b u,H b = some u -> (∀ ψ,u ≠ .ext ψ) -> b ≠ x:=fun b u q nu z=>by subst z; rw [e]at q; cases q; exact nu _ rfl
 have hn:∀ b,b ≠ x -> del H x b = H b:=fun b hb=>YV hb;have es:s = { s with heap:=s.heap,gens:=s.gens,drawn:=s.drawn,toks:=s.toks }:=rfl;rw [es]
 refine I.step (g':=s.gens) (d':=s.drawn) (ch:=[x]) (fun b hb=>?_) (fun b o _ _ _ q _=>q) (fun b o _ _ _ q _=>#[o.slots,q]) (fun b o hc _ n=>?_)
  (fun b o _ q=>#[o,q]) (fun b xs q=>?_) (fun b u xs q=>?_) (fun b ps q=>?_) (fun m hm=>hm) (fun b u q=>?_) I.bare
 ·have eb:b = x:=by simpa using hb
  subst eb;refine #[.inr hs,fun z=>?_,fun y c q z=>?_,fun p hp z=>?_]
  ·rw [z,I.free]at e; cases e
  ·have:=I.freeC y c q; rw [z,e]at this; cases this
  ·have:=(I.pin p hp).2.1; rw [z,e]at this; cases this
 ·rw [hn b (by simpa using hc)]; exact n
 ·rw [hn b (nx b _ q fun _ z=>by cases z)]; exact q
 ·rw [hn b (nx b _ q fun _ z=>by cases z)]; exact q
 ·exact #[#[],by rw [hn b (nx b _ q fun _ z=>by cases z),q]; simp]
 ·by_cases hb:b = x
  ·subst hb;rw [j6]at q;cases q
  ·rw [hn b hb]at q;exact (I.hok b u q).stay (fun c v _ z=>z) (fun c z=>by rw [hn c (nx c _ z fun _ y=>by cases y)]; exact z) fun c xs z=>by rw [hn c (nx c _ z fun _ y=>by cases y)]; exact z
theorem ko {C:Addr} {us:List Value} {E:Value -> Shared -> Prop} {Q:Value -> Shared -> Prop} (I:Inv X pins σ H s) (xc:Z9 X.K C = true) (hi:PySem.W.findIn X.K (.ref C) "__init__" = some (some (.builtin "ValueError.__init__"))) (hl:us.length <= sizeLine)
  (h:∀ s' x t,s⁻¹ <= x -> Inv X pins σ H s' -> s'.heap.get? x = some (xob C none t .none) -> Q (.ref x) s'):wpAny (model X.prog X.w) X.A (call (.ref C) us) Q E s:=by
 have F:=PySem.F.excBase_ValueError;refine qk (xc) fun bm N nm qn bs sn sub ab col dd k0 k1 k2 k3 k5 lk tl=>?_;have hC:=I.kIn _ _ lk;have T:=tl _ I.kIn;obtain ⟨hp,g,d,t,os⟩:=s;have k:∀ b o,hp.get? b = some o -> ((hp.push { cls:=.type "tuple",data:=.seq us.toArray }).push (xob C none hp.objs.size .none)).get? b = some o:=fun b o e=>Heap.get?_push_of_some _ (Heap.get?_push_of_some _ e);refine wpAny_call (j9 I.kIn xc hi (fun self=>PySem.W.Looks.of_pure (F.init.bind self)) hl ?_);have hget:((hp.push { cls:=.type "tuple",data:=.seq us.toArray }).push (xob C none hp.objs.size .none)).get? (hp.objs.size + 1) = some (xob C none hp.objs.size .none):=by heap_get
 refine codeAny_call_builtin F.init.plain F.initEntry (wpAny_check_init_subT F (T.keeps k) (k _ _ hC) hget rfl ?_)
 wp_walk
 refine #[rfl,h _ (hp.objs.size + 1) ((hp.push { cls:=.type "tuple",data:=.seq us.toArray }).push (xob C none hp.objs.size .none)).objs.size (Nat.le_succ _) (I.kept (t':=t) fun b o e=>?_) ?_]
 ·exact (Heap.get?_update_other _ _ (Nat.ne_of_gt (Nat.lt_succ_of_lt (Heap.lt_size e)))).trans (Heap.get?_push_of_some _ (k b o e))
 ·exact Heap.get?_update_self (Obj.mapFields fun x=>x.setIfInBounds 0 (Value.ref ((hp.push { cls:=.type "tuple",data:=.seq us.toArray }).push (xob C none hp.objs.size .none)).objs.size)) (Heap.get?_push_of_some _ hget) rfl
def jd (E:XK) (C:Addr) (t:TA):TS:=fun _ σ H=>t σ H fun vs H1=>vs.length <= sizeLine /\ E (.ref C) none H1
theorem ym {E:XK} {C:Addr} {cn:Str} {np cpos pos:Pos} {e:Expr} {es:List Expr} {t:TA} (hx:XE X E) (hc:X.calm = true) (xc:XC X.K C) (hi:PySem.W.findIn X.K (.ref C) "__init__" = some (some (.builtin "ValueError.__init__"))) (hg:Gl X cn) (hm:X.mg cn = some (.ref C)) (ha:PA X (e :: es) t)
  (hdb:(cn ==("__debug__" : Str)) = false:=by decide) (he:starEach (e :: es) X.env =(false,eval e X.env) :: starEach es X.env:=by rfl) (hpl:(backTo cpos (starEach es X.env)).any (·.1) = false:=by rfl) :
  PS X (.Raise (some (.Call (.Name cn np) (e :: es) [] cpos)) none pos) (jd E C t):=by
 intro pins s σ H D I h;refine Zw (K:=X.K) (I.ok.hd hc) (wpAny_Call_Name_kw (wH I hg hm ?_ hdb));refine PySem.W.callWith_K (h₀:=X.base) I.ok.mod.kin xc.kp (thn (ha cpos pins s σ H _ I h) fun us s1=>el5 fun vs H1 I1 r=>ua2 fun z q=>#[I1.kIn,?_]) he hpl;refine ko (us:=[] ++ us) I1 xc.ok hi (by show us.length <= sizeLine; rw [<- r.length]; exact z) fun s2 x t hz I2 ob=>#[x,C,t,none,rfl,I2.kIn,xc.ok,ob,?_];exact hx _ _ #[pins,σ,H1,x,C,t,none,.none,rfl,I2,ob,.inl rfl,I1.fpOk hz (I1.hok.fresh hz),fun T z=>(by cases z),q]
theorem ZE {A:Around} {C:Addr} {us:List Value} {k:Nat} (r:Room (k + 1) A):Room k (A.under (.builtin "type.__call__" #[.ref C :: us,[]])):=r.make C us []
def jg (E:XK) (C:Addr) (sp:Sp) (t:TA):TS:=fun _ σ H=>t σ H fun vs H1=>vs.length <= sizeLine /\ ∀ x,H1 x = none -> sp (.ref x :: vs) (upd H1 x (XN x C none)) (fun v H2=>v = .non /\ ∃ dx,H2 x = some (XN x C dx) /\ E (.ref C) dx (del H2 x)) E0
theorem YE {E:XK} {C f:Addr} {fd:FuncData} {k:Nat} {ps:List Str} {sp:Sp} {cn:Str} {np cpos pos:Pos} {e:Expr} {es:List Expr} {t:TA} (hx:XE X E) (hc:X.calm = true) (xc:XC X.K C) (hi:PySem.W.findIn X.K (.ref C) "__init__" = some (some (.ref f))) (hfn:PySem.W.isFn X.K (.ref f) = true)
  (F:FnOk X.prog X.w X.K X.mg X.base CX0 k f fd ps sp) (hr:Room (k + 1) X.A) (hb:Binds X.K fd ps []) (hg:Gl X cn) (hm:X.mg cn = some (.ref C)) (ha:PA X (e :: es) t)
  (hdb:(cn ==("__debug__" : Str)) = false:=by decide) (he:starEach (e :: es) X.env =(false,eval e X.env) :: starEach es X.env:=by rfl) (hpl:(backTo cpos (starEach es X.env)).any (·.1) = false:=by rfl) :
  PS X (.Raise (some (.Call (.Name cn np) (e :: es) [] cpos)) none pos) (jg E C sp t):=by
 intro pins s σ H D I h;refine Zw (K:=X.K) (I.ok.hd hc) (wpAny_Call_Name_kw (wH I hg hm ?_ hdb));refine PySem.W.callWith_K (h₀:=X.base) I.ok.mod.kin xc.kp (thn (ha cpos pins s σ H _ I h) fun us s1=>el5 fun vs H1 I1 r=>ua2 fun z q=>#[I1.kIn,?_]) he hpl;have hl:us.length <= sizeLine:=by rw [<- r.length]; exact z
 have ob:((s1.heap.push { cls:=.type "tuple",data:=.seq us.toArray }).push (xob C none s1⁻¹ .none)).get? (s1⁻¹ + 1) = some (xob C none s1⁻¹ .none):=by heap_get
 have hfr:H1 (s1⁻¹ + 1) = none:=I1.hok.fresh (Nat.le_succ _)
 have I2:Inv X pins σ (upd H1 (s1⁻¹ + 1) (XN (s1⁻¹ + 1) C none)) { s1 with heap:=(s1.heap.push { cls:=.type "tuple",data:=.seq us.toArray }).push (xob C none s1⁻¹ .none) } :=
  I1.laid (t':=s1.toks) (fun b o e=>Heap.get?_push_of_some _ (Heap.get?_push_of_some _ e)) (Nat.le_succ _) (QX ob)
 have q1:=q _ hfr;have r2:Vals (V.ref (s1⁻¹ + 1) :: vs) (Value.ref (s1⁻¹ + 1) :: us):=.cons rfl r
 have hlen:(Value.ref (s1⁻¹ + 1) :: us ++ ([]:List Value)).length = ps.length:=by
  rw [List.append_nil,<- r2.length];exact F.len _ _ _ _ q1
 have hb2:=hb { s1 with heap:=(s1.heap.push { cls:=.type "tuple",data:=.seq us.toArray }).push (xob C none s1⁻¹ .none) } (Value.ref (s1⁻¹ + 1) :: us) I2.kIn hlen;rw [List.append_nil]at hb2;have run:=F.run _ X.stack _ _ #[Value.ref (s1⁻¹ + 1) :: us,[]] (Value.ref (s1⁻¹ + 1) :: us) _ _ E0 (ZE (C:=C) (us:=us) hr) (I2.env0.make C us []) hb2 r2 q1;have sz0:X.s₀.heap.objs.size <= s1⁻¹ + 1:=Nat.le_trans I1.sz (Nat.le_succ _);show wpAny (model X.prog X.w) X.A (call (.ref C) us) _ X.xe s1;refine wpAny_call ?_;refine j9 (h:=s1.heap) (g:=s1.gens) (d:=s1.drawn) (t:=s1.toks) (os:=s1.os) (rest:=us) I1.kIn xc.ok hi (fun self=>PySem.W.bind_fn I1.kIn self (beq_iff_eq.mp hfn)) hl (codeAny_mono run fun r s' hq=>?_)
 cases r with
 | error e=>exact False.elim hq
 | ok fl =>
  cases fl with
  | ret u =>
   obtain ⟨v,H',I3,rv,ev,dx,hx3,q3⟩:=I2.after hq;subst ev;refine #[rv,?_];obtain ⟨t,ob3⟩:=Qv (I3.hok _ _ hx3);have I4:=Inv.untrack I3 hx3 sz0;refine #[_,C,t,dx,rfl,I3.kIn,xc.ok,ob3,hx _ _ #[pins,σ,_,_,C,t,dx,.none,rfl,I4,ob3,.inl rfl,?_,fun T z=>(by cases z),q3]];exact I1.fpOk (Nat.le_succ _) j6
  | next=>exact False.elim hq
  | brk=>exact False.elim hq
  | cont=>exact False.elim hq
end
end L3
namespace L3
open PySem PySem.Spec PyProof.Rows L2
noncomputable abbrev TX:=St -> Hp -> VK -> XK -> Prop
section
variable {X:Cx}
variable {k:Nat} {f:Addr} {fd:FuncData} {ps:List Str} {sp:Sp} {dvs:List V} {ds:List Value} {x:Str} {p pos:Pos} {e:Expr} {es:List Expr} {t:TA}
end
noncomputable abbrev Cx.suite (X:Cx) (e:Value):Cx:={ X with A:=X.A.mark (some e),calm:=false,xe:=fun _ _=>False }
theorem Inv.suite {X:Cx} {pins:List (Addr × Obj)} {σ:St} {H:Hp} {s:Shared} (I:Inv X pins σ H s) (e:Value):Inv (Cx.suite X e) pins σ H s :=
 #[#[I.ok.mod,I.ok.kind,I.ok.glob,I.ok.blt,I.ok.above,I.ok.inj,I.ok.has,I.ok.cab,fun z=>absurd z (by simp [Cx.suite]),I.ok.frames,I.ok.stk,I.ok.exf,I.ok.bs,I.ok.bsz,I.ok.noex,I.ok.exfs,I.ok.funs,I.ok.frf],
  I.os,I.bare,I.base,I.loc,I.cell,I.free,I.freeC,I.pin,I.hok,I.len]
section
variable {X:Cx} {pins:List (Addr × Obj)} {σ:St} {H:Hp} {s:Shared}
end
section
variable {X:Cx}
noncomputable def tbL:Value -> List Addr
 | .ref b=>[b]
 | _=>[]
end
end L3
namespace L3
open PySem PySem.Spec PyProof.Rows L2
section
variable {prog:Program} {w:World} {A:Around} {E:Value -> Shared -> Prop} {s:Shared} {K:PySem.W.Frag} {x C:Addr} {ox:Obj} {od:Option Obj} {name:Str} {tk:Tok}
theorem Qm {fill expr:Bool} {Q:Value -> Shared -> Prop} (X:K.In s.heap) (xc:XC K C) (J:PySem.W.InstAt s.heap x ox C od)
  (h:wpAny (model prog w) A.in1 (Builtin.«object.__getattribute__» #[[.ref x,.str name tk],[]]) (fun fin s'=>match fin with | .done (.ret v)=>wpAny (model prog w) A (handedOut v) Q E s' | _=>False) (fun _ _=>False) s) :
  wpAny (model prog w) A (getAttrBy (.ref x) (.str name tk) fill expr) Q E s:=by
 refine qk (xc.ok) fun bm N nm qn bs sn sub ab col dd k0 k1 k2 k3 k5 lk tl=>?_;have hC:=X _ _ lk;have T:=tl _ X;have FB:=PySem.F.attrBase_ValueError;have L0:=J.type (M:=model prog w);have L1:=PySem.W.looks_findIn (M:=model prog w) X xc.ga;have L2:=PySem.W.looks_findIn (M:=model prog w) X xc.gt;have hcB:(Value.ref C :: bm).contains (.type "BaseException") = true:=by rw [List.contains_cons,T.hasType (show bmV.contains (.type "BaseException") = true by symm),Bool.or_true]
 have isB:PySem.W.Looks (model prog w) s.heap (isInstance (.ref x) (.type "BaseException")) true:=L0.andThen (by have:=qd (M:=model prog w) hC (.type "BaseException"); rw [hcB]at this; exact this);have f3:=FB.ga.bind (.ref x);have hx0:(expr && onTheHeap (Value.builtin "BaseException.__getattribute__")) = false:=by cases expr <;> rfl
 have hx2:(Value.builtin "BaseException.__getattribute__" == Value.builtin "object.__getattribute__") = false:=by symm
 have hx1:(onTheHeap (Value.ref C) && Value.builtin "BaseException.__getattribute__" == Value.builtin "object.__getattribute__") = false:=by rw [hx2]; rfl
 unfold getAttrBy;refine wpAny_holding (wpAny_bind (L0.here (wpAny_bind (L1.here ?_))));show wpAny _ _ (if (onTheHeap (Value.ref C) && Value.builtin "BaseException.__getattribute__" == Value.builtin "object.__getattribute__") = true then _ else _) _ _ _;rw [hx1,if_neg Bool.false_ne_true];unfold getAttrByItsOwn hookBefore;rw [if_pos (by rfl)];refine wpAny_bind (L2.here (wpAny_bind (wpAny_attempt (wpAny_holding ?_))));unfold callGetattribute;rw [hx0,if_neg Bool.false_ne_true];unfold boundAndCalled;rw [f3];refine wpAny_bind (wpAny_pure ?_);show wpAny (model prog w) A (call (.builtin "BaseException.__getattribute__") [.ref x,.str name tk]) _ _ s;refine wpAny_call (codeAny_call_builtin FB.ga.plain PySem.F.entry_bexc_ga (@PySem.W.check_slot (model prog w) _ _ s "BaseException.__getattribute__" "BaseException" "__getattribute__" (.ref x) [.str name tk] [] _ (by symm) (by symm) isB (PySem.F.args_bexc_ga _ _) ?_));refine wpAny_mono h (fun fin s' z=>?_) fun _ _ z=>z.elim;rcases fin with (_ | _ | _ | v) | _ <;> first | exact z | exact z.elim
theorem WZ {Q:Option Value -> Shared -> Prop} (X:K.In s.heap) (xc:XC K C) (J:PySem.W.InstAt s.heap x ox C od) (ha:PySem.W.findIn K (.ref C) "__class__" = some (some (.builtin "object.__class__")))
  (hn:PySem.W.specialIn K (.builtin "object.__class__") "__get__" = some (some (.builtin "getset_descriptor.__get__"))) (htk:PySem.W.takesIn K (.builtin "object.__class__") = some true) (hm:PySem.W.mroIn K C (.type "object") = some true)
  (h:Q (some (.ref C)) { s with toks:=s.toks + 1 }):wpAny (model prog w) A (getAttr? (.ref x) "__class__") Q E s:=by
 have hf:PySem.W.findObj K C od "__class__" = some (.bind (.builtin "getset_descriptor.__get__") (.builtin "object.__class__")):=by
  refine qk (xc.ok) fun bm N nm qn bs sn sub ab col dd k0 k1 k2 k3 k5 lk tl=>?_;have hcl:(PySem.W.clsIn K C).isSome = true:=by unfold PySem.W.clsIn; rw [lk]; rfl
  obtain ⟨cd,hc⟩:=ao.mp hcl;unfold PySem.W.findObj;rw [hc,Option.bind_some,ha,Option.bind_some];simp [hn,htk]
 unfold getAttr? getAttrBy?;refine wpAny_bind (wpAny_mkText (wpAny_bind (wpAny_attempt (Qm (s:={ s with toks:=s.toks + 1 }) X xc J ?_))));have L0:=J.type (M:=model prog w);have L1:=PySem.W.looks_find (M:=model prog w) X J hf;unfold Builtin.«object.__getattribute__»;refine wpAny_bind (wpAny_pure (wpAny_bind (wpAny_pure (wpAny_bind (L0.here (s:={ s with toks:=s.toks + 1 }) (wpAny_bind (L1.here (s:={ s with toks:=s.toks + 1 }) ?_)))))));show wpAny _ _ (holding [.builtin "object.__class__"] (call (.builtin "getset_descriptor.__get__") [.builtin "object.__class__",.ref x,.ref C]) >>= ret) _ _ _;refine wpAny_bind (wpAny_holding (wpAny_call (PySem.W.class_get (s:={ s with toks:=s.toks + 1 }) X J hm ?_)));refine wpAny_pure ?_;show wpAny _ _ (handedOut (.ref C)) _ _ _;rw [PySem.W.handedOut_of rfl];exact wpAny_pure (wpAny_pure h)
end
structure XI (K:PySem.W.Frag) (C:Addr):Prop extends XC K C where
 ca:PySem.W.findIn K (.ref C) "__class__" = some (some (.builtin "object.__class__"))
 cg:PySem.W.specialIn K (.builtin "object.__class__") "__get__" = some (some (.builtin "getset_descriptor.__get__"))
 ct:PySem.W.takesIn K (.builtin "object.__class__") = some true
 mo:PySem.W.mroIn K C (.type "object") = some true
theorem Q5 {h:Heap} {x C t:Addr} {tb c:Value} {k:Bool} (ob:h.get? x = some (xog C none t tb c k)):PySem.W.InstAt h x (xog C none t tb c k) C none:=#[ob,rfl,rfl,trivial]
theorem Kh {K:PySem.W.Frag} {x C:Addr} {dx:Option Addr} (xi:XI K C):PySem.W.KitX K (.ref x) (.ref C) (fun h=>(∃ t tb c k,h.get? x = some (xog C dx t tb c k)) /\ ∀ d,dx = some d -> ∃ o,h.get? d = some o) where
 ty:=fun M h X ⟨⟨t,tb,c,k',ob⟩,_⟩=>(PySem.W.Looks.ld ob).andThen .now
 it:=fun M h X _=>by
  refine qk (xi.ok) fun bm N nm qn bs sn sub ab col dd k0 k1 k2 k3 k5 lk tl=>?_;intro A' Q' E' s' k q;unfold isType loadHead;exact wpAny_bind (wpAny_loadPart (k _ _ (X _ _ lk)) (wpAny_pure q))
 ne:=fun h tp dd its n sl X htp=>by
  refine qk (xi.ok) fun bm N nm qn bs sn sub ab col dd k0 k1 k2 k3 k5 lk tl=>?_;refine Bool.eq_false_iff.mpr fun q=>?_;have e:C = tp:=Value.ref.inj (beq_iff_eq.mp q);subst e;have z:=congrArg (fun o:Option Obj=>o.map fun o=>match o.data with | .cls _=>true | _=>false) ((X _ _ lk).symm.trans htp);exact absurd (show true = false from Option.some.inj z) ∅
 ca:=fun {prog w A E Q s} X ⟨⟨t,tb,c,k',ob⟩,hd⟩ k=>by
  cases dx with
  | none=>exact WZ X xi.toXC (Q5 ob) xi.ca xi.cg xi.ct xi.mo k
  | some d =>
   obtain ⟨o,e⟩:=hd d rfl;exact WZ (od:=some o) X xi.toXC #[ob,rfl,rfl,e] xi.ca xi.cg xi.ct xi.mo k
section
variable {X:Cx}
def XAt (H:Hp) (x C:Addr) (dx:Option Addr) (fs:List (Str × V)):Prop:=H x = some (XT x C dx) /\ ((dx = none /\ fs = []) \/ ∃ d,dx = some d /\ H d = some (.xd fs))
theorem Yc:wX X (.builtin "isinstance") (fun xs H Q=>∃ x C dx fs c u b,xs = [.ref x,c] /\ cV c = some u /\ XAt H x C dx fs /\ XI X.K C /\ PySem.W.kitOne X.K (.ref C) u = some b /\ Q (.bl b) H):=by
 intro pins s σ H xs us Q I r h;obtain ⟨x,C,dx,fs,c,u,b,rfl,hc,⟨hx,hd⟩,xi,e,q⟩:=h;obtain ⟨v,w',rfl,rx,rc⟩:=X8 r;cases rx
 have:w' = u:=by
  cases c with
  | ty n=>cases hc; exact rc
  | ref a=>cases hc; exact rc
  | _=>cases hc
 subst this;refine PySem.W.kia_one (Kh (dx:=dx) xi) I.kIn #[Ks (I.hok _ _ hx),fun d z=>?_] e (fun z=>nomatch z) fun tk=>#[.bl b,H,I.tok tk,rfl,q];rcases hd with ⟨z',_⟩ | ⟨d',z',hd'⟩
 ·rw [z']at z; cases z
 ·rw [z']at z; cases z;obtain ⟨mA,⟨o,es,ep,ho,_⟩,_⟩:=I.hok _ _ hd';exact #[o,ho]
end
end L3
namespace L3
open PySem PySem.Spec PyProof.Rows L2
structure Df (P:Program) (w:World) (K:PySem.W.Frag) (mg:Str -> Option Value) (base:Heap) (CX:CXT) (k:Nat) (nm:Str) (ps:List Str) (ds:List Value) (sp:Sp):Prop where
 ex:∃ f fd,FnOk P w K mg base CX k f fd ps sp /\ mg nm = some (.ref f) /\ PySem.W.keepIn K (.ref f) = true /\ Binds K fd ps ds
structure Bt (mg:Str -> Option Value):Prop where
 len:mg "len" = none
 range:mg "range" = none
 isi:mg "isinstance" = none
 str:mg "str" = none
 int:mg "int" = none
 tuple:mg "tuple" = none
 list:mg "list" = none
 bool:mg "bool" = none
 enum:mg "enumerate" = none
 all:mg "all" = none
 verr:mg "ValueError" = none
 max:mg "max" = none
 rev:mg "reversed" = none
 zip:mg "zip" = none
 sum:mg "sum" = none
 sorted:mg "sorted" = none
section
variable {X:Cx} {CX:CXT} {k:Nat} {ps:List Str} {sp:Sp} {ds:List Value} {dvs:List V} {E:XK} {x:Str} {p pos:Pos} {e:Expr} {es:List Expr} {t:TA}
theorem cl0 {j:Nat} (D:Df X.prog X.w X.K X.mg X.base CX0 k x ps ds sp) (hr:Room j X.A) (hd:Vals dvs ds) (hg:Gl X x) (ha:PA X (e :: es) t) (hdb:(x ==("__debug__" : Str)) = false:=by decide) (he:starEach (e :: es) X.env =(false,eval e X.env) :: starEach es X.env:=by rfl)
  (hpl:(backTo pos (starEach es X.env)).any (·.1) = false:=by rfl) (hj:k <= j:=by decide):PE X (.Call (.Name x p) (e :: es) [] pos) (qJ sp dvs E0 t):=by
 obtain ⟨f,fd,F,hm,hk,hb⟩:=D.ex;exact Ye F (hr.mono hj) hg hm hk hb hd kR ha hdb he hpl
theorem clP {j:Nat} (hx:XE X E) (D:Df X.prog X.w X.K X.mg X.base (CXx X.prog X.w) k x ps ds sp) (hr:Room j X.A) (hd:Vals dvs ds) (hg:Gl X x) (ha:PA X (e :: es) t) (hdb:(x ==("__debug__" : Str)) = false:=by decide) (he:starEach (e :: es) X.env =(false,eval e X.env) :: starEach es X.env:=by rfl)
  (hpl:(backTo pos (starEach es X.env)).any (·.1) = false:=by rfl) (hj:k <= j:=by decide):PE X (.Call (.Name x p) (e :: es) [] pos) (qJ sp dvs E t):=by
 obtain ⟨f,fd,F,hm,hk,hb⟩:=D.ex;exact Ye F (hr.mono hj) hg hm hk hb hd (Xd hx) ha hdb he hpl
end
def TyX (K:PySem.W.Frag) (H:Hp) (x:V) (t:Value):Prop:=jD K H x t \/ (∃ a C dx fs,x = .ref a /\ t = .ref C /\ XAt H a C dx fs /\ XI K C) \/ (∃ a xs,x = .ref a /\ t = .type "list" /\ SqL K H a xs) \/ ∃ a xs,x = .ref a /\ t = .type "tuple" /\ SqT K H a xs
def Jq (K:PySem.W.Frag):List V -> Hp -> VK -> Prop:=fun xs H Q=>∃ x c u t b,xs = [x,c] /\ cV c = some u /\ TyX K H x t /\ PySem.W.kitOne K t u = some b /\ Q (.bl b) H
theorem Kw {X:Cx}:wX X (.builtin "isinstance") (Jq X.K):=by
 intro pins s σ H xs us Q I r h;obtain ⟨x,c,u,t,b,rfl,hc,ty,e,q⟩:=h;rcases ty with ty | ⟨a,C,dx,fs,rfl,rfl,ha,xi⟩ | ⟨a,ys,rfl,rfl,hq⟩ | ⟨a,ys,rfl,rfl,hq⟩
 ·exact XG pins s σ H _ us Q I r #[x,c,u,t,b,rfl,hc,ty,e,q]
 ·exact Yc pins s σ H _ us Q I r #[a,C,dx,fs,c,u,b,rfl,hc,ha,xi,e,q]
 all_goals
  obtain ⟨v,w',rfl,rx,rc⟩:=X8 r
  have:w' = u:=by
   cases c with
   | ty n=>cases hc; exact rc
   | ref a=>cases hc; exact rc
   | _=>cases hc
  subst this;cases rx
 ·obtain ⟨its,_,p,_⟩:=I.list hq;obtain ⟨o,h1,h2,_⟩:=p.isList;exact PySem.W.kia_one PySem.W.kitx_list I.kIn #[o,h1,h2] e (fun z=>nomatch z) fun tk=>#[.bl b,H,I.tok tk,rfl,q]
 ·obtain ⟨its,_,p,_⟩:=I.tuple hq;obtain ⟨o,h1,h2,_⟩:=p;exact PySem.W.kia_one PySem.W.kitx_tuple I.kIn #[o,h1,h2] e (fun z=>nomatch z) fun tk=>#[.bl b,H,I.tok tk,rfl,q]
theorem yU {X:Cx} {e:Expr} {te:TE} {c:Str} {n:String} {p q pos:Pos} (h1:Gl X "isinstance") (h2:X.mg "isinstance" = none) (he:PE X e te) (hg:Gl X c) (hm:X.mg c = none) (hv:bootBuiltins c = some (.type n)) (hn:c ≠ "__name__":=by decide) (hd:(c ==("__debug__" : Str)) = false:=by decide)
  (hs1:starEach [e,.Name c q] X.env =(false,eval e X.env) :: starEach [.Name c q] X.env:=by rfl) (hs3:starEach [.Name c q] X.env =(false,eval (.Name c q) X.env) :: starEach [] X.env:=by rfl) (hs2:(backTo pos (starEach [.Name c q] X.env)).any (·.1) = false:=by rfl):PE X (.Call (.Name "isinstance" p) [e,.Name c q] [] pos) (tCB (Jq X.K) (zM te (zM (tC (.ty n)) xu))) :=
 wu Kw h1 h2 boot_isinstance (za he (za (V9 hg hm hv rfl hn hd) zc hs3) hs1) (he:=hs1) (hpl:=hs2)
theorem WJ {a:Addr}:cV (.ref a) = some (.ref a):=rfl
theorem Qj {n:String}:cV (.ty n) = some (.type n):=rfl
theorem Kl {P w K mg base N q sc f cd A o s H}:(cxH P w K mg base N q sc f cd A o s H).K = K:=rfl
def Yo:V -> List V -> Hp -> VK -> Prop:=fun x xs H Q=>∃ z y,x = .str z /\ xs = [.str y] /\ Q (.int (Txt.count z y)) H
theorem VN {X:Cx}:MtR X "str.count" Yo:=Xl
def Zg:V -> List V -> Hp -> VK -> Prop:=fun x xs H Q=>∃ z y,x = .str z /\ xs = [.str y] /\ Q (.int (Txt.find z y)) H
theorem Qc {X:Cx}:MtR X "str.find" Zg:=VH
theorem YZ (l:()) (c:Nat):Txt.count (tx l) (tx [c]) =(l.count c:Int):=by
 have h:∀ l:(),cnt c l =(l.count c:Int):=fun l=>by
  induction l with
  | nil=>rfl
  | cons n r ih =>
   rw [cnt_cons,ih,List.count_cons];by_cases e:n = c
   ·subst e; simp; lia
   ·have:(n == c) = false:=by simpa using e
    simp [e,this]
 exact (PyProof.Rows.count_is (tx l) c).trans (h l)
theorem lt1 {a b:Nat}:([a]:()) < [b] ↔ a < b:=by rw [List.cons_lt_cons_iff]; exact #[fun h=>h.elim id fun ⟨_,q⟩=>absurd q (List.not_lt_nil _),.inl]
theorem Zl {l:()} {k v:Nat} (h:l[k]? = some v):(v ::(l.take k ++ l.drop (k + 1))).Perm l:=by
 obtain ⟨hk,e⟩:=ae.mp h
 have e2:l.take k ++ (v :: l.drop (k + 1)) = l:=by
  rw [<- e,<- List.drop_eq_getElem_cons hk,List.take_append_drop]
 exact (List.perm_middle.symm.trans (by rw [e2]))
def X2 (K:PySem.W.Frag):List V -> Hp -> VK -> Prop:=fun xs H Q=>match xs with
 | [.str z]=>z.length <= sizeLine /\ Q (.int z.length) H
 | [.ref a]=>∃ n:Nat,((∃ xs,SqL K H a xs /\ n = xs.length) \/ ∃ xs,SqT K H a xs /\ n = xs.length) /\ Q (.int n) H
 | xs=>∃ x n,xs = [x] /\ Qk K x H n /\ Q (.int n) H
theorem rLen_is {K:PySem.W.Frag} {xs:List V} {H:Hp} {Q:VK}:X2 K xs H Q = ∃ x n,xs = [x] /\ Qk K x H n /\ Q (.int n) H:=by
 unfold X2;split
 ·exact propext #[fun h=>#[_,_,rfl,#[h.1,rfl],h.2],fun ⟨_,_,e,h,q⟩=>by cases e; obtain ⟨h,rfl⟩:=h; exact #[h,q]]
 ·exact propext #[fun ⟨n,h,q⟩=>#[_,n,rfl,h,q],fun ⟨_,n,e,h,q⟩=>by cases e; exact #[n,h,q]]
 ·rfl
theorem JG {X:Cx}:wX X (.builtin "len") (X2 X.K):=fun pins s σ H xs us Q I r h=>Y7 pins s σ H xs us Q I r (rLen_is.mp h)
def ForR (lo:Int) (n:Nat) (g:TG) (tb:TS) (D:xW) (σ:St) (H:Hp):Prop:=∃ W:Nat -> Nat -> St -> Hp -> Prop,(∃ m,W 0 m σ H) /\ ∀ i m σ H,W i m σ H ->
 ((Itr lo n).stop i H /\ D.nx σ H) \/ ((Itr lo n).go i H /\ ∃ N:St -> Hp -> Prop,(∀ σ' H',N σ' H' -> ∃ m',m' < m /\ W (i + 1) m' σ' H') /\ ∀ x H',(Itr lo n).yld i H x H' -> g x σ H' fun σ2 H2=>tb { D with nx:=N,ct:=N,bk:=D.nx } σ2 H2)
theorem QZ {ta:TA} {g:TG} {tb:TS} {D:xW} {σ:St} {H:Hp}:Xa (VU ta) g tb D σ H = ta σ H fun vs H1=>∃ j:Int,vs = [.int j] /\ -(2 ^ 62) <= j /\ j < 2 ^ 62 /\ ForR 0 j.toNat g tb D σ H1:=rfl
theorem QH {ta:TA} {g:TG} {tb:TS} {D:xW} {σ:St} {H:Hp}:Xa (Kb ta) g tb D σ H = ta σ H fun vs H1=>∃ i j:Int,vs = [.int i,.int j] /\ (-(2 ^ 62) <= i /\ i < 2 ^ 62 /\ -(2 ^ 62) <= j /\ j < 2 ^ 62) /\ ForR i (j - i).toNat g tb D σ H1:=rfl
theorem ForR.by {lo:Int} {n:Nat} {g:TG} {tb:TS} {D:xW} {σ:St} {H:Hp} (Pv:Nat -> St -> Hp -> Prop) (h0:Pv 0 σ H)
  (hs:∀ i σ H,i < n -> Pv i σ H -> g (.int (lo + i)) σ H fun σ2 H2=>tb { D with nx:=Pv (i + 1),ct:=Pv (i + 1),bk:=D.nx } σ2 H2) (hd:∀ σ H,Pv n σ H -> D.nx σ H):ForR lo n g tb D σ H:=YT Pv h0 hs hd
def ForL (K:PySem.W.Frag) (a:Addr) (g:TG) (tb:TS) (D:xW) (σ:St) (H:Hp):Prop:=∃ W:Nat -> Nat -> St -> Hp -> Prop,(∃ m,W 0 m σ H) /\ ∀ i m σ H,W i m σ H ->
 ((Itl K a).stop i H /\ D.nx σ H) \/ ((Itl K a).go i H /\ ∃ N:St -> Hp -> Prop,(∀ σ' H',N σ' H' -> ∃ m',m' < m /\ W (i + 1) m' σ' H') /\ ∀ x H',(Itl K a).yld i H x H' -> g x σ H' fun σ2 H2=>tb { D with nx:=N,ct:=N,bk:=D.nx } σ2 H2)
theorem KN {K:PySem.W.Frag} {tl:TE} {g:TG} {tb:TS} {D:xW} {σ:St} {H:Hp}:Xa (UH K tl) g tb D σ H = tl σ H fun x H1=>∃ a,x = .ref a /\ (∃ xs,SqL K H1 a xs) /\ ForL K a g tb D σ H1:=rfl
def ForS (x:Str) (g:TG) (tb:TS) (D:xW) (σ:St) (H:Hp):Prop:=∃ W:Nat -> Nat -> St -> Hp -> Prop,(∃ m,W 0 m σ H) /\ ∀ i m σ H,W i m σ H ->
 ((Its x).stop i H /\ D.nx σ H) \/ ((Its x).go i H /\ ∃ N:St -> Hp -> Prop,(∀ σ' H',N σ' H' -> ∃ m',m' < m /\ W (i + 1) m' σ' H') /\ ∀ v H',(Its x).yld i H v H' -> g v σ H' fun σ2 H2=>tb { D with nx:=N,ct:=N,bk:=D.nx } σ2 H2)
theorem KZ {tl:TE} {g:TG} {tb:TS} {D:xW} {σ:St} {H:Hp}:Xa (Jl tl) g tb D σ H = tl σ H fun v H1=>∃ x,v = .str x /\ ForS x g tb D σ H1:=rfl
theorem ForS.by {l:()} {g:TG} {tb:TS} {D:xW} {σ:St} {H:Hp} (Pv:Nat -> St -> Hp -> Prop) (h0:Pv 0 σ H)
  (hs:∀ i c σ H,l[i]? = some c -> Pv i σ H -> g (.str (tx [c])) σ H fun σ2 H2=>tb { D with nx:=Pv (i + 1),ct:=Pv (i + 1),bk:=D.nx } σ2 H2) (hd:∀ σ H,Pv l.length σ H -> D.nx σ H):ForS (tx l) g tb D σ H:=VQ Pv h0 hs hd
def K7 (x:Str) (g:TG) (tb:TS) (D:xW) (σ:St) (H:Hp):Prop:=∃ W:Nat -> Nat -> St -> Hp -> Prop,(∃ m,W 0 m σ H) /\ ∀ i m σ H,W i m σ H ->
 ((Ite x).stop i H /\ D.nx σ H) \/ ((Ite x).go i H /\ ∃ N:St -> Hp -> Prop,(∀ σ' H',N σ' H' -> ∃ m',m' < m /\ W (i + 1) m' σ' H') /\ ∀ v H',(Ite x).yld i H v H' -> g v σ H' fun σ2 H2=>tb { D with nx:=N,ct:=N,bk:=D.nx } σ2 H2)
theorem KJ {ta:TA} {g:TG} {tb:TS} {D:xW} {σ:St} {H:Hp}:Xa (J6 ta) g tb D σ H = ta σ H fun vs H1=>∃ x,vs = [.str x] /\ K7 x g tb D σ H1:=rfl
theorem WA {α:Type} (l:List α) {k:Int} (h:0 <= k):cut l none (some k) = l.take k.toNat:=by
 obtain ⟨n,rfl⟩:=Int.eq_ofNat_of_zero_le h;unfold cut;rw [HT.sIx_none,HT.sIx_nat,List.drop_zero,Nat.sub_zero];by_cases q:n <= l.length
 ·rw [Nat.min_eq_left q]; rfl
 ·rw [Nat.min_eq_right ⋯,List.take_length,List.take_of_length_le (by simp; lia)]
theorem jR {α:Type} (l:List α) {k:Int} (h:0 <= k):cut l (some k) none = l.drop k.toNat:=by
 obtain ⟨n,rfl⟩:=Int.eq_ofNat_of_zero_le h;unfold cut;rw [HT.sIx_none,HT.sIx_nat];by_cases q:n <= l.length
 ·rw [Nat.min_eq_left q];rw [List.take_of_length_le (by rw [List.length_drop] <;> lia)];rfl
 ·rw [Nat.min_eq_right ⋯,List.drop_length,List.drop_of_length_le (by simp; lia)];simp
theorem vI {α:Type} {xs:List α} {i:Int} (h0:0 <= i) (h1:i < xs.length):∃ v,atI xs i = some v /\ xs[i.toNat]? = some v:=by
 obtain ⟨n,rfl⟩:=Int.eq_ofNat_of_zero_le h0;have hn:n < xs.length:=⋯;exact #[xs[n],Zi (List.getElem?_eq_getElem hn),List.getElem?_eq_getElem hn]
noncomputable def alpha:():=[97,98,99,100,101,102,103,104,105,106,107,108,109,110,111,112,113,114,115,116,117,118,119,120,121,122]
theorem YY:(("abcdefghijklmnopqrstuvwxyz" : Str)) = tx alpha:=by symm
theorem yt:(sizeLine:Nat) = 16777216:=sizeLine_eq
theorem cxK {CX P w K mg base N q sc f cd A o s H E}:(wA CX P w K mg base N q sc f cd A o s H E).K = K:=rfl
theorem cxP {CX P w K mg base N q sc f cd A o s H E}:(wA CX P w K mg base N q sc f cd A o s H E).prog = P:=rfl
theorem cxW {CX P w K mg base N q sc f cd A o s H E}:(wA CX P w K mg base N q sc f cd A o s H E).w = w:=rfl
theorem Qt {a b:Int}:We (.int a) (.int b) = true:=rfl
theorem Qh {a b:Str}:We (.str a) (.str b) = true:=rfl
theorem QI {a b:Bool}:We (.bl a) (.bl b) = true:=rfl
theorem Ql {b:Str}:We .non (.str b) = true:=rfl
theorem QY {b:Str}:We (.str b) .non = true:=rfl
theorem zg {H:Hp} {p:Addr} {o:HO} (h:H p = none):Same H (upd H p o):=fun b u e=>by
 rw [zk (zv e h)];exact e
theorem zR {α:Type} {l:List α} {i:Nat} {c:α} (h:l[i]? = some c):l.take (i + 1) = l.take i ++ [c]:=by
 rw [List.take_add_one,h]; rfl
end L3
namespace L3
open PySem PySem.Spec PyProof.Rows L2
structure FunD (K:PySem.W.Frag) (x qual:Str) (st:Stmt) (dV:Value) (f:Addr) (fd:FuncData):Prop where
 ex:∃ (oc:Value) (od:Option Addr) (kV doc pm:Value) (an:Option Addr) (cdv ct:Value) (osl:Array (Option Value)),
  fd = PySem.W.fnOf x qual (yh st) (zO st) (ze st) dV kV doc pm an cdv ct /\ K.lookup f = some #[oc,od,.func fd,osl] /\ PySem.W.codeIn K cdv qual = true
theorem FunD.okX {P:Program} {w:World} {K:PySem.W.Frag} {mg:Str -> Option Value} {base:Heap} {x qual:Str} {st:Stmt} {dV:Value} {f:Addr} {fd:FuncData} {N ps:List Str} {k:Nat} {sp:Sp} (F:FunD K x qual st dV f fd) (S:zn N ps (ze st)) (len:∀ vs H Q E,sp vs H Q E -> vs.length = ps.length)
  (hbody:∀ (cdv:Value) (A:Around) (outer:List Env) (s:Shared) (H:Hp) (vs:List V) (Q:VK) (E:XK),Room k (A.deeper (envOfC qual (ze st) s⁻¹ f cdv)) -> XE (wA (CXx P w) P w K mg base N qual (ze st) f cdv A outer s H E) E -> sp vs H Q E ->
   ∃ t,PSs (wA (CXx P w) P w K mg base N qual (ze st) f cdv A outer s H E) (zO st) t /\ t { nx:=fun _ H'=>Q .non H',rt:=Q } (start N vs) H):FnOk P w K mg base (CXx P w) (k + 1) f fd ps sp:=by
 obtain ⟨oc,od,kV,doc,pm,an,cdv,ct,osl,rfl,lk,hcd⟩:=F.ex;exact Wg lk hcd S len fun A outer s H vs Q E hr hsp=>hbody cdv A outer s H vs Q E hr U3 hsp
def vX (C:Addr) (f:Str):Sp:=fun vs H Q _=>∃ x v,vs = [.ref x,v] /\ H x = some (XN x C none) /\ ∀ dx,H dx = none -> Q .non (upd (upd H dx (.xd [(f,v)])) x (XN x C (some dx)))
def KC (H:Hp) (d:Addr) (f:Str) (v:V) (H':Hp):Prop:=H d = none /\ Same H H' /\ H' d = some (.xd [(f,v)])
theorem Vp {E:XK} {C:Addr} {f:Str} {v:V} {H:Hp} (h:∀ d H',KC H d f v H' -> E (.ref C) (some d) H'):∀ x,H x = none -> vX C f [.ref x,v] (upd H x (XN x C none)) (fun u H2=>u = .non /\ ∃ dx,H2 x = some (XN x C dx) /\ E (.ref C) dx (del H2 x)) E0:=by
 intro x hx;refine #[x,v,rfl,zb,fun dx hd=>#[rfl,some dx,zb,h dx _ #[?_,?_,?_]]]
 ·by_cases e:dx = x
  ·rw [e]; exact hx
  ·rw [zk e]at hd; exact hd
 ·have hne:dx ≠ x:=fun e=>by rw [e,zb]at hd; cases hd
  rw [zk hne]at hd;intro b o q;have b1:b ≠ x:=zv q hx;have b2:b ≠ dx:=zv q hd;rw [YV b1,zk b1,zk b2,zk b1];exact q
 ·have hne:dx ≠ x:=fun e=>by rw [e,zb]at hd; cases hd
  rw [YV hne,zk hne,zb]
section
variable {X:Cx}
def zak:R2:=fun x y H Q=>match y with | .non=>Q (.bl (decide (x = .non))) H | _=>False
def QO:R2:=fun x y H Q=>match y with | .non=>Q (.bl (!decide (x = .non))) H | _=>False
theorem op_notN':OpR X (compareOp .IsNot) QO:=fun pins s σ H x y v u Q I rx ry h=>by
 cases y with
 | non=>exact Vt pins s σ H x .non v u Q I rx ry #[rfl,h]
 | _=>exact h.elim
def Uc:List V -> Hp -> VK -> Prop:=fun xs H Q=>match xs with | [.int i,.int j]=>Q (.int (if j > i then j else i)) H | _=>False
theorem Ve (hc:X.calm = true):wX X (.builtin "max") Uc:=fun pins s σ H xs us Q I r h=>by
 unfold Uc at h;split at h
 ·exact Yz hc pins s σ H _ us Q I r #[_,_,rfl,h]
 ·exact h.elim
def rGe:R2:=fun x y H Q=>onInt x fun i=>onInt y fun j=>Q (.bl (decide (j <= i))) H
theorem op_ge':OpR X (compareOp .GtE) rGe:=Jz
end
theorem uH:bootBuiltins "max" = some (.builtin "max"):=by symm
def Vk (ls l:()) (m:Int) (k:Nat):Prop:=∃ c,l[k]? = some c /\ (m <= k \/ c ∉ ls)
def FB (ls l:()) (m:Int) (k:Nat):Prop:=Vk ls l m k /\ ∀ j < k,¬ Vk ls l m j
def NB (ls l:()) (m:Int):Prop:=∀ j,¬ Vk ls l m j
theorem FB.nb {ls l:()} {m:Int} {k:Nat} (h:FB ls l m k) (n:NB ls l m):False:=n k h.1
end L3
namespace L3
open PySem PySem.Spec PyProof.Rows L2
inductive D where
 | non | bl (b:Bool) | int (i:Int) | str (x:Str) | lst (l:List D) | tup (l:List D)
mutual
def Is (K:PySem.W.Frag) (H:Hp):D -> V -> Prop
 | .non,v=>v = .non
 | .bl b,v=>v = .bl b
 | .int i,v=>v = .int i
 | .str x,v=>v = .str x
 | .lst l,v=>∃ a xs,v = .ref a /\ SqL K H a xs /\ Iss K H l xs
 | .tup l,v=>∃ a xs,v = .ref a /\ SqT K H a xs /\ Iss K H l xs
def Iss (K:PySem.W.Frag) (H:Hp):List D -> List V -> Prop
 | [],vs=>vs = []
 | d :: l,vs=>∃ v r,vs = v :: r /\ Is K H d v /\ Iss K H l r
end
mutual
noncomputable def eqD:D -> D -> Bool
 | .non,.non=>true
 | .bl a,.bl b=>a == b
 | .bl a,.int b=>(if a then 1 else 0) == b
 | .int a,.bl b=>a ==(if b then 1 else 0)
 | .int a,.int b=>a == b
 | .str a,.str b=>a == b
 | .lst l,.lst m=>xJ l m
 | .tup l,.tup m=>xJ l m
 | _,_=>false
noncomputable def xJ:List D -> List D -> Bool
 | [],[]=>true
 | d :: l,e :: m=>eqD d e && xJ l m
 | _,_=>false
end
mutual
noncomputable def dpD:D -> Nat
 | .lst l=>xv l + 1
 | .tup l=>xv l + 1
 | _=>0
noncomputable def xv:List D -> Nat
 | []=>0
 | d :: l=>max (dpD d) (xv l)
end
theorem VJ:∀ {l:List D} {j:Nat} {d:D},l[j]? = some d -> dpD d <= xv l
 | d :: l,0,_,h=>by
  cases h;simp only [xv];lia
 | d :: l,j + 1,e,h=>by
  have:=VJ (l:=l) (j:=j) (d:=e) h;simp only [xv];lia
mutual
theorem uM:∀ d:D,eqD d d = true
 | .non=>rfl
 | .bl b=>by simp [eqD]
 | .int i=>by simp [eqD]
 | .str x=>by simp [eqD]
 | .lst l=>by simp only [eqD]; exact yF l
 | .tup l=>by simp only [eqD]; exact yF l
theorem yF:∀ l:List D,xJ l l = true
 | []=>rfl
 | d :: l=>by simp only [xJ,uM d,yF l,Bool.and_self]
end
theorem Iss.len {K:PySem.W.Frag} {H:Hp}:∀ {l:List D} {vs:List V},Iss K H l vs -> vs.length = l.length
 | [],vs,h=>by simp only [Iss]at h; rw [h]; rfl
 | d :: l,vs,h=>by
  simp only [Iss]at h;obtain ⟨v,r,rfl,_,h2⟩:=h;simp only [List.length_cons,Iss.len h2]
theorem Iss.at {K:PySem.W.Frag} {H:Hp}:∀ {l:List D} {vs:List V} {j:Nat} {d:D},Iss K H l vs -> l[j]? = some d -> ∃ v,vs[j]? = some v /\ Is K H d v
 | d :: l,vs,0,_,h,q=>by
  cases q;simp only [Iss]at h;obtain ⟨v,r,rfl,h1,_⟩:=h;exact #[v,rfl,h1]
 | d :: l,vs,j + 1,e,h,q=>by
  simp only [Iss]at h;obtain ⟨v,r,rfl,_,h2⟩:=h;exact Iss.at (j:=j) h2 q
theorem Iss.append {K:PySem.W.Frag} {H:Hp}:∀ {l m:List D} {vs us:List V},Iss K H l vs -> Iss K H m us -> Iss K H (l ++ m) (vs ++ us)
 | [],m,vs,us,h,g=>by simp only [Iss]at h; rw [h]; exact g
 | d :: l,m,vs,us,h,g=>by
  simp only [Iss]at h;obtain ⟨v,r,rfl,h1,h2⟩:=h;simp only [List.cons_append,Iss];exact #[v,r ++ us,rfl,h1,Iss.append h2 g]
theorem Iss.ints {K:PySem.W.Frag} {H:Hp}:∀ (l:List Int),Iss K H (l.map D.int) (l.map V.int)
 | []=>by simp only [List.map_nil,Iss]
 | i :: l=>by
  simp only [List.map_cons,Iss,Is];exact #[_,_,rfl,rfl,Iss.ints l]
theorem zm {K:PySem.W.Frag} {H H':Hp} {a:Addr} {xs:List V} (e:Same H H') (h:SqT K H a xs):SqT K H' a xs:=by
 rcases h with (h | ⟨o,h⟩) | h
 ·exact .inl (.inl (e _ _ h))
 ·exact .inl (.inr #[o,e _ _ h])
 ·exact .inr h
mutual
theorem Is.same {K:PySem.W.Frag} {H H':Hp} (e:Same H H'):∀ (d:D) (v:V),Is K H d v -> Is K H' d v
 | .non,v,h=>by simp only [Is]at h ⊢; exact h
 | .bl b,v,h=>by simp only [Is]at h ⊢; exact h
 | .int b,v,h=>by simp only [Is]at h ⊢; exact h
 | .str b,v,h=>by simp only [Is]at h ⊢; exact h
 | .lst l,v,h=>by
  simp only [Is]at h ⊢;obtain ⟨a,xs,e1,e2,e3⟩:=h;exact #[a,xs,e1,e.seq e2,Iss.same e l xs e3]
 | .tup l,v,h=>by
  simp only [Is]at h ⊢;obtain ⟨a,xs,e1,e2,e3⟩:=h;exact #[a,xs,e1,zm e e2,Iss.same e l xs e3]
theorem Iss.same {K:PySem.W.Frag} {H H':Hp} (e:Same H H'):∀ (l:List D) (vs:List V),Iss K H l vs -> Iss K H' l vs
 | [],vs,h=>by simp only [Iss]at h ⊢; exact h
 | d :: l,vs,h=>by
  simp only [Iss]at h ⊢;obtain ⟨v,r,e1,e2,e3⟩:=h;exact #[v,r,e1,Is.same e d v e2,Iss.same e l r e3]
end
theorem yC:∀ (l m:List D),xJ l m =((List.range (min l.length m.length)).all (fun j=>eqD (l.getD j .non) (m.getD j .non)) && l.length == m.length)
 | [],[]=>rfl
 | [],e :: m=>by simp [xJ]
 | d :: l,[]=>by simp [xJ]
 | d :: l,e :: m=>by
  simp only [xJ,yC l m,List.length_cons];have h1:min (l.length + 1) (m.length + 1) = min l.length m.length + 1:=⋯;rw [h1,List.range_succ_eq_map,List.all_cons,List.all_map]
  have h2:(l.length + 1 == m.length + 1) =(l.length == m.length):=by
   rw [Bool.eq_iff_iff,beq_iff_eq,beq_iff_eq]; lia
  rw [h2];simp only [List.getD_cons_zero,Bool.and_assoc];rfl
section
variable {X:Cx} {pins:List (Addr × Obj)} {σ:St} {H:Hp} {s:Shared}
theorem qc {a:Addr} {xs ys:List V} (I:Inv X pins σ H s) (h:SqL X.K H a xs) (g:SqT X.K H a ys):False:=by
 obtain ⟨its,r,⟨o,n,e,c,_,d⟩,_⟩:=I.list h;obtain ⟨its',r',⟨o',e',c',n',d'⟩,_⟩:=I.tuple g;rw [e]at e';cases e';rw [c]at c';exact absurd (Value.type.inj c') ∅
mutual
theorem Yu (I:Inv X pins σ H s):∀ (d e:D) (v:V),Is X.K H d v -> Is X.K H e v -> d = e
 | .lst l,.lst m,v,h,g=>by
  simp only [Is]at h g;obtain ⟨a,xs,rfl,h1,h2⟩:=h;obtain ⟨b,ys,e,g1,g2⟩:=g;cases e;have:=I.list_inj h1 g1;subst this;rw [jv I l m xs h2 g2]
 | .tup l,.tup m,v,h,g=>by
  simp only [Is]at h g;obtain ⟨a,xs,rfl,h1,h2⟩:=h;obtain ⟨b,ys,e,g1,g2⟩:=g;cases e;have:=I.tuple_inj h1 g1;subst this;rw [jv I l m xs h2 g2]
 | .lst l,.tup m,v,h,g=>by
  simp only [Is]at h g;obtain ⟨a,xs,rfl,h1,h2⟩:=h;obtain ⟨b,ys,e,g1,g2⟩:=g;cases e;exact (qc I h1 g1).elim
 | .tup l,.lst m,v,h,g=>by
  simp only [Is]at h g;obtain ⟨a,xs,rfl,h1,h2⟩:=h;obtain ⟨b,ys,e,g1,g2⟩:=g;cases e;exact (qc I g1 h1).elim
 | .lst l,.non,v,h,g=>by simp only [Is]at h g; obtain ⟨a,xs,rfl,_⟩:=h; cases g
 | .lst l,.bl _,v,h,g=>by simp only [Is]at h g; obtain ⟨a,xs,rfl,_⟩:=h; cases g
 | .lst l,.int _,v,h,g=>by simp only [Is]at h g; obtain ⟨a,xs,rfl,_⟩:=h; cases g
 | .lst l,.str _,v,h,g=>by simp only [Is]at h g; obtain ⟨a,xs,rfl,_⟩:=h; cases g
 | .tup l,.non,v,h,g=>by simp only [Is]at h g; obtain ⟨a,xs,rfl,_⟩:=h; cases g
 | .tup l,.bl _,v,h,g=>by simp only [Is]at h g; obtain ⟨a,xs,rfl,_⟩:=h; cases g
 | .tup l,.int _,v,h,g=>by simp only [Is]at h g; obtain ⟨a,xs,rfl,_⟩:=h; cases g
 | .tup l,.str _,v,h,g=>by simp only [Is]at h g; obtain ⟨a,xs,rfl,_⟩:=h; cases g
 | .non,e,v,h,g=>by
  simp only [Is]at h;subst h;cases e <;> simp only [Is]at g
  all_goals first | rfl | (obtain ⟨a,xs,q,_⟩:=g; cases q) | cases g
 | .bl _,e,v,h,g=>by
  simp only [Is]at h;subst h;cases e <;> simp only [Is]at g
  all_goals first | (cases g; rfl) | (obtain ⟨a,xs,q,_⟩:=g; cases q) | cases g
 | .int _,e,v,h,g=>by
  simp only [Is]at h;subst h;cases e <;> simp only [Is]at g
  all_goals first | (cases g; rfl) | (obtain ⟨a,xs,q,_⟩:=g; cases q) | cases g
 | .str _,e,v,h,g=>by
  simp only [Is]at h;subst h;cases e <;> simp only [Is]at g
  all_goals first | (cases g; rfl) | (obtain ⟨a,xs,q,_⟩:=g; cases q) | cases g
theorem jv (I:Inv X pins σ H s):∀ (l m:List D) (vs:List V),Iss X.K H l vs -> Iss X.K H m vs -> l = m
 | [],[],_,_,_=>rfl
 | [],e :: m,vs,h,g=>by
  simp only [Iss]at h g;subst h;obtain ⟨_,_,q,_⟩:=g;cases q
 | d :: l,[],vs,h,g=>by
  simp only [Iss]at h g;subst g;obtain ⟨_,_,q,_⟩:=h;cases q
 | d :: l,e :: m,vs,h,g=>by
  simp only [Iss]at h g;obtain ⟨v,r,rfl,h1,h2⟩:=h;obtain ⟨v',r',q,g1,g2⟩:=g;cases q;rw [Yu I d e v h1 g1,jv I l m r h2 g2]
end
theorem z6:∀ {xs:List V} {us:List Value} {j:Nat} {x:V},Vals xs us -> xs[j]? = some x -> ∃ u,us[j]? = some u /\ RelV x u
 | _,_,0,_,.cons r t,h=>by cases h; exact #[_,rfl,r]
 | _,_,j + 1,_,.cons r t,h=>z6 (j:=j) t h
theorem yk {l m:List D} {xs ys:List V} {its its':List Value} {A:Around} {n:Nat} (hl:Iss X.K H l xs) (hm:Iss X.K H m ys) (r:Vals xs its) (r':Vals ys its') (hn:xv l < n)
  (ih:∀ (d e:D) (x y:V) (u v:Value),dpD d < n -> Is X.K H d x -> Is X.K H e y -> RelV x u -> RelV y v -> SeqAt.EqAt A s u v (eqD d e)) :
  ∀ j (h1:j < its.toArray.size) (h2:j < its'.toArray.size),SeqAt.EqAt A s its.toArray[j] its'.toArray[j] (eqD (l.getD j .non) (m.getD j .non)):=by
 intro j h1 h2;rw [List.size_toArray]at h1 h2;have e1:=hl.len;have e2:=hm.len;have e3:=r.length;have e4:=r'.length;have g1:l[j]? = some l[j]:=List.getElem?_eq_getElem ⋯;have g2:m[j]? = some m[j]:=List.getElem?_eq_getElem ⋯;generalize l[j] = d at g1;generalize m[j] = e at g2;obtain ⟨x,hx,ix⟩:=hl.at g1;obtain ⟨y,hy,iy⟩:=hm.at g2;obtain ⟨u,hu,ru⟩:=z6 r hx;obtain ⟨v,hv,rv⟩:=z6 r' hy
 have q1:its.toArray[j] = u:=by
  have:=(ae.mp hu).2;simpa using this
 have q2:its'.toArray[j] = v:=by
  have:=(ae.mp hv).2;simpa using this
 rw [q1,q2,List.getD_eq_getElem?_getD,List.getD_eq_getElem?_getD,g1,g2];exact ih d e x y u v (Nat.lt_of_le_of_lt (VJ g1) hn) ix iy ru rv
theorem wm (I:Inv X pins σ H s):∀ (n:Nat) (A:Around) (d e:D) (x y:V) (u v:Value),A.units + n < cLine -> dpD d < n -> Is X.K H d x -> Is X.K H e y -> RelV x u -> RelV y v -> SeqAt.EqAt A s u v (eqD d e):=by
 intro n
 induction n with
 | zero=>intro A d e x y u v _ h; exact absurd h (Nat.not_lt_zero _)
 | succ n ih =>
  intro A d e x y u v hu hd hx hy rx ry;have hu1:A.units < cLine:=⋯;have huA:A.in1.units + n < cLine:=by show A.units + 1 + n < cLine; lia
  cases d with
  | lst l =>
   simp only [Is]at hx;obtain ⟨a,xs,rfl,h1,h2⟩:=hx;cases rx;obtain ⟨its,r,p,_⟩:=I.list h1
   cases e with
   | non=>simp only [Is]at hy; subst hy; cases ry; exact SeqAt.EqAt.list_none p.isList hu1
   | bl b=>simp only [Is]at hy; subst hy; cases ry; exact SeqAt.EqAt.list_bool b p.isList hu1
   | int b=>simp only [Is]at hy; subst hy; obtain ⟨t,rfl⟩:=ry; exact SeqAt.EqAt.list_int b t p.isList hu1
   | str b=>simp only [Is]at hy; subst hy; obtain ⟨t,rfl⟩:=ry; exact SeqAt.EqAt.list_str b t p.isList hu1
   | tup m =>
    simp only [Is]at hy;obtain ⟨b,ys,rfl,g1,g2⟩:=hy;cases ry;obtain ⟨its',r',p',_⟩:=I.tuple g1;exact SeqAt.EqAt.list_tuple p.isList p' hu1
   | lst m =>
    have hy':=hy;simp only [Is]at hy;obtain ⟨b,ys,rfl,g1,g2⟩:=hy;cases ry;obtain ⟨its',r',p',_⟩:=I.list g1;simp only [dpD]at hd;by_cases hab:a = b
    ·subst hab;have:=Yu I (.lst l) (.lst m) (.ref a) (by simp only [Is]; exact #[a,xs,rfl,h1,h2]) hy';rw [this,uM];exact SeqAt.EqAt.same _
    ·refine .of_refs hab ?_;simp only [eqD];have L1:=h2.len;have L2:=g2.len;have L3:=r.length;have L4:=r'.length;by_cases hl:l.length = m.length
     ·have:=SeqAt.RcAt.lists (A:=A) p.isList p'.isList (by simp only [List.size_toArray]; lia) hu1 (yk h2 g2 r r' (n:=n) ⋯ fun d e x y u v q1 q2 q3 q4 q5=>ih A.in1 d e x y u v huA q1 q2 q3 q4 q5);rw [yC,hl,Nat.min_self,beq_self_eq_true,Bool.and_true];have e1:its.toArray.size = m.length:=by simp only [List.size_toArray]; lia
      rw [e1]at this;exact this
     ·rw [yC,beq_eq_false_iff_ne.mpr hl,Bool.and_false];exact SeqAt.RcAt.lists_lengths p.isList p'.isList (by rw [bne_iff_ne]; simp only [List.size_toArray]; lia) hu1
  | tup l =>
   simp only [Is]at hx;obtain ⟨a,xs,rfl,h1,h2⟩:=hx;cases rx;obtain ⟨its,r,p,_⟩:=I.tuple h1
   cases e with
   | non=>simp only [Is]at hy; subst hy; cases ry; exact SeqAt.EqAt.tuple_none p hu1
   | bl b=>simp only [Is]at hy; subst hy; cases ry; exact SeqAt.EqAt.tuple_bool b p hu1
   | int b=>simp only [Is]at hy; subst hy; obtain ⟨t,rfl⟩:=ry; exact SeqAt.EqAt.tuple_int b t p hu1
   | str b=>simp only [Is]at hy; subst hy; obtain ⟨t,rfl⟩:=ry; exact SeqAt.EqAt.tuple_str b t p hu1
   | lst m =>
    simp only [Is]at hy;obtain ⟨b,ys,rfl,g1,g2⟩:=hy;cases ry;obtain ⟨its',r',p',_⟩:=I.list g1;exact SeqAt.EqAt.tuple_list p p'.isList hu1
   | tup m =>
    have hy':=hy;simp only [Is]at hy;obtain ⟨b,ys,rfl,g1,g2⟩:=hy;cases ry;obtain ⟨its',r',p',_⟩:=I.tuple g1;simp only [dpD]at hd;by_cases hab:a = b
    ·subst hab;have:=Yu I (.tup l) (.tup m) (.ref a) (by simp only [Is]; exact #[a,xs,rfl,h1,h2]) hy';rw [this,uM];exact SeqAt.EqAt.same _
    ·refine .of_refs hab ?_;simp only [eqD];have L1:=h2.len;have L2:=g2.len;have L3:=r.length;have L4:=r'.length;have:=SeqAt.RcAt.tuples (A:=A) p p' hu1 (yk h2 g2 r r' (n:=n) ⋯ fun d e x y u v q1 q2 q3 q4 q5=>ih A.in1 d e x y u v huA q1 q2 q3 q4 q5);rw [yC];simp only [List.size_toArray]at this;rw [<- L1,<- L2,L3,L4];exact this
  | non =>
   simp only [Is]at hx;subst hx
   cases e with
   | lst m =>
    simp only [Is]at hy;obtain ⟨b,ys,rfl,g1,g2⟩:=hy;cases rx; cases ry;obtain ⟨its',r',p',_⟩:=I.list g1;exact SeqAt.EqAt.none_list p'.isList hu1
   | tup m =>
    simp only [Is]at hy;obtain ⟨b,ys,rfl,g1,g2⟩:=hy;cases rx; cases ry;obtain ⟨its',r',p',_⟩:=I.tuple g1;exact SeqAt.EqAt.none_tuple p' hu1
   | _=>simp only [Is]at hy; subst hy; exact jG rx ry rfl rfl
  | bl c =>
   simp only [Is]at hx;subst hx
   cases e with
   | lst m =>
    simp only [Is]at hy;obtain ⟨b,ys,rfl,g1,g2⟩:=hy;cases rx; cases ry;obtain ⟨its',r',p',_⟩:=I.list g1;exact SeqAt.EqAt.bool_list _ p'.isList hu1
   | tup m =>
    simp only [Is]at hy;obtain ⟨b,ys,rfl,g1,g2⟩:=hy;cases rx; cases ry;obtain ⟨its',r',p',_⟩:=I.tuple g1;exact SeqAt.EqAt.bool_tuple _ p' hu1
   | _=>simp only [Is]at hy; subst hy; exact jG rx ry rfl rfl
  | int c =>
   simp only [Is]at hx;subst hx
   cases e with
   | lst m =>
    simp only [Is]at hy;obtain ⟨b,ys,rfl,g1,g2⟩:=hy;obtain ⟨t,rfl⟩:=rx; cases ry;obtain ⟨its',r',p',_⟩:=I.list g1;exact SeqAt.EqAt.int_list _ _ p'.isList hu1
   | tup m =>
    simp only [Is]at hy;obtain ⟨b,ys,rfl,g1,g2⟩:=hy;obtain ⟨t,rfl⟩:=rx; cases ry;obtain ⟨its',r',p',_⟩:=I.tuple g1;exact SeqAt.EqAt.int_tuple _ _ p' hu1
   | _=>simp only [Is]at hy; subst hy; exact jG rx ry rfl rfl
  | str c =>
   simp only [Is]at hx;subst hx
   cases e with
   | lst m =>
    simp only [Is]at hy;obtain ⟨b,ys,rfl,g1,g2⟩:=hy;obtain ⟨t,rfl⟩:=rx; cases ry;obtain ⟨its',r',p',_⟩:=I.list g1;exact SeqAt.EqAt.str_list _ _ p'.isList hu1
   | tup m =>
    simp only [Is]at hy;obtain ⟨b,ys,rfl,g1,g2⟩:=hy;obtain ⟨t,rfl⟩:=rx; cases ry;obtain ⟨its',r',p',_⟩:=I.tuple g1;exact SeqAt.EqAt.str_tuple _ _ p' hu1
   | _=>simp only [Is]at hy; subst hy; exact jG rx ry rfl rfl
def KD (K:PySem.W.Frag):R2:=fun x y H Q=>∃ l m,((Is K H (.lst l) x /\ Is K H (.lst m) y) \/ (Is K H (.tup l) x /\ Is K H (.tup m) y)) /\ xv l < 50 /\ Q (.bl (xJ l m)) H
def KL (K:PySem.W.Frag):R2:=fun x y H Q=>∃ l m,((Is K H (.lst l) x /\ Is K H (.lst m) y) \/ (Is K H (.tup l) x /\ Is K H (.tup m) y)) /\ xv l < 50 /\ Q (.bl (!xJ l m)) H
theorem W5 (hu:X.A.units + 100 < cLine):OpR X (compareOp .Eq) (KD X.K):=by
 intro pins s σ H x y v u Q I rx ry h;obtain ⟨l,m,hh,hd,q⟩:=h;have hu1:X.A.units < cLine:=⋯;have huA:X.A.in1.units + 50 < cLine:=by show X.A.units + 1 + 50 < cLine; lia
 rcases hh with ⟨hx,hy⟩ | ⟨hx,hy⟩
 ·simp only [Is]at hx hy;obtain ⟨a,xs,rfl,h1,h2⟩:=hx;obtain ⟨b,ys,rfl,g1,g2⟩:=hy;cases rx; cases ry;obtain ⟨its,r,p,_⟩:=I.list h1;obtain ⟨its',r',p',_⟩:=I.list g1;have L1:=h2.len;have L2:=g2.len;have L3:=r.length;have L4:=r'.length;by_cases hl:l.length = m.length
  ·have:=SeqAt.RcAt.lists (A:=X.A) p.isList p'.isList (by simp only [List.size_toArray]; lia) hu1 (yk h2 g2 r r' (n:=50) hd fun d e x y u v q1 q2 q3 q4 q5=>wm I 50 X.A.in1 d e x y u v huA q1 q2 q3 q4 q5);have e1:its.toArray.size = m.length:=by simp only [List.size_toArray]; lia
   rw [e1]at this;rw [yC,hl,Nat.min_self,beq_self_eq_true,Bool.and_true]at q;exact this X.prog X.w X.xe _ #[.bl _,H,I,rfl,q]
  ·rw [yC,beq_eq_false_iff_ne.mpr hl,Bool.and_false]at q;exact SeqAt.RcAt.lists_lengths p.isList p'.isList (by rw [bne_iff_ne]; simp only [List.size_toArray]; lia) hu1 X.prog X.w X.xe _ #[.bl _,H,I,rfl,q]
 ·simp only [Is]at hx hy;obtain ⟨a,xs,rfl,h1,h2⟩:=hx;obtain ⟨b,ys,rfl,g1,g2⟩:=hy;cases rx; cases ry;obtain ⟨its,r,p,_⟩:=I.tuple h1;obtain ⟨its',r',p',_⟩:=I.tuple g1;have L1:=h2.len;have L2:=g2.len;have L3:=r.length;have L4:=r'.length;have:=SeqAt.RcAt.tuples (A:=X.A) p p' hu1 (yk h2 g2 r r' (n:=50) hd fun d e x y u v q1 q2 q3 q4 q5=>wm I 50 X.A.in1 d e x y u v huA q1 q2 q3 q4 q5);simp only [List.size_toArray]at this;rw [yC,<- L1,<- L2,L3,L4]at q;exact this X.prog X.w X.xe _ #[.bl _,H,I,rfl,q]
theorem Wu (hu:X.A.units + 100 < cLine):OpR X (compareOp .NotEq) (KL X.K):=by
 intro pins s σ H x y v u Q I rx ry h;obtain ⟨l,m,hh,hd,q⟩:=h;have hu1:X.A.units < cLine:=⋯;have huA:X.A.in1.units + 50 < cLine:=by show X.A.units + 1 + 50 < cLine; lia
 rcases hh with ⟨hx,hy⟩ | ⟨hx,hy⟩
 ·simp only [Is]at hx hy;obtain ⟨a,xs,rfl,h1,h2⟩:=hx;obtain ⟨b,ys,rfl,g1,g2⟩:=hy;cases rx; cases ry;obtain ⟨its,r,p,_⟩:=I.list h1;obtain ⟨its',r',p',_⟩:=I.list g1;have L1:=h2.len;have L2:=g2.len;have L3:=r.length;have L4:=r'.length;by_cases hl:l.length = m.length
  ·have:=SeqAt.RcNeAt.lists (A:=X.A) p.isList p'.isList (by simp only [List.size_toArray]; lia) hu1 (yk h2 g2 r r' (n:=50) hd fun d e x y u v q1 q2 q3 q4 q5=>wm I 50 X.A.in1 d e x y u v huA q1 q2 q3 q4 q5);have e1:its.toArray.size = m.length:=by simp only [List.size_toArray]; lia
   rw [e1]at this;rw [yC,hl,Nat.min_self,beq_self_eq_true,Bool.and_true]at q;exact this X.prog X.w X.xe _ #[.bl _,H,I,rfl,q]
  ·rw [yC,beq_eq_false_iff_ne.mpr hl,Bool.and_false]at q;exact SeqAt.RcNeAt.lists_lengths p.isList p'.isList (by rw [bne_iff_ne]; simp only [List.size_toArray]; lia) hu1 X.prog X.w X.xe _ #[.bl _,H,I,rfl,q]
 ·simp only [Is]at hx hy;obtain ⟨a,xs,rfl,h1,h2⟩:=hx;obtain ⟨b,ys,rfl,g1,g2⟩:=hy;cases rx; cases ry;obtain ⟨its,r,p,_⟩:=I.tuple h1;obtain ⟨its',r',p',_⟩:=I.tuple g1;have L1:=h2.len;have L2:=g2.len;have L3:=r.length;have L4:=r'.length;have:=SeqAt.RcNeAt.tuples (A:=X.A) p p' hu1 (yk h2 g2 r r' (n:=50) hd fun d e x y u v q1 q2 q3 q4 q5=>wm I 50 X.A.in1 d e x y u v huA q1 q2 q3 q4 q5);simp only [List.size_toArray]at this;rw [yC,<- L1,<- L2,L3,L4]at q;exact this X.prog X.w X.xe _ #[.bl _,H,I,rfl,q]
end
theorem qv (l m:List Int):xJ (l.map D.int) (m.map D.int) = decide (l = m):=by
 induction l generalizing m with
 | nil=>cases m <;> simp [xJ]
 | cons a l ih =>
  cases m with
  | nil=>simp [xJ]
  | cons b m =>
   simp only [List.map_cons,xJ,eqD,ih m];by_cases h1:a = b
   ·subst h1;by_cases h2:l = m
    ·simp [h2]
    ·simp [h2]
   ·simp [h1]
theorem vM (l:List Int):xv (l.map D.int) = 0:=by
 induction l with
 | nil=>rfl
 | cons a l ih=>simp only [List.map_cons,xv,dpD,ih]; rfl
abbrev CNx (n i:Nat) (Pv:Nat -> List V -> Hp -> Prop) (acc:List V) (H:Hp):Prop:=∃ m',m' < n - i /\ (m' = n - (i + 1) /\ i + 1 <= n /\ Pv (i + 1) acc H)
theorem CNx.mk {n i:Nat} {Pv:Nat -> List V -> Hp -> Prop} {acc:List V} {H:Hp} (hi:i < n) (h:Pv (i + 1) acc H):CNx n i Pv acc H:=#[n - (i + 1),⋯,rfl,hi,h]
def YQ (J:It) (g:TG) (tt:TT) (te:TE) (own:Nat) (ix:()) (σ:St) (H1:Hp) (Q:VK) (D:Addr):Prop:=∃ W:Nat -> Nat -> List V -> Hp -> Prop,(∃ m,W 0 m [] (upd H1 D (.lst []))) /\
 ∀ i m acc H',W i m acc H' -> (J.stop i H' /\ Q (.ref D) H') \/ (J.go i H' /\ ∀ x H2,J.yld i H' x H2 -> g x (xD σ own ix) H2 fun σ3 H3=>yO (xD σ own ix) σ3 /\ tt σ3 H3 fun b H4=>if b = true then
  te σ3 H4 fun v H5=>H5 D = some (.lst acc) /\ acc.length < sizeLine /\ ∃ m',m' < m /\ W (i + 1) m' (acc ++ [v]) (upd H5 D (.lst (acc ++ [v])))
  else ∃ m',m' < m /\ W (i + 1) m' acc H4)
def CompR (lo:Int) (n:Nat) (g:TG) (tt:TT) (te:TE) (own:Nat) (ix:()) (σ:St) (H1:Hp) (Q:VK) (D:Addr):Prop:=YQ (Itr lo n) g tt te own ix σ H1 Q D
def CompL (K:PySem.W.Frag) (a:Addr) (g:TG) (tt:TT) (te:TE) (own:Nat) (ix:()) (σ:St) (H1:Hp) (Q:VK) (D:Addr):Prop:=YQ (Itl K a) g tt te own ix σ H1 Q D
def CompS (x:Str) (g:TG) (tt:TT) (te:TE) (own:Nat) (ix:()) (σ:St) (H1:Hp) (Q:VK) (D:Addr):Prop:=YQ (Its x) g tt te own ix σ H1 Q D
theorem Vc {ta:TA} {g:TG} {tt:TT} {te:TE} {own:Nat} {ix:()} {σ:St} {H:Hp} {Q:VK}:vn (VU ta) g tt te own ix σ H Q = ta σ H fun vs H1=>∃ j:Int,vs = [.int j] /\ -(2 ^ 62) <= j /\ j < 2 ^ 62 /\ ∀ D,H1 D = none -> CompR 0 j.toNat g tt te own ix σ H1 Q D:=rfl
theorem U0 {K:PySem.W.Frag} {tl:TE} {g:TG} {tt:TT} {te:TE} {own:Nat} {ix:()} {σ:St} {H:Hp} {Q:VK}:vn (UH K tl) g tt te own ix σ H Q = tl σ H fun x H1=>∃ a,x = .ref a /\ (∃ xs,SqL K H1 a xs) /\ ∀ D,H1 D = none -> CompL K a g tt te own ix σ H1 Q D:=rfl
theorem QF {tl:TE} {g:TG} {tt:TT} {te:TE} {own:Nat} {ix:()} {σ:St} {H:Hp} {Q:VK}:vn (Jl tl) g tt te own ix σ H Q = tl σ H fun v H1=>∃ x,v = .str x /\ ∀ D,H1 D = none -> CompS x g tt te own ix σ H1 Q D:=rfl
section
variable {g:TG} {tt:TT} {te:TE} {own:Nat} {ix:()} {σ:St} {H1:Hp} {Q:VK} {D:Addr}
theorem CompR.by {lo:Int} {n:Nat} (Pv:Nat -> List V -> Hp -> Prop) (h0:Pv 0 [] (upd H1 D (.lst [])))
  (hs:∀ i acc H',i < n -> Pv i acc H' -> g (.int (lo + i)) (xD σ own ix) H' fun σ3 H3=>yO (xD σ own ix) σ3 /\ tt σ3 H3 fun b H4=>if b = true then
   te σ3 H4 fun v H5=>H5 D = some (.lst acc) /\ acc.length < sizeLine /\ CNx n i Pv (acc ++ [v]) (upd H5 D (.lst (acc ++ [v])))else CNx n i Pv acc H4)
  (hd:∀ acc H',Pv n acc H' -> Q (.ref D) H'):CompR lo n g tt te own ix σ H1 Q D:=by
 refine #[fun i m acc H=>m = n - i /\ i <= n /\ Pv i acc H,#[n,by simp,Nat.zero_le _,h0],?_];rintro i m acc H' ⟨rfl,hi,p⟩;by_cases hlt:i < n
 ·refine .inr #[hlt,fun x H2 y=>?_];obtain ⟨e,y⟩:=y;subst e y;exact hs i acc _ hlt p
 ·have e:i = n:=⋯;subst e;exact .inl #[Nat.le_refl _,hd acc H' p]
theorem CompL.by {K:PySem.W.Frag} {a:Addr} {xs:List V} (Pv:Nat -> List V -> Hp -> Prop) (h0:Pv 0 [] (upd H1 D (.lst []))) (hl:∀ i acc H',i <= xs.length -> Pv i acc H' -> SqL K H' a xs)
  (hs:∀ i x acc H',xs[i]? = some x -> Pv i acc H' -> g x (xD σ own ix) H' fun σ3 H3=>yO (xD σ own ix) σ3 /\ tt σ3 H3 fun b H4=>if b = true then
   te σ3 H4 fun v H5=>H5 D = some (.lst acc) /\ acc.length < sizeLine /\ CNx xs.length i Pv (acc ++ [v]) (upd H5 D (.lst (acc ++ [v])))else CNx xs.length i Pv acc H4)
  (hd:∀ acc H',Pv xs.length acc H' -> Q (.ref D) H'):CompL K a g tt te own ix σ H1 Q D:=by
 refine #[fun i m acc H=>m = xs.length - i /\ i <= xs.length /\ Pv i acc H,#[xs.length,by simp,Nat.zero_le _,h0],?_];rintro i m acc H' ⟨rfl,hi,p⟩;have q:=hl i acc H' hi p;by_cases hlt:i < xs.length
 ·refine .inr #[#[xs,xs[i],q,by simp [hlt]],fun x H2 y=>?_];obtain ⟨e,y⟩:=y;subst e;exact hs i x acc _ (y xs q) p
 ·have e:i = xs.length:=⋯;subst e;exact .inl #[#[xs,q,Nat.le_refl _],hd acc H' p]
theorem CompS.by {l:()} (Pv:Nat -> List V -> Hp -> Prop) (h0:Pv 0 [] (upd H1 D (.lst [])))
  (hs:∀ i c acc H',l[i]? = some c -> Pv i acc H' -> g (.str (tx [c])) (xD σ own ix) H' fun σ3 H3=>yO (xD σ own ix) σ3 /\ tt σ3 H3 fun b H4=>if b = true then
   te σ3 H4 fun v H5=>H5 D = some (.lst acc) /\ acc.length < sizeLine /\ CNx l.length i Pv (acc ++ [v]) (upd H5 D (.lst (acc ++ [v])))else CNx l.length i Pv acc H4)
  (hd:∀ acc H',Pv l.length acc H' -> Q (.ref D) H'):CompS (tx l) g tt te own ix σ H1 Q D:=by
 refine #[fun i m acc H=>m = l.length - i /\ i <= l.length /\ Pv i acc H,#[l.length,by simp,Nat.zero_le _,h0],?_];rintro i m acc H' ⟨rfl,hi,p⟩;by_cases hlt:i < l.length
 ·refine .inr #[hlt,fun v H2 y=>?_];obtain ⟨e,c,hc,ev⟩:=y;subst e ev;exact hs i c acc _ hc p
 ·have e:i = l.length:=⋯;subst e;exact .inl #[rfl,hd acc H' p]
end
theorem xq {x:V} {r:St}:yO (none :: r) (some x :: r):=#[rfl,fun i v h=>by
 cases i with
 | zero=>cases h
 | succ i=>exact h]
theorem z9 {X:Cx} {scope sc:Scope} {own caps:List Str} {ix:()} (h1:scope.kind = .function) (h2:scope.names.all (fun y=>y.2 != .cell) = true) (h3:scope.names.all (fun y=>y.2 != .local || scope.names.lookup y.1 == some .local) = true)
  (h4:scope.names.all (fun y=>y.2 != .free || sc.names.lookup y.1 == some .cell) = true) (hsc:X.env.scope = sc) (h5:own.all (fun y=>scope.names.lookup y == some .local) = true) (h6:caps.all (fun y=>scope.names.lookup y == some .free) = true) (h7:ix.map (fun i=>X.N[i]?) = caps.map some):xP X scope own caps ix:=by
 refine #[h1,fun y hy=>?_,fun y hy e=>?_,fun y hy=>?_,fun y hy=>?_,fun y hy=>?_,h7]
 ·have:=ah.mp h2 y hy;simpa using this
 ·have:=ah.mp h3 y hy;rw [e]at this;simpa using this
 ·have:=ah.mp h4 _ hy;have:=by simpa using this
  refine .inl ?_;show X.env.scope.names.lookup y = some .cell;rw [hsc];exact this
 ·have:=ah.mp h5 y hy;simpa using this
 ·have:=ah.mp h6 y hy;simpa using this
theorem kZ {X:Cx} {scope sc:Scope} {own caps:List Str} {ix:()} (h1:scope.kind = .function) (h2:scope.names.all (fun y=>y.2 != .cell) = true) (h3:scope.names.all (fun y=>y.2 != .local || scope.names.lookup y.1 == some .local) = true)
  (h4:scope.names.all (fun y=>y.2 != .free || sc.names.lookup y.1 == some .free) = true) (hsc:X.env.scope = sc) (h5:own.all (fun y=>scope.names.lookup y == some .local) = true) (h6:caps.all (fun y=>scope.names.lookup y == some .free) = true) (h7:ix.map (fun i=>X.N[i]?) = caps.map some):xP X scope own caps ix:=by
 refine #[h1,fun y hy=>?_,fun y hy e=>?_,fun y hy=>?_,fun y hy=>?_,fun y hy=>?_,h7]
 ·have:=ah.mp h2 y hy;simpa using this
 ·have:=ah.mp h3 y hy;rw [e]at this;simpa using this
 ·have:=ah.mp h4 _ hy;have:=by simpa using this
  refine .inr ?_;show X.env.scope.names.lookup y = some .free;rw [hsc];exact this
 ·have:=ah.mp h5 y hy;simpa using this
 ·have:=ah.mp h6 y hy;simpa using this
theorem Vs {α:Type} (l:List α) {a b:Int} (h0:0 <= a) (h1:a <= b) (h2:b <= l.length):cut l (some a) (some b) =(l.drop a.toNat).take (b - a).toNat:=by
 obtain ⟨m,rfl⟩:=Int.eq_ofNat_of_zero_le h0;obtain ⟨n,rfl⟩:=Int.eq_ofNat_of_zero_le (by lia:0 <= b);unfold cut;rw [HT.sIx_nat,HT.sIx_nat,Nat.min_eq_left ⋯,Nat.min_eq_left ⋯];have:((n:Int) - (m:Int)).toNat = n - m:=⋯;rw [this];rfl
theorem wF {k:Nat} {A:Around} (r:Room k A):A.units + 100 < cLine:=by have:=r.un; lia
end L3
namespace L3
open PySem PySem.Spec PyProof.Rows L2
theorem k7 {K:PySem.W.Frag} {x y:V} {H:Hp} {Q:VK} {l m:List D} (h:(Is K H (.lst l) x /\ Is K H (.lst m) y) \/ (Is K H (.tup l) x /\ Is K H (.tup m) y)) (hd:xv l < 50) (q:Q (.bl (xJ l m)) H):KD K x y H Q:=#[l,m,h,hd,q]
theorem Ym {K:PySem.W.Frag} {x y:V} {H:Hp} {Q:VK} {l m:List D} (h:(Is K H (.lst l) x /\ Is K H (.lst m) y) \/ (Is K H (.tup l) x /\ Is K H (.tup m) y)) (hd:xv l < 50) (q:Q (.bl (!xJ l m)) H):KL K x y H Q:=#[l,m,h,hd,q]
def Kz (t u:TS):TS:=fun D σ H=>∃ R:St -> Hp -> Prop,t { D with nx:=R } σ H /\ ∀ σ' H',R σ' H' -> u D σ' H'
theorem zj {X:Cx} {st:Stmt} {rest:List Stmt} {t u:TS} (h1:PS X st t) (h2:PSs X rest u):PSs X (st :: rest) (Kz t u):=by
 intro pins s σ H D I h;obtain ⟨R,h,hr⟩:=h;refine wpAny_execs_cons (thn (h1 pins s σ H { D with nx:=R } I h) fun f s1 q=>?_)
 cases f with
 | next =>
  obtain ⟨σ',H',I',q⟩:=q;exact h2 pins s1 σ' H' D I' (hr _ _ q)
 | ret v=>exact q
 | brk=>exact q
 | cont=>exact q
theorem zl {t u:TS} {D:xW} {σ:St} {H:Hp} (R:St -> Hp -> Prop) (h:t { D with nx:=R } σ H) (hr:∀ G:St -> Hp -> Prop,G = u D -> ∀ σ' H',R σ' H' -> G σ' H'):Kz t u D σ H:=#[R,h,hr _ rfl]
theorem nm4 {α β γ δ:Type} {P R:α -> β -> γ -> δ -> Prop} {B:α -> β -> γ -> δ -> Prop} (h:∀ G:α -> β -> γ -> δ -> Prop,G = B -> ∀ a b c d,P a b c d -> R a b c d -> G a b c d):∀ a b c d,P a b c d -> R a b c d -> B a b c d:=h _ rfl
theorem nm3 {α β γ:Type} {P R:α -> β -> γ -> Prop} {B:α -> β -> γ -> Prop} (h:∀ G:α -> β -> γ -> Prop,G = B -> ∀ a b c,P a b c -> R a b c -> G a b c):∀ a b c,P a b c -> R a b c -> B a b c:=h _ rfl
theorem zA {H H':Hp} {a:Addr} {o:HO} (h:Same H H') (e:H a = none):Same H (upd H' a o):=fun b u q=>by
 rw [zk (zv q e)];exact h b u q
theorem ForL.by {K:PySem.W.Frag} {a:Addr} {xs:List V} {g:TG} {tb:TS} {D:xW} {σ:St} {H:Hp} (Pv:Nat -> St -> Hp -> Prop) (h0:Pv 0 σ H) (hl:∀ i σ H,i <= xs.length -> Pv i σ H -> SqL K H a xs)
  (hs:∀ i x σ H,xs[i]? = some x -> Pv i σ H -> g x σ H fun σ2 H2=>tb { D with nx:=Pv (i + 1),ct:=Pv (i + 1),bk:=D.nx } σ2 H2) (hd:∀ σ H,Pv xs.length σ H -> D.nx σ H):ForL K a g tb D σ H:=XM Pv h0 hl hs hd
theorem Y4 {A B:Prop} (h:B):if true = false then A else B:=by rw [if_neg ∅]; exact h
def CompV (K:PySem.W.Frag) (a:Addr) (n:Nat) (g:TG) (tt:TT) (te:TE) (own:Nat) (ix:()) (σ:L2.St) (H1:Hp) (Q:VK) (D:Addr):Prop:=YQ (Irv K a n) g tt te own ix σ H1 Q D
theorem Q7 {K:PySem.W.Frag} {ta:TA} {g:TG} {tt:TT} {te:TE} {own:Nat} {ix:()} {σ:L2.St} {H:Hp} {Q:VK}:vn (KO K ta) g tt te own ix σ H Q = ta σ H fun vs H1=>∃ a xs,vs = [.ref a] /\ SqL K H1 a xs /\ ∀ D,H1 D = none -> CompV K a xs.length g tt te own ix σ H1 Q D:=rfl
theorem CompV.by {K:PySem.W.Frag} {a:Addr} {xs:List V} {g:TG} {tt:TT} {te:TE} {own:Nat} {ix:()} {σ:L2.St} {H1:Hp} {Q:VK} {D:Addr} (Pv:Nat -> List V -> Hp -> Prop) (h0:Pv 0 [] (upd H1 D (.lst []))) (hl:∀ i acc H',i <= xs.length -> Pv i acc H' -> SqL K H' a xs)
  (hs:∀ i x acc H',xs.reverse[i]? = some x -> Pv i acc H' -> g x (xD σ own ix) H' fun σ3 H3=>yO (xD σ own ix) σ3 /\ tt σ3 H3 fun b H4=>if b = true then
   te σ3 H4 fun v H5=>H5 D = some (.lst acc) /\ acc.length < sizeLine /\ CNx xs.length i Pv (acc ++ [v]) (upd H5 D (.lst (acc ++ [v])))else CNx xs.length i Pv acc H4)
  (hd:∀ acc H',Pv xs.length acc H' -> Q (.ref D) H'):CompV K a xs.length g tt te own ix σ H1 Q D:=by
 refine #[fun i m acc H=>m = xs.length - i /\ i <= xs.length /\ Pv i acc H,#[xs.length,by simp,Nat.zero_le _,h0],?_];rintro i m acc H' ⟨rfl,hi,p⟩;have q:=hl i acc H' hi p;by_cases hlt:i < xs.length
 ·refine .inr #[#[xs,q,rfl,hlt],fun x H2 y=>?_];obtain ⟨e,y⟩:=y;subst e;refine hs i x acc _ ?_ p;rw [List.getElem?_reverse hlt];exact y xs q rfl
 ·have e:i = xs.length:=⋯;subst e;exact .inl #[rfl,hd acc H' p]
theorem Kp {v:V} {σ:L2.St} {H:Hp} {Q:VK}:yf 0 (some v :: σ) H Q = Q v H:=rfl
theorem JR {a0:Option V} {v:V} {σ:L2.St} {H:Hp} {Q:VK}:yf 1 (a0 :: some v :: σ) H Q = Q v H:=rfl
theorem JS {a0 a1:Option V} {v:V} {σ:L2.St} {H:Hp} {Q:VK}:yf 2 (a0 :: a1 :: some v :: σ) H Q = Q v H:=rfl
theorem Ku {a0 a1 a2:Option V} {v:V} {σ:L2.St} {H:Hp} {Q:VK}:yf 3 (a0 :: a1 :: a2 :: some v :: σ) H Q = Q v H:=rfl
theorem J5 {a0 a1 a2 a3:Option V} {v:V} {σ:L2.St} {H:Hp} {Q:VK}:yf 4 (a0 :: a1 :: a2 :: a3 :: some v :: σ) H Q = Q v H:=rfl
theorem Kk {a0 a1 a2 a3 a4:Option V} {v:V} {σ:L2.St} {H:Hp} {Q:VK}:yf 5 (a0 :: a1 :: a2 :: a3 :: a4 :: some v :: σ) H Q = Q v H:=rfl
theorem Jw {a0 a1 a2 a3 a4 a5:Option V} {v:V} {σ:L2.St} {H:Hp} {Q:VK}:yf 6 (a0 :: a1 :: a2 :: a3 :: a4 :: a5 :: some v :: σ) H Q = Q v H:=rfl
theorem JU {a0 a1 a2 a3 a4 a5 a6:Option V} {v:V} {σ:L2.St} {H:Hp} {Q:VK}:yf 7 (a0 :: a1 :: a2 :: a3 :: a4 :: a5 :: a6 :: some v :: σ) H Q = Q v H:=rfl
theorem Kr {a0 a1 a2 a3 a4 a5 a6 a7:Option V} {v:V} {σ:L2.St} {H:Hp} {Q:VK}:yf 8 (a0 :: a1 :: a2 :: a3 :: a4 :: a5 :: a6 :: a7 :: some v :: σ) H Q = Q v H:=rfl
theorem Kx {a0 a1 a2 a3 a4 a5 a6 a7 a8:Option V} {v:V} {σ:L2.St} {H:Hp} {Q:VK}:yf 9 (a0 :: a1 :: a2 :: a3 :: a4 :: a5 :: a6 :: a7 :: a8 :: some v :: σ) H Q = Q v H:=rfl
theorem UI {a0 a1 a2 a3 a4 a5 a6 a7 a8 a9:Option V} {v:V} {σ:L2.St} {H:Hp} {Q:VK}:yf 10 (a0 :: a1 :: a2 :: a3 :: a4 :: a5 :: a6 :: a7 :: a8 :: a9 :: some v :: σ) H Q = Q v H:=rfl
theorem Q6 {b:Bool} {p:Bool -> Prop}:(∃ k,V.bl b = V.bl k /\ p k) = p b:=propext #[fun ⟨_,h,q⟩=>by cases h; exact q,fun q=>#[_,rfl,q]]
theorem Wt {b:Int} {p:Int -> Prop}:(∃ k,V.int b = V.int k /\ p k) = p b:=propext #[fun ⟨_,h,q⟩=>by cases h; exact q,fun q=>#[_,rfl,q]]
theorem WE {b:Str} {p:Str -> Prop}:(∃ k,V.str b = V.str k /\ p k) = p b:=propext #[fun ⟨_,h,q⟩=>by cases h; exact q,fun q=>#[_,rfl,q]]
theorem Ws {b:Addr} {p:Addr -> Prop}:(∃ k,V.ref b = V.ref k /\ p k) = p b:=propext #[fun ⟨_,h,q⟩=>by cases h; exact q,fun q=>#[_,rfl,q]]
theorem Km {i:Int} {p:Int -> Prop}:onInt (.int i) p = p i:=rfl
theorem Ka {i:Str} {p:Str -> Prop}:onStr (.str i) p = p i:=rfl
theorem Kg {i:Bool} {p:Bool -> Prop}:onBl (.bl i) p = p i:=rfl
theorem JY {i:Addr} {p:Addr -> Prop}:onRef (.ref i) p = p i:=rfl
theorem Kq {K:PySem.W.Frag} {b:Bool} {H:Hp} {p:Bool -> Prop}:Jy K (.bl b) H p = p b:=rfl
theorem WC {x:V} {p:Int -> Prop}:onInt x p = ∃ k,x = .int k /\ p k:=propext #[onInt.of,onInt.to]
theorem WY {x:V} {p:Str -> Prop}:onStr x p = ∃ k,x = .str k /\ p k:=propext #[onStr.of,onStr.to]
theorem WV {x:V} {p:Bool -> Prop}:onBl x p = ∃ k,x = .bl k /\ p k:=propext #[onBl.of,onBl.to]
theorem W6 {x:V} {p:Addr -> Prop}:onRef x p = ∃ k,x = .ref k /\ p k:=propext #[onRef.of,onRef.to]
theorem Zq {i:Nat} {σ:L2.St} {H:Hp} {Q:VK}:yf i σ H Q = ∃ v,σ[i]? = some (some v) /\ Q v H:=propext #[onSl.of,fun ⟨v,h,q⟩=>by simp only [yf,onSl,h]; exact q]
theorem UJ {a b:Int} {H:Hp} {Q:VK}:rEq (.int a) (.int b) H Q = Q (.bl (decide (a = b))) H:=rfl
theorem UB {a b:Str} {H:Hp} {Q:VK}:rEq (.str a) (.str b) H Q = Q (.bl (decide (a = b))) H:=rfl
theorem Ut {a b:Int} {H:Hp} {Q:VK}:rNe (.int a) (.int b) H Q = Q (.bl (!decide (a = b))) H:=rfl
theorem Vh {a b:Str} {H:Hp} {Q:VK}:rNe (.str a) (.str b) H Q = Q (.bl (!decide (a = b))) H:=rfl
theorem VA {a:Int} {y:V} {H:Hp} {Q:VK}:ZO (.int a) y H Q = onInt y fun j=>Q (.int (a + j)) H:=rfl
theorem UD {a:Str} {y:V} {H:Hp} {Q:VK}:ZO (.str a) y H Q = onStr y fun j=>a.length + j.length <= sizeLine /\ Q (.str (a ++ j)) H:=rfl
theorem Uk {a:Addr} {y:V} {H:Hp} {Q:VK}:ZO (.ref a) y H Q = UT (.ref a) y H Q:=rfl
theorem VP {a:Int} {y:V} {H:Hp} {Q:VK}:QW (.int a) y H Q = onInt y fun j=>CMul a j /\ Q (.int (a * j)) H:=rfl
theorem Ui {z:Str} {y:V} {H:Hp} {Q:VK}:QW (.str z) y H Q = onInt y fun n=>0 <= n /\ n <= 1000 /\ z.length <= 1000 /\ Q (.str (tx (List.replicate n.toNat (cs z)).flatten)) H:=rfl
theorem Kf {a:Int} {y:V} {H:Hp} {Q:VK}:KM (.int a) y H Q = onInt y fun j=>Q (.bl (decide (a < j))) H:=rfl
theorem Kd {a:Str} {y:V} {H:Hp} {Q:VK}:KM (.str a) y H Q = onStr y fun j=>Q (.bl (decide (cs a < cs j))) H:=rfl
theorem Kj {a:Int} {y:V} {H:Hp} {Q:VK}:Kn (.int a) y H Q = onInt y fun j=>Q (.bl (decide (a <= j))) H:=rfl
theorem JA {a:Str} {y:V} {H:Hp} {Q:VK}:Kn (.str a) y H Q = onStr y fun j=>Q (.bl (!(decide (cs j < cs a)))) H:=rfl
theorem JV {a:Int} {y:V} {H:Hp} {Q:VK}:JH (.int a) y H Q = onInt y fun j=>Q (.bl (decide (j < a))) H:=rfl
theorem JI {a:Str} {y:V} {H:Hp} {Q:VK}:JH (.str a) y H Q = onStr y fun j=>Q (.bl (decide (cs j < cs a))) H:=rfl
theorem Kc {K:PySem.W.Frag} {a:Addr} {y:V} {H:Hp} {Q:VK}:rIx K (.ref a) y H Q = onInt y fun i=>(∃ xs,SqL K H a xs /\ ∃ v,atI xs i = some v /\ Q v H) \/ ∃ xs,SqT K H a xs /\ ∃ v,atI xs i = some v /\ Q v H:=rfl
theorem Ko {K:PySem.W.Frag} {z:Str} {y:V} {H:Hp} {Q:VK}:rIx K (.str z) y H Q = VM (.str z) y H Q:=rfl
theorem VC {K:PySem.W.Frag} {z:Str} {lo hi:Option Int} {H:Hp} {Q:VK}:KB K (.str z) lo hi H Q =(z.length <= sizeLine /\ Q (.str (tx (cut (cs z) lo hi))) H):=rfl
theorem VY {K:PySem.W.Frag} {a:Addr} {lo hi:Option Int} {H:Hp} {Q:VK}:KB K (.ref a) lo hi H Q =(∃ xs,SqL K H a xs /\ ∀ p,H p = none -> Q (.ref p) (upd H p (.lst (QV xs lo hi)))):=rfl
theorem Vv {K:PySem.W.Frag} {z:Str} {H:Hp} {Q:VK}:X2 K [.str z] H Q =(z.length <= sizeLine /\ Q (.int z.length) H):=rfl
theorem Vf {K:PySem.W.Frag} {a:Addr} {H:Hp} {Q:VK}:X2 K [.ref a] H Q =(∃ n:Nat,((∃ xs,SqL K H a xs /\ n = xs.length) \/ ∃ xs,SqT K H a xs /\ n = xs.length) /\ Q (.int n) H):=rfl
theorem UA {x:V} {H:Hp} {Q:VK}:zak x .non H Q = Q (.bl (decide (x = .non))) H:=rfl
theorem Us {x:V} {H:Hp} {Q:VK}:QO x .non H Q = Q (.bl (!decide (x = .non))) H:=rfl
theorem VZ {i j:Int} {H:Hp} {Q:VK}:Uc [.int i,.int j] H Q = Q (.int (if j > i then j else i)) H:=rfl
theorem VI {a:Addr} {y:V} {H:Hp} {Q:VK}:Yy (.ref a) [y] H Q =(∃ xs,H a = some (.lst xs) /\ xs.length < sizeLine /\ Q .non (upd H a (.lst (xs ++ [y])))):=rfl
theorem KA {K:PySem.W.Frag} {z:Str} {H:Hp} {p:Prop}:(tyV K "str" (.str z) H /\ p) = p:=propext #[fun h=>h.2,fun h=>#[rfl,h]]
end L3
namespace L3
open PySem PySem.Spec PyProof.Rows L2
section
variable {X:Cx} {a b e:Expr} {ta tb te:TE} {pos p:Pos}
theorem zw (i:Nat) {x:Str} {pos':Pos} (hN:X.N.Nodup) (he:PE X e te) (hi:X.N[i]? = some x:=by rfl) (hx:Loc X.env.scope x:=by exact .inl rfl) (hs:swapsWith e (some (.Name x pos')) pos.line X.env = pure false:=by rfl) (hf:X.fn x = true \/ X.env.scope.names.lookup x = some .local:=by first | exact .inl rfl | exact .inr rfl | assumption) :
  PS X (.Assign [.Name x pos'] e pos) (QJ te (yW i)):=WM hN hi hx he hs hf
theorem zp {r:R2} (hr:IxR X r) (ha:PE X a ta) (hb:PE X b tb) (hs:Zr b:=by exact fun _ _=>rfl):PE X (.Subscript a b pos) (tOp r ta tb):=JL hr ha hb hs
theorem zH (hm:X.mg "len" = none) (he:PE X e te) (hg:Gl X "len":=by rfl) (h1:starEach [e] X.env =(false,eval e X.env) :: starEach [] X.env:=by rfl) (h2:(backTo pos (starEach [] X.env)).any (·.1) = false:=by rfl):PE X (.Call (.Name "len" p) [e] [] pos) (tCB (X2 X.K) (zM te xu)) :=
 wu JG hg hm PySem.boot_len (za he zc h1) (he:=h1) (hpl:=h2)
end
end L3
namespace L3
open PySem PySem.Spec PyProof.Rows L2
section
variable {X:Cx}
theorem Yf:∀ {ys:List Str} {its:List Value},Vals (ys.map V.str) its -> ∃ l:List (Str × Tok),its = strValues l /\ l.map (·.1) = ys
 | [],_,.nil=>#[[],rfl,rfl]
 | y :: ys,_,.cons r t=>by
  obtain ⟨tk,rfl⟩:=r;obtain ⟨l,e1,e2⟩:=Yf t;exact #[(y,tk) :: l,by rw [e1]; rfl,by rw [List.map_cons,e2]]
def JD (K:PySem.W.Frag):V -> List V -> Hp -> VK -> Prop:=fun x xs H Q=>∃ z p ys,x = .str z /\ xs = [.ref p] /\ SqL K H p (ys.map V.str) /\ JoinOk z ys = true /\ Q (.str (Txt.join z ys)) H
theorem Jc:MtR X "str.join" (JD X.K):=by
 intro pins s σ H x xs v us Q I rx rv h;obtain ⟨z,p,ys,rfl,rfl,hS,hok,q⟩:=h;obtain ⟨t,rfl⟩:=rx;obtain ⟨u,rfl,ru⟩:=xa rv;cases ru;obtain ⟨its,r,pl,_⟩:=I.list hS;obtain ⟨l,rfl,e⟩:=Yf r;exact PySem.SC.join pl.isList e hok fun t' k=>#[.str _,H,I.tok _,#[_,rfl],q]
end
end L3
namespace L3
open PySem PySem.Spec PyProof.Rows L2
section
variable {M:Model} {A:Around} {E:Value -> Shared -> Prop} {s:Shared} {base:Heap} {env env0:Env} {outer:List Env} {L x t C:Addr} {dx:Option Addr}
theorem Q1 {tb:Value} {Q:Unit -> Shared -> Prop} (hfr:A.frames = some (env0 :: outer)) (hl:s.heap.FunFrames base (env0 :: outer)) (hf:env0.frame = some L) (he:env.frame = some L)
  (hx:s.heap.get? x = some (xob C dx t tb)) (htb:UU s.heap x tb)
  (h:∀ h' T oT ts,h'.get? x = some (xob C dx t (.ref T)) -> T ≠ x -> (tb = .ref T \/ s⁻¹ <= T) -> h'.get? T = some oT -> oT.data = .fields ts -> 3 < ts.size ->
   (∀ b o,b ≠ x -> tb ≠ .ref b -> b ∉ frs (env0 :: outer) -> s.heap.get? b = some o -> h'.get? b = some o) -> (∀ b o,b ≠ x -> tb ≠ .ref b -> s.heap.get? b = some o -> ∃ sl,h'.get? b = some { o with slots:=sl }) -> Q Unit.unit { s with heap:=h' }) :
  wpAny M A (noteFrame (.ref x) env) Q E s:=by
 have land:∀ (h1:Heap) (T:Addr) (oT:Obj) (ts:Array Value),h1.get? x = some (xob C dx t (.ref T)) -> T ≠ x -> (tb = .ref T \/ s⁻¹ <= T) -> h1.get? T = some oT -> oT.data = .fields ts -> 3 < ts.size ->
   (∀ b o,b ≠ x -> tb ≠ .ref b -> b ∉ frs (env0 :: outer) -> s.heap.get? b = some o -> h1.get? b = some o) -> (∀ b o,b ≠ x -> tb ≠ .ref b -> s.heap.get? b = some o -> ∃ sl,h1.get? b = some { o with slots:=sl }) ->
   Q Unit.unit { s with heap:=h1 }:=fun h1 T oT ts e1 nT oldT e2 d2 z2 k1 k2=>h h1 T oT ts e1 nT oldT e2 d2 z2 k1 k2
 unfold noteFrame;simp only [he];refine wpAny_bind (wpAny_field hx rfl (x:=tb) rfl ?_);rcases htb with rfl | ⟨T,oT,ts,rfl,nT,e2,d2,z2⟩
 ·rw [if_neg ∅];refine ug hfr hl hf he hx fun h' oT ts e1 ne e2 d2 z2 k1 k2=>land h' _ oT ts e1 ne (.inr (Nat.le_refl _)) e2 d2 z2 (fun b o hb _ hbf e=>k1 b o hb hbf e) fun b o hb _ e=>k2 b o hb e
 ·rw [if_pos (show (Value.ref T != Value.none) = true from by simp)];obtain ⟨y,hy⟩:∃ y,ts[3]? = some y:=#[ts[3],by simp [z2]];refine wpAny_bind (wpAny_field e2 d2 (x:=y) hy ?_);by_cases c:(y == rawInt L) = true
  ·rw [if_pos c];exact wpAny_pure (land s.heap T oT ts hx nT (.inl rfl) e2 d2 z2 (fun b o _ _ _ e=>e) fun b o _ _ e=>#[o.slots,e])
  ·rw [if_neg c];refine wpAny_bind (wpAny_setField e2 d2 z2 ?_);have oth:∀ b,b ≠ T -> (s.heap.update T (Obj.mapFields (·.setIfInBounds 3 Value.none))).get? b = s.heap.get? b:=fun b hb=>Heap.get?_update_other _ _ (Ne.symm hb);have hl1:(s.heap.update T (Obj.mapFields (·.setIfInBounds 3 Value.none))).FunFrames base (env0 :: outer):=hl.of_keeps fun b o hb hnf=>#[o,(oth b fun q=>by rw [q,e2]at hb; cases hb; exact hnf ts d2).trans hb,rfl];have hsz:(s.heap.update T (Obj.mapFields (·.setIfInBounds 3 Value.none))).objs.size = s⁻¹:=Heap.size_update ..;refine ug (s:={ s with heap:=s.heap.update T (Obj.mapFields (·.setIfInBounds 3 Value.none)) }) hfr hl1 hf he ((oth x (Ne.symm nT)).trans hx) fun h' oT' ts' e1 ne e2' d2' z2' k1 k2=>?_;refine land h' _ oT' ts' e1 ne (.inr (by rw [hsz]; exact Nat.le_refl _)) e2' d2' z2' (fun b o hb hbt hbf e=>k1 b o hb hbf ((oth b fun q=>hbt (by rw [q])).trans e)) fun b o hb hbt e=>k2 b o hb ((oth b fun q=>hbt (by rw [q])).trans e)
end
section
variable {X:Cx} {pins:List (Addr × Obj)} {σ:St} {H1:Hp} {s1:Shared}
theorem Inv.noted {h':Heap} {x T:Addr} {tb:Value} (I1:Inv X pins σ H1 s1) (hst:X.stack = X.env :: X.outer) (fx:yV X pins H1 x) (fT:∀ T,tb = .ref T -> yV X pins H1 T) (fT':yV X pins H1 T)
  (k1:∀ b o,b ≠ x -> tb ≠ .ref b -> b ∉ frs (X.env :: X.outer) -> s1.heap.get? b = some o -> h'.get? b = some o) (k2:∀ b o,b ≠ x -> tb ≠ .ref b -> s1.heap.get? b = some o -> ∃ sl,h'.get? b = some { o with slots:=sl }):Inv X pins σ H1 { s1 with heap:=h' }:=by
 have tbs:∀ b,tb = .ref b -> H1 b = none:=fun b hb=>(fT b hb).1
 have nch:∀ b o,s1.heap.get? b = some o -> b ∉ (x :: T :: tbL tb) -> b ≠ x /\ tb ≠ .ref b:=fun b o _ hb=>by
  refine #[fun z=>hb (by simp [z]),fun z=>hb ?_];rw [z];simp [tbL]
 have un:Un (frs X.stack) (x :: T :: tbL tb) H1 H1 s1.heap h':=by
  rw [hst];refine #[fun b o e n hb hc=>?_,fun b o e n hb hc=>?_,fun b o e n _=>n,fun b o e hc=>?_,fun b xs e=>e,fun b o u e=>e,fun b ps e=>#[#[],by rw [e]; simp]]
  ·obtain ⟨a1,a2⟩:=nch b o e hc;exact k1 b o a1 a2 hb e
  ·obtain ⟨a1,a2⟩:=nch b o e hc;exact k2 b o a1 a2 e
  ·obtain ⟨a1,a2⟩:=nch b o e hc;obtain ⟨sl,q⟩:=k2 b o a1 a2 e;exact #[_,q]
 have hok:HOk X.prog X.w H1 h':=fun b u e=>by
  refine (I1.hok b u e).stay (fun c v hc q=>k1 c v ?_ ?_ ?_ q) (fun _ q=>q) fun _ _ q=>q
  ·rintro rfl;rcases hc with rfl | hc
   ·rw [fx.1]at e; cases e
   ·rw [fx.1]at hc; cases hc
  ·intro z;have:=tbs c z;rcases hc with rfl | hc
   ·rw [this]at e; cases e
   ·rw [this]at hc; cases hc
  ·intro z;rw [<- hst]at z;have:=I1.stkFree c z;rcases hc with rfl | hc
   ·rw [this]at e; cases e
   ·rw [this]at hc; cases hc
 exact I1.call' (s':={ s1 with heap:=h' }) rfl un hok I1.bare fun b hb=>by
  have fb:yV X pins H1 b:=by
   rcases ac.mp hb with z | z
   ·rw [z]; exact fx
   ·rcases ac.mp z with z | z
    ·rw [z]; exact fT'
    ·cases tb with
     | ref b' =>
      have:b = b':=by simpa [tbL] using z
      rw [this]; exact fT b' rfl
     | _=>simp [tbL]at z
  obtain ⟨_,a1,_,a3,a4,a5⟩:=fb;exact #[a3,a1,a4,a5]
end
section
variable {X:Cx} {scope:Scope} {own caps:List Str} {ix:()} {cl:List (Str × Addr)}
theorem ZB {N:List Str} {EX:XK} {pins:List (Addr × Obj)} {σ:St} {H3:Hp} {s3:Shared} {fp:List Addr} {xe:Value -> Shared -> Prop} {e:Value} {s1:Shared} {RE:Value -> Shared -> Prop} (hst:X.stack = X.env :: X.outer /\ X.env.frame = some X.env.locals) (hxe:XE X EX)
  (hc1:∀ y c,cl.lookup y = some c -> X.env.cells.lookup y = some c) (I3:Inv X pins σ H3 s3) (f3:∀ b ∈ fp,yV X pins H3 b) (fl:Q8 (zI X scope cl s3⁻¹ N pins s3 H3 fp xe) EX e s1)
  (hRE:∀ m s' x,s'.heap.Ns s3⁻¹ m -> (∀ h',Heap.SameBut s3⁻¹ s'.heap h' -> ∀ cenv:Env,cenv.locals = s3⁻¹ -> wpAny (model X.prog X.w) X.A (PySem.passOn "comprehension.variables-let-go" x cenv:Sem Value) (fun _ _=>False) X.xe { s' with heap:=h' }) -> RE x s') :
  notedBy (model X.prog X.w) X.A (compEnvC scope cl s3⁻¹ X.env) RE e s1:=by
 obtain ⟨pins',σ',H1,x,C,t,dx,tb,rfl,I1,ob,tr,fx,fT,q⟩:=fl
 have IX:Inv X pins σ H1 s1:=I3.call' (s':=s1) I1.os I1.base I1.hok I1.bare fun b hb=>by
  obtain ⟨_,a1,a2,a3,a4,a5⟩:=f3 b hb;exact #[a3,a1,a4,a5]
 have up:∀ b,yV (zI X scope cl s3⁻¹ N pins s3 H3 fp xe) pins' H1 b -> yV X pins H1 b:=fun b hb=>by
  obtain ⟨a0,a1,a2,a3,a4,a5⟩:=hb;rcases a3 with a3 | a3
  ·exact #[a0,(f3 b a3).2]
  ·exact I3.fpOk a3 a0
 have fx':=up x fx;have fT':∀ T,tb = .ref T -> yV X pins H1 T:=fun T h=>up T (fT T h);have fr:X.A.frames = some (X.env :: X.outer):=by rw [<- hst.1]; exact IX.ok.frames
 have ff:s1.heap.FunFrames X.base (X.env :: X.outer):=by rw [<- hst.1]; exact IX.stack
 obtain ⟨m,hm,_⟩:=I1.loc;have fC:yV X pins H1 s3⁻¹:=I3.fpOk (Nat.le_refl _) I1.free;refine Q1 fr ff hst.2 hst.2 ob tr fun h' T oT ts e1 nT oldT e2 d2 z2 k1 k2=>?_
 have fT2:yV X pins H1 T:=by
  rcases oldT with z | z
  ·exact fT' T z
  ·exact IX.fpOk z (IX.hok.fresh z)
 have I2:Inv X pins σ H1 { s1 with heap:=h' }:=Inv.noted IX hst.1 fx' fT' fT2 k1 k2;have hCx:s3⁻¹ ≠ x:=fun z=>fx.2.1 z.symm;have hCtb:tb ≠ .ref s3⁻¹:=fun z=>(fT _ z).2.1 rfl;obtain ⟨oC,es,ep,hoC,rC⟩:=hm
 have hCT:T ≠ s3⁻¹:=by
  rcases oldT with z | z
  ·exact (fT T z).2.1
  ·exact Nat.ne_of_gt (Nat.lt_of_lt_of_le (Heap.lt_size hoC) z)
 have hCf:s3⁻¹ ∉ frs (X.env :: X.outer):=fun z=>by
  rw [<- hst.1]at z;rcases ac.mp (IX.stkSub _ z)with y | y
  ·exact fC.2.1 y
  ·exact fC.2.2.1 y
 refine hRE m _ _ #[oC,es,ep,k1 _ _ hCx hCtb hCf hoC,rC] fun h2 sb cenv hcenv=>?_;have I3':Inv X pins σ H1 { s1 with heap:=h2 }:=I2.turned (t':=s1.toks) (fun b o hb e=>(sb.2 b hb).trans e) fC.1 fC.2.1 fC.2.2.2.1 fC.2.2.2.2.1 fC.2.2.2.2.2;have ob2:h2.get? x = some (xob C dx t (.ref T)):=(sb.2 x (Ne.symm hCx)).trans e1;have oT2:h2.get? T = some oT:=(sb.2 T hCT).trans e2;unfold PySem.passOn;refine wpAny_bind (wpAny_field (s:={ s1 with heap:=h2 }) ob2 rfl (x:=.ref T) rfl ?_);rw [if_neg (show ¬ (Value.ref T == Value.none) = true from by simp)];unfold setFlight;refine wpAny_bind (wpAny_bind (wpAny_field (s:={ s1 with heap:=h2 }) ob2 rfl (x:=.ref T) rfl ?_));rw [if_pos (show (Value.ref T != Value.none) = true from by simp)];refine wpAny_setField (s:={ s1 with heap:=h2 }) oT2 d2 z2 (wpAny_throw (hxe _ _ ?_));have d3:=Obj.data_mapFields d2 (·.setIfInBounds 3 (cenv.frame.elim Value.none fun f=>rawInt f))
 have I4:Inv X pins σ H1 { s1 with heap:=h2.update T (Obj.mapFields (·.setIfInBounds 3 (cenv.frame.elim Value.none fun f=>rawInt f))) } :=
  I3'.turned (t':=s1.toks) (fun b o hb e=>(Heap.get?_update_other _ _ (Ne.symm hb)).trans e) fT2.1 fT2.2.1 fT2.2.2.2.1 fT2.2.2.2.2.1 fT2.2.2.2.2.2
 exact #[pins,σ,H1,x,C,t,dx,.ref T,rfl,I4,(Heap.get?_update_other _ _ nT).trans ob2,.inr #[T,_,_,rfl,nT,Heap.get?_update_self _ oT2 (Obj.isFreed_of_fields d3),d3,by simpa using z2],fx',fun T' z=>by cases z; exact fT2,q]
end
section
variable {X:Cx} {scope:Scope} {own caps:List Str} {ix:()} {elt tg iter:Expr} {ifs:List Expr} {pos:Pos} {wi:TI} {g:TG} {tt:TT} {te:TE}
end
end L3
namespace L3
open PySem PySem.Spec PyProof.Rows L2
open AutoSeq1 (wpAny_loadPart')
open MeetsSeq MeetsSeq2 MeetsSeq3 SeqRoads2 SeqAt
def wE (op:CmpOp) (A:Around) (s:Shared) (y x:Value) (b:Bool):Prop :=
 ∀ (prog:Program) (w:World) (E:Value -> Shared -> Prop) (Q:Value -> Shared -> Prop),Q (.bool b) s -> wpAny (model prog w) A (richCompare op y x) Q E s
noncomputable abbrev LtAt:=wE .Lt
noncomputable def Jh:CmpOp -> Nat -> Nat -> Bool
 | .Gt,m,n=>decide (n < m)
 | _,m,n=>decide (m < n)
noncomputable def KS:CmpOp -> Int
 | .Gt=>4
 | _=>0
def LG (op:CmpOp):Prop:=op = .Lt \/ op = .Gt
def xL (op:CmpOp) (e t r:Nat -> Bool) (m n:Nat):Prop:=∀ i,i <= m -> i <= n -> r i = if i < m /\ i < n then (if e i = true then r (i + 1)else t i)else Jh op m n
noncomputable abbrev Ke:=xL .Lt
variable {op:CmpOp}
theorem Z4 (ho:LG op) (l b:Addr) (items items2:Array Value) (n n2:Nat) (dd dd2:Option Addr) (sl sl2:Array (Option Value)) (e t r:Nat -> Bool) (hr:xL op e t r items.size items2.size) (k:Nat) :
  ∀ i:Nat,i <= items.size -> i <= items2.size -> items.size - i = k -> Meets (Builtin.«list.__eq__.loop» #[[.ref l,.ref b,rawInt i,rawInt (KS op)],[]])
   (fun A R s=>s.heap.get? l = some { cls:=.type "list",dict:=dd,data:=.seq items n,slots:=sl } /\ s.heap.get? b = some { cls:=.type "list",dict:=dd2,data:=.seq items2 n2,slots:=sl2 } /\
    (∀ j (h1:j < items.size) (h2:j < items2.size),EqAt A.in1 s items[j] items2[j] (e j)) /\ (∀ j (h1:j < items.size) (h2:j < items2.size),e j = false -> wE op A.in1 s items[j] items2[j] (t j)) /\
    R (.ok (.ret (.bool (r i)))) s):=by
 rcases ho with rfl | rfl <;> simp only [KS] <;> simp only [xL,Jh]at hr
 all_goals
  induction k with
  | zero =>
   intro i b1 b2 hk prog w A R s h;obtain ⟨hp,g,d,tk,os⟩:=s; obtain ⟨hl,hb,he,ht,h⟩:=h;have hri:=hr i b1 b2;rw [if_neg ⋯]at hri;rw [hri]at h
   wp_walk using wpAny_loadPart' hl,wpAny_loadPart' hb
   have hi1:items[((i:Nat):Int).toNat]? = none:=by simp; lia
   rw [hi1]
   wp_walk using wpAny_loadPart' hl,wpAny_loadPart' hb
   exact h
  | succ k ih =>
   intro i b1 b2 hk prog w A R s h;obtain ⟨hp,g,d,tk,os⟩:=s; obtain ⟨hl,hb,he,ht,h⟩:=h;have hlt:i < items.size:=⋯;have hi1:items[((i:Nat):Int).toNat]? = some items[i]:=by simp [hlt]
   have hc:((i:Int) + 1) =((i + 1:Nat):Int):=by push_cast; rfl
   have hri:=hr i b1 b2;by_cases hlt2:i < items2.size
   ·rw [if_pos #[hlt,hlt2]]at hri;rw [hri]at h;have hi2:items2[((i:Nat):Int).toNat]? = some items2[i]:=by simp [hlt2]
    wp_walk using wpAny_loadPart' hl,wpAny_loadPart' hb
    rw [hi1,hi2];refine wpAny_bind (he i hlt hlt2 prog w _ _ ?_)
    cases hb':e i with
    | true =>
     rw [hb',if_pos rfl]at h
     wp_walk
     rw [hc]
     exact #[plainId_quiet plain_eq_loop _,codeAny_builtin entry_eq_loop (by
      rw [Around.under_plainId plain_eq_loop _]
      exact ih (i + 1) ⋯ ⋯ ⋯ prog w A R _ #[hl,hb,he,ht,h])]
    | false =>
     rw [hb',if_neg Bool.false_ne_true]at h
     wp_walk using wpAny_loadPart' hl,wpAny_loadPart' hb
     rw [hi1,hi2];refine wpAny_bind (ht i hlt hlt2 hb' prog w _ _ ?_)
     wp_walk
     exact h
   ·rw [if_neg ⋯]at hri;rw [hri]at h;have hi2:items2[((i:Nat):Int).toNat]? = none:=by simp; lia
    wp_walk using wpAny_loadPart' hl,wpAny_loadPart' hb
    rw [hi1,hi2]
    wp_walk using wpAny_loadPart' hl,wpAny_loadPart' hb
    exact h
theorem wJ (ho:LG op) (l b:Addr) (items items2:Array Value) (n n2:Nat) (dd dd2:Option Addr) (sl sl2:Array (Option Value)) (e t r:Nat -> Bool) (hr:xL op e t r items.size items2.size) :
  Meets ((match op with | .Gt=>Builtin.«list.__gt__» | _=>Builtin.«list.__lt__») ⟨[.ref l,.ref b],[]⟩)
   (fun A R s=>s.heap.get? l = some { cls:=.type "list",dict:=dd,data:=.seq items n,slots:=sl } /\ s.heap.get? b = some { cls:=.type "list",dict:=dd2,data:=.seq items2 n2,slots:=sl2 } /\
    (∀ j (h1:j < items.size) (h2:j < items2.size),EqAt A.in1 s items[j] items2[j] (e j)) /\ (∀ j (h1:j < items.size) (h2:j < items2.size),e j = false -> wE op A.in1 s items[j] items2[j] (t j)) /\
    R (.ok (.ret (.bool (r 0)))) s):=by
 rcases id ho with rfl | rfl
 all_goals
  intro prog w A R s h;obtain ⟨hp,g,d,tk,os⟩:=s; obtain ⟨hl,hb,he,ht,h⟩:=h;have f3:=AutoSeq1.sub_list_list
  wp_walk using wpAny_loadPart' hl,wpAny_loadPart' hb
  exact #[plainId_quiet plain_eq_loop _,codeAny_builtin entry_eq_loop (by
   rw [Around.under_plainId plain_eq_loop _]
   exact Z4 ho l b items items2 n n2 dd dd2 sl sl2 e t r hr _ 0 (Nat.zero_le _) (Nat.zero_le _) rfl prog w A R _ #[hl,hb,he,ht,h])]
theorem vv (ho:LG op) (l b:Addr) (items items2:Array Value) (n n2:Nat) (dd dd2:Option Addr) (sl sl2:Array (Option Value)) (e t r:Nat -> Bool) (hr:xL op e t r items.size items2.size) :
  Meets ((match op with | .Gt=>Builtin.«tuple.__gt__» | _=>Builtin.«tuple.__lt__») ⟨[.ref l,.ref b],[]⟩)
   (fun A R s=>s.heap.get? l = some { cls:=.type "tuple",dict:=dd,data:=.seq items n,slots:=sl } /\ s.heap.get? b = some { cls:=.type "tuple",dict:=dd2,data:=.seq items2 n2,slots:=sl2 } /\
    (∀ j (h1:j < items.size) (h2:j < items2.size),EqAt A.in1 s items[j] items2[j] (e j)) /\ (∀ j (h1:j < items.size) (h2:j < items2.size),e j = false -> wE op A.in1 s items[j] items2[j] (t j)) /\
    R (.ok (.ret (.bool (r 0)))) s):=by
 rcases ho with rfl | rfl <;> simp only [xL,Jh]at hr
 all_goals
  refine .of_wp fun prog w A R s h=>?_;obtain ⟨hp,g,d,tk,os⟩:=s; obtain ⟨hl,hb,he,ht,h⟩:=h;have f2:=AutoSeq1.sub_tuple_tuple;have hZ:(items.toList.zip items2.toList).length = min items.size items2.size:=by simp
  wp_walk using wpAny_loadPart' hl,wpAny_loadPart' hb,wpAny_forIn_list _ (fun rest b s'=>b.1 = none /\ s' = #[hp,g,d,tk,os] /\ ∃ i,i <= min items.size items2.size /\ rest =(items.toList.zip items2.toList).drop i /\
   R (.ok (.ret (.bool (r i)))) #[hp,g,d,tk,os]) _
  case turn =>
   rintro ⟨y,x⟩ rest b s' ⟨hb',rfl,i,hi,hz,hR⟩
   have hlt:i < (items.toList.zip items2.toList).length:=by
    rcases Nat.lt_or_ge i (items.toList.zip items2.toList).length with h' | h'
    ·exact h'
    ·rw [List.drop_of_length_le h']at hz; cases hz
   have hm:i < min items.size items2.size:=hZ ▸ hlt;have h1:i < items.size:=Nat.lt_of_lt_of_le hm (Nat.min_le_left _ _);have h2:i < items2.size:=Nat.lt_of_lt_of_le hm (Nat.min_le_right _ _);rw [List.drop_eq_getElem_cons hlt]at hz;injection hz with hyx hrest;have hy:y = items[i]:=by have:=congrArg Prod.fst hyx; simpa using this
   have hx:x = items2[i]:=by have:=congrArg Prod.snd hyx; simpa using this
   subst hy hx;have hri:=hr i ⋯ ⋯;rw [if_pos #[h1,h2]]at hri;rw [hri]at hR;refine wpAny_bind (he i h1 h2 prog w _ _ ?_)
   cases hy:e i with
   | true =>
    rw [hy,if_pos rfl]at hR
    wp_walk
    exact #[rfl,rfl,i + 1,⋯,hrest,hR]
   | false =>
    rw [hy,if_neg Bool.false_ne_true]at hR;simp only [Bool.not_false,if_true];refine wpAny_bind (wpAny_rule ?_);refine wpAny_bind (ht i h1 h2 hy prog w _ _ ?_)
    wp_walk
    exact #[_,rfl,hR]
  case fin =>
   rintro ⟨b1,b2⟩ s' ⟨hb',rfl,i,hi,hz,hR⟩;simp only at hb';subst hb'
   have hge:min items.size items2.size <= i:=by
    rcases Nat.lt_or_ge i (items.toList.zip items2.toList).length with h' | h'
    ·rw [List.drop_eq_getElem_cons h']at hz; cases hz
    ·exact hZ ▸ h'
   have hri:=hr i ⋯ ⋯;rw [if_neg ⋯]at hri;rw [hri]at hR
   wp_walk
   exact #[_,rfl,hR]
  case h =>
   exact #[rfl,rfl,0,Nat.zero_le _,rfl,h]
theorem LtAt.lists (ho:LG op) {A:Around} {s:Shared} {l b:Addr} {items items2:Array Value} {e t r:Nat -> Bool} (hl:s.heap.IsList l items) (hb:s.heap.IsList b items2) (hr:xL op e t r items.size items2.size) (hu:A.units < cLine)
  (he:∀ j (h1:j < items.size) (h2:j < items2.size),EqAt A.in1 s items[j] items2[j] (e j)) (ht:∀ j (h1:j < items.size) (h2:j < items2.size),e j = false -> wE op A.in1 s items[j] items2[j] (t j)):wE op A s (.ref l) (.ref b) (r 0):=fun prog w E Q h=>by
 obtain ⟨⟨cls,dd,data,sl⟩,h1,hc,n,hd⟩:=id hl;obtain ⟨⟨cls2,dd2,data2,sl2⟩,h2,hc2,n2,hd2⟩:=id hb;simp only at hc hd hc2 hd2;subst hc hd hc2 hd2;have z:Value.bool (r 0) ≠ Value.notImplemented /\ Q (.bool (r 0)) s:=#[(fun x=>nomatch x),h];rcases id ho with rfl | rfl
 ·exact richCompare_meets_room #[_,h1,rfl] #[_,h2,rfl] F.slot_list_lt F.entry_list_lt (F.args_list_lt_2 _ _) (wJ ho l b items items2 n n2 dd dd2 sl sl2 e t r hr) #[h1,h2,he,ht,z] hu
 ·exact richCompare_meets_room #[_,h1,rfl] #[_,h2,rfl] F.slot_list_gt F.entry_list_gt (F.args_list_gt_2 _ _) (wJ ho l b items items2 n n2 dd dd2 sl sl2 e t r hr) #[h1,h2,he,ht,z] hu
theorem LtAt.tuples (ho:LG op) {A:Around} {s:Shared} {l b:Addr} {items items2:Array Value} {e t r:Nat -> Bool} (hl:s.heap.IsTuple l items) (hb:s.heap.IsTuple b items2) (hr:xL op e t r items.size items2.size) (hu:A.units < cLine)
  (he:∀ j (h1:j < items.size) (h2:j < items2.size),EqAt A.in1 s items[j] items2[j] (e j)) (ht:∀ j (h1:j < items.size) (h2:j < items2.size),e j = false -> wE op A.in1 s items[j] items2[j] (t j)):wE op A s (.ref l) (.ref b) (r 0):=fun prog w E Q h=>by
 obtain ⟨⟨cls,dd,data,sl⟩,h1,hc,n,hd⟩:=id hl;obtain ⟨⟨cls2,dd2,data2,sl2⟩,h2,hc2,n2,hd2⟩:=id hb;simp only at hc hd hc2 hd2;subst hc hd hc2 hd2;have z:Value.bool (r 0) ≠ Value.notImplemented /\ Q (.bool (r 0)) s:=#[(fun x=>nomatch x),h];rcases id ho with rfl | rfl
 ·exact richCompare_meets_room #[_,h1,rfl] #[_,h2,rfl] F.slot_tuple_lt F.entry_tuple_lt (F.args_tuple_lt_2 _ _) (vv ho l b items items2 n n2 dd dd2 sl sl2 e t r hr) #[h1,h2,he,ht,z] hu
 ·exact richCompare_meets_room #[_,h1,rfl] #[_,h2,rfl] F.slot_tuple_gt F.entry_tuple_gt (F.args_tuple_gt_2 _ _) (vv ho l b items items2 n n2 dd dd2 sl sl2 e t r hr) #[h1,h2,he,ht,z] hu
end L3
namespace L3
open PySem PySem.Spec PyProof.Rows L2
mutual
def okD:D -> D -> Prop
 | .int _,.int _=>True
 | .lst l,.lst m=>vo l m
 | .tup l,.tup m=>vo l m
 | _,_=>False
def vo:List D -> List D -> Prop
 | d :: l,e :: m=>okD d e /\ vo l m
 | _,_=>True
end
mutual
noncomputable def ltD:D -> D -> Bool
 | .int a,.int b=>decide (a < b)
 | .lst l,.lst m=>xE l m
 | .tup l,.tup m=>xE l m
 | _,_=>false
noncomputable def xE:List D -> List D -> Bool
 | d :: l,e :: m=>if eqD d e = true then xE l m else ltD d e
 | [],_ :: _=>true
 | _,[]=>false
end
theorem Zn (l m:List D):Ke (fun j=>eqD (l.getD j .non) (m.getD j .non)) (fun j=>ltD (l.getD j .non) (m.getD j .non)) (fun i=>xE (l.drop i) (m.drop i)) l.length m.length:=by
 intro i b1 b2;simp only [Jh];by_cases h:i < l.length /\ i < m.length
 ·rw [if_pos h,List.drop_eq_getElem_cons h.1,List.drop_eq_getElem_cons h.2,xE];rw [List.getD_eq_getElem?_getD,List.getD_eq_getElem?_getD,List.getElem?_eq_getElem h.1,List.getElem?_eq_getElem h.2];rfl
 ·rw [if_neg h];by_cases h1:i < l.length
  ·have h2:¬ i < m.length:=fun z=>h #[h1,z];rw [List.drop_eq_getElem_cons h1,List.drop_of_length_le (Nat.le_of_not_lt h2),xE]
   ·simp; lia
   all_goals simp
  ·rw [List.drop_of_length_le (Nat.le_of_not_lt h1)];by_cases h2:i < m.length
   ·rw [List.drop_eq_getElem_cons h2,xE];simp; lia
   ·rw [List.drop_of_length_le (Nat.le_of_not_lt h2),xE]
    ·simp; lia
    all_goals simp
mutual
theorem jF:∀ d e:D,eqD d e = eqD e d
 | .lst l,e=>by cases e <;> simp only [eqD]; exact vd l _
 | .tup l,e=>by cases e <;> simp only [eqD]; exact vd l _
 | .int _,e=>by cases e <;> simp only [eqD] <;> exact Bool.beq_comm
 | .str _,e=>by cases e <;> simp only [eqD] <;> exact Bool.beq_comm
 | .bl _,e=>by cases e <;> simp only [eqD] <;> exact Bool.beq_comm
 | .non,e=>by cases e <;> simp only [eqD]
theorem vd:∀ l m:List D,xJ l m = xJ m l
 | [],[]=>rfl
 | [],_ :: _=>by simp only [xJ]
 | _ :: _,[]=>by simp only [xJ]
 | d :: l,e :: m=>by simp only [xJ,jF d e,vd l m]
end
noncomputable def cm:CmpOp -> D -> D -> Bool
 | .Gt,d,e=>ltD e d
 | _,d,e=>ltD d e
noncomputable def cms:CmpOp -> List D -> List D -> Bool
 | .Gt,d,e=>xE e d
 | _,d,e=>xE d e
theorem jl {op:CmpOp} (ho:LG op) (l m:List D):xL op (fun j=>eqD (l.getD j .non) (m.getD j .non)) (fun j=>cm op (l.getD j .non) (m.getD j .non)) (fun i=>cms op (l.drop i) (m.drop i)) l.length m.length:=by
 rcases ho with rfl | rfl
 ·exact Zn l m
 ·intro i b1 b2;have h:=Zn m l i b2 b1;simp only [Jh,cm,cms]at h ⊢;rw [h,jF (m.getD i .non)];by_cases q:i < l.length /\ i < m.length
  ·rw [if_pos q,if_pos q.symm]
  ·rw [if_neg q,if_neg fun z=>q z.symm]
theorem QE:∀ {l m:List D} {j:Nat} {d e:D},vo l m -> l[j]? = some d -> m[j]? = some e -> okD d e
 | d :: l,e :: m,0,_,_,h,q1,q2=>by
  cases q1; cases q2;simp only [vo]at h;exact h.1
 | d :: l,e :: m,j + 1,_,_,h,q1,q2=>by
  simp only [vo]at h;exact QE (j:=j) h.2 q1 q2
section
variable {X:Cx} {pins:List (Addr × Obj)} {σ:St} {H:Hp} {s:Shared}
theorem vN {op:CmpOp} {l m:List D} {xs ys:List V} {its its':List Value} {A:Around} {n:Nat} (hl:Iss X.K H l xs) (hm:Iss X.K H m ys) (r:Vals xs its) (r':Vals ys its') (hn:xv l < n) (ok:vo l m)
  (ih:∀ (d e:D) (x y:V) (u v:Value),dpD d < n -> okD d e -> Is X.K H d x -> Is X.K H e y -> RelV x u -> RelV y v -> wE op A s u v (cm op d e)) :
  ∀ j (h1:j < its.toArray.size) (h2:j < its'.toArray.size),wE op A s its.toArray[j] its'.toArray[j] (cm op (l.getD j .non) (m.getD j .non)):=by
 intro j h1 h2;rw [List.size_toArray]at h1 h2;have e1:=hl.len;have e2:=hm.len;have e3:=r.length;have e4:=r'.length;have g1:l[j]? = some l[j]:=List.getElem?_eq_getElem ⋯;have g2:m[j]? = some m[j]:=List.getElem?_eq_getElem ⋯;generalize l[j] = d at g1;generalize m[j] = e at g2;obtain ⟨x,hx,ix⟩:=hl.at g1;obtain ⟨y,hy,iy⟩:=hm.at g2;obtain ⟨u,hu,ru⟩:=z6 r hx;obtain ⟨v,hv,rv⟩:=z6 r' hy
 have q1:its.toArray[j] = u:=by
  have:=(ae.mp hu).2;simpa using this
 have q2:its'.toArray[j] = v:=by
  have:=(ae.mp hv).2;simpa using this
 rw [q1,q2,List.getD_eq_getElem?_getD,List.getD_eq_getElem?_getD,g1,g2];exact ih d e x y u v (Nat.lt_of_le_of_lt (VJ g1) hn) (QE ok g1 g2) ix iy ru rv
theorem YF {op:CmpOp} (ho:LG op) (I:Inv X pins σ H s):∀ (n:Nat) (A:Around) (d e:D) (x y:V) (u v:Value),A.units + n < cLine -> dpD d < n -> okD d e -> Is X.K H d x -> Is X.K H e y -> RelV x u -> RelV y v -> wE op A s u v (cm op d e):=by
 intro n
 induction n with
 | zero=>intro A d e x y u v _ h; exact absurd h (Nat.not_lt_zero _)
 | succ n ih =>
  intro A d e x y u v hu hd ok hx hy rx ry;have hu1:A.units < cLine:=⋯;have huA:A.in1.units + n < cLine:=by show A.units + 1 + n < cLine; lia
  cases d with
  | int a =>
   cases e with
   | int b =>
    simp only [Is]at hx hy;subst hx hy;obtain ⟨t,rfl⟩:=rx;obtain ⟨t',rfl⟩:=ry;rcases ho with rfl | rfl
    ·exact fun prog w E Q h=>lt_int h
    ·exact fun prog w E Q h=>gt_int h
   | _=>simp only [okD]at ok
  | lst l =>
   cases e with
   | lst m =>
    simp only [Is]at hx hy;obtain ⟨a,xs,rfl,h1,h2⟩:=hx;obtain ⟨b,ys,rfl,g1,g2⟩:=hy;cases rx; cases ry;obtain ⟨its,r,p,_⟩:=I.list h1;obtain ⟨its',r',p',_⟩:=I.list g1;simp only [dpD]at hd;simp only [okD]at ok;have L1:=h2.len;have L2:=g2.len;have L3:=r.length;have L4:=r'.length;have st:=jl ho l m;rw [show l.length = its.toArray.size by simp only [List.size_toArray]; lia,show m.length = its'.toArray.size by simp only [List.size_toArray]; lia]at st
    have r0:=LtAt.lists ho (A:=A) p.isList p'.isList st hu1 (yk h2 g2 r r' (n:=n) ⋯ fun d e x y u v q1 q2 q3 q4 q5=>wm I n A.in1 d e x y u v huA q1 q2 q3 q4 q5)
     (fun j h1 h2 _=>vN (n:=n) (A:=A.in1) ‹_› g2 r r' ⋯ ok (fun d e x y u v q1 q2 q3 q4 q5 q6=>ih A.in1 d e x y u v huA q1 q2 q3 q4 q5 q6) j h1 h2)
    rcases id ho with rfl | rfl <;> exact r0
   | _=>simp only [okD]at ok
  | tup l =>
   cases e with
   | tup m =>
    simp only [Is]at hx hy;obtain ⟨a,xs,rfl,h1,h2⟩:=hx;obtain ⟨b,ys,rfl,g1,g2⟩:=hy;cases rx; cases ry;obtain ⟨its,r,p,_⟩:=I.tuple h1;obtain ⟨its',r',p',_⟩:=I.tuple g1;simp only [dpD]at hd;simp only [okD]at ok;have L1:=h2.len;have L2:=g2.len;have L3:=r.length;have L4:=r'.length;have st:=jl ho l m;rw [show l.length = its.toArray.size by simp only [List.size_toArray]; lia,show m.length = its'.toArray.size by simp only [List.size_toArray]; lia]at st
    have r0:=LtAt.tuples ho (A:=A) p p' st hu1 (yk h2 g2 r r' (n:=n) ⋯ fun d e x y u v q1 q2 q3 q4 q5=>wm I n A.in1 d e x y u v huA q1 q2 q3 q4 q5)
     (fun j h1 h2 _=>vN (n:=n) (A:=A.in1) ‹_› g2 r r' ⋯ ok (fun d e x y u v q1 q2 q3 q4 q5 q6=>ih A.in1 d e x y u v huA q1 q2 q3 q4 q5 q6) j h1 h2)
    rcases id ho with rfl | rfl <;> exact r0
   | _=>simp only [okD]at ok
  | non=>cases e <;> simp only [okD]at ok
  | bl _=>cases e <;> simp only [okD]at ok
  | str _=>cases e <;> simp only [okD]at ok
theorem WT (I:Inv X pins σ H s):∀ (n:Nat) (A:Around) (d e:D) (x y:V) (u v:Value),A.units + n < cLine -> dpD d < n -> okD d e -> Is X.K H d x -> Is X.K H e y -> RelV x u -> RelV y v -> LtAt A s u v (ltD d e):=YF (.inl rfl) I
def KR (K:PySem.W.Frag):R2:=fun x y H Q=>∃ d e,Is K H d x /\ Is K H e y /\ dpD d < 50 /\ okD d e /\ Q (.bl (ltD d e)) H
theorem UZ (hu:X.A.units + 100 < cLine):OpR X (compareOp .Lt) (KR X.K):=by
 intro pins s σ H x y v u Q I rx ry h;obtain ⟨d,e,hx,hy,hd,ok,q⟩:=h;exact WT I 50 X.A d e x y v u ⋯ hd ok hx hy rx ry X.prog X.w X.xe _ #[.bl _,H,I,rfl,q]
end
theorem Ug {K:PySem.W.Frag} {x y:V} {H:Hp} {Q:VK} {d e:D} (h1:Is K H d x) (h2:Is K H e y) (h3:dpD d < 50) (h4:okD d e) (q:Q (.bl (ltD d e)) H):KR K x y H Q:=#[d,e,h1,h2,h3,h4,q]
noncomputable def ltI:List Int -> List Int -> Bool
 | a :: l,b :: m=>if a = b then ltI l m else decide (a < b)
 | [],_ :: _=>true
 | _,[]=>false
theorem xI:∀ (l m:List Int),vo (l.map D.int) (m.map D.int)
 | [],_=>by simp only [List.map_nil,vo]
 | _ :: _,[]=>by simp only [List.map_nil,List.map_cons,vo]
 | a :: l,b :: m=>by simp only [List.map_cons,vo,okD,true_and]; exact xI l m
theorem wC:∀ (l m:List Int),xE (l.map D.int) (m.map D.int) = ltI l m
 | [],[]=>by simp only [List.map_nil,xE,ltI]
 | [],_ :: _=>by simp only [List.map_nil,List.map_cons,xE,ltI]
 | _ :: _,[]=>by simp only [List.map_nil,List.map_cons,xE,ltI]
 | a :: l,b :: m=>by
  simp only [List.map_cons,xE,ltI,eqD,ltD,wC l m,beq_iff_eq]
end L3
namespace L3
open PySem PySem.Spec PyProof.Rows L2
mutual
def y2:D -> Prop
 | .lst _=>False
 | .tup l=>zS l
 | _=>True
def zS:List D -> Prop
 | []=>True
 | d :: l=>y2 d /\ zS l
end
theorem Y9 {K:PySem.W.Frag} {H:Hp} {a p:Addr} {xs ys zs:List V} (hp:H p = some (.lst ys)) (h:SqT K H a xs):SqT K (upd H p (.lst zs)) a xs:=by
 rcases h with (h | ⟨o,h⟩) | h
 ·refine .inl (.inl ?_);rw [zk (fun e=>by rw [e,hp]at h; cases h)];exact h
 ·refine .inl (.inr #[o,?_]);rw [zk (fun e=>by rw [e,hp]at h; cases h)];exact h
 ·exact .inr h
mutual
theorem Is.updL {K:PySem.W.Frag} {H:Hp} {p:Addr} {ys zs:List V} (hp:H p = some (.lst ys)):∀ (d:D) (v:V),y2 d -> Is K H d v -> Is K (upd H p (.lst zs)) d v
 | .non,v,_,h=>by simp only [Is]at h ⊢; exact h
 | .bl b,v,_,h=>by simp only [Is]at h ⊢; exact h
 | .int b,v,_,h=>by simp only [Is]at h ⊢; exact h
 | .str b,v,_,h=>by simp only [Is]at h ⊢; exact h
 | .lst l,v,f,h=>by simp only [y2]at f
 | .tup l,v,f,h=>by
  simp only [Is]at h ⊢;simp only [y2]at f;obtain ⟨a,xs,e1,e2,e3⟩:=h;exact #[a,xs,e1,Y9 hp e2,Iss.updL hp l xs f e3]
theorem Iss.updL {K:PySem.W.Frag} {H:Hp} {p:Addr} {ys zs:List V} (hp:H p = some (.lst ys)):∀ (l:List D) (vs:List V),zS l -> Iss K H l vs -> Iss K (upd H p (.lst zs)) l vs
 | [],vs,_,h=>by simp only [Iss]at h ⊢; exact h
 | d :: l,vs,f,h=>by
  simp only [Iss]at h ⊢;simp only [zS]at f;obtain ⟨v,r,e1,e2,e3⟩:=h;exact #[v,r,e1,Is.updL hp d v f.1 e2,Iss.updL hp l r f.2 e3]
end
theorem xU:∀ {l:List D},(∀ d ∈ l,y2 d) -> zS l
 | [],_=>by simp only [zS]
 | d :: l,h=>by simp only [zS]; exact #[h d (by simp),xU fun e he=>h e (by simp [he])]
theorem uz {n:Nat}:∀ {l:List D},(∀ d ∈ l,dpD d <= n) -> xv l <= n
 | [],_=>by simp only [xv]; lia
 | d :: l,h=>by
  have h1:=h d (by simp);have h2:=uz (n:=n) (l:=l) fun e he=>h e (by simp [he]);simp only [xv];lia
def LsA (K:PySem.W.Frag) (H:Hp) (a:Addr) (ds:List D):Prop:=∃ xs,H a = some (.lst xs) /\ Iss K H ds xs
theorem LsA.same {K:PySem.W.Frag} {H H':Hp} {a:Addr} {ds:List D} (h:LsA K H a ds) (e:Same H H'):LsA K H' a ds:=let #[xs,h1,h2]:=h; #[xs,e _ _ h1,Iss.same e _ _ h2]
theorem LsA.is {K:PySem.W.Frag} {H:Hp} {a:Addr} {ds:List D} (h:LsA K H a ds):Is K H (.lst ds) (.ref a):=by
 obtain ⟨xs,h1,h2⟩:=h;simp only [Is];exact #[a,xs,rfl,SqL.of h1,h2]
theorem LsA.nil {K:PySem.W.Frag} {H:Hp} {a:Addr}:LsA K (upd H a (.lst [])) a []:=#[[],zb,by simp only [Iss]]
theorem LsA.snoc {K:PySem.W.Frag} {H:Hp} {a:Addr} {ds:List D} {d:D} {xs:List V} {v:V} (h1:H a = some (.lst xs)) (h2:Iss K H ds xs) (f:zS ds) (fd:y2 d) (hv:Is K H d v):LsA K (upd H a (.lst (xs ++ [v]))) a (ds ++ [d]) :=
 #[_,zb,Iss.append (Iss.updL h1 _ _ f h2) (by simp only [Iss]; exact #[v,[],rfl,Is.updL h1 _ _ fd hv,rfl])]
theorem Is.tup {K:PySem.W.Frag} {H:Hp} {p:Addr} {vs:List V} {ds:List D} (hp:H p = none) (h:Iss K H ds vs):Is K (upd H p (.tup vs)) (.tup ds) (.ref p):=by
 simp only [Is];exact #[p,vs,rfl,SqT.of zb,Iss.same (zg hp) _ _ h]
noncomputable abbrev dS (l:()):D:=.str (tx l)
noncomputable abbrev zE:=() × ()
noncomputable def dR (r:zE):D:=.tup [dS r.1,dS r.2]
theorem JF {K:PySem.W.Frag} {H:Hp} {r:zE} {v:V} (h:Is K H (dR r) v):∃ p,v = .ref p /\ SqT K H p [.str (tx r.1),.str (tx r.2)]:=by
 simp only [dR,Is,Iss]at h;obtain ⟨a,xs,e,hs,v1,r1,rfl,rfl,v2,r2,rfl,rfl,rfl⟩:=h;exact #[a,e,hs]
theorem Um (r:zE):y2 (dR r):=by simp only [dR,y2,zS,and_self]
theorem JX (r:zE):dpD (dR r) <= 1:=by simp only [dR,dpD,xv]; lia
theorem Xi (rs:List zE):zS (rs.map dR):=xU fun d h=>by obtain ⟨r,_,rfl⟩:=aa.mp h; exact Um r
theorem Qi (rs:List zE):xv (rs.map dR) <= 1:=uz fun d h=>by obtain ⟨r,_,rfl⟩:=aa.mp h; exact JX r
noncomputable abbrev N3:=Nat × Nat × Nat
noncomputable def d3 (t:N3):D:=.tup [.int (t.1:Nat),.int (t.2.1:Nat),.int (t.2.2:Nat)]
theorem Iss.get {K:PySem.W.Frag} {H:Hp} {l:List D} {vs:List V} {j:Nat} {v:V} (h:Iss K H l vs) (q:vs[j]? = some v):∃ d,l[j]? = some d /\ Is K H d v:=by
 have hj:=(ae.mp q).1;have hl:=h.len;have g1:l[j]? = some l[j]:=List.getElem?_eq_getElem ⋯;obtain ⟨x,hx,ix⟩:=h.at g1;rw [q]at hx;cases hx;exact #[_,g1,ix]
theorem Iss.getR {K:PySem.W.Frag} {H:Hp} {rs:List zE} {vs:List V} {j:Nat} {v:V} (h:Iss K H (rs.map dR) vs) (q:vs[j]? = some v):∃ r p,rs[j]? = some r /\ v = .ref p /\ SqT K H p [.str (tx r.1),.str (tx r.2)]:=by
 obtain ⟨d,e,i⟩:=h.get q;rw [List.getElem?_map]at e;obtain ⟨r,hr,rfl⟩:=ak.mp e;obtain ⟨p,e1,e2⟩:=JF i;exact #[r,p,hr,e1,e2]
end L3
namespace L3
open PySem PySem.Spec PyProof.Rows L2
open Classical in
section
variable {X:Cx} {pins:List (Addr × Obj)} {σ:L2.St} {H:Hp} {s:Shared}
open Classical in
end
end L3
namespace L3
open PySem PySem.Spec PyProof.Rows L2
structure DM (P:Program) (w:World) (K:PySem.W.Frag) (mg:Str -> Option Value) (base:Heap) (CX:CXT) (k:Nat) (C:Addr) (m:Str) (ps:List Str) (sp:Sp):Prop where
 ex:∃ f fd,U5 K C m f /\ FnOk P w K mg base CX k f fd ps sp /\ Binds K fd ps []
structure DMk (P:Program) (w:World) (K:PySem.W.Frag) (mg:Str -> Option Value) (base:Heap) (CX:CXT) (k:Nat) (C:Addr) (ps:List Str) (sp:Sp):Prop where
 ex:∃ f fd,Mk K C f /\ FnOk P w K mg base CX k f fd ps sp /\ Binds K fd ps []
section
variable {X:Cx} {k j:Nat} {C:Addr} {m:Str} {ps:List Str} {sp:Sp} {o e:Expr} {es:List Expr} {ta:TE} {t:TA} {apos pos p:Pos} {x:Str} {E:XK}
theorem me0 (D:DM X.prog X.w X.K X.mg X.base CX0 k C m ps sp) (c:Cls X.K C) (hr:Room j X.A) (he:PE X o ta) {pl:Sem Bool} (ht:eval (.Call (.Attribute o m apos) [] [] pos) X.env =(do
      let ov <- eval o X.env
      standAt apos.atName
      let (f,first) <- holding [ov] (getMethod ov m pl)
      callWith pos f first (backTo pos (starEach [] X.env)) (backToKw pos (keywordEach [] X.env))):=by rfl) (hj:k <= j:=by decide):PE X (.Call (.Attribute o m apos) [] [] pos) (uR C m sp [] E0 ta xu):=by
  obtain ⟨f,fd,hm,F,hb⟩:=D.ex;exact XR he c hm F (hr.mono hj) hb .nil kR ht
theorem me1 (D:DM X.prog X.w X.K X.mg X.base CX0 k C m ps sp) (c:Cls X.K C) (hr:Room j X.A) (he:PE X o ta) (ha:PA X (e :: es) t) {pl:Sem Bool}
    (hst:starEach (e :: es) X.env =(false,eval e X.env) :: starEach es X.env:=by rfl) (hpl:(backTo pos (starEach es X.env)).any (·.1) = false:=by rfl)
    (ht:eval (.Call (.Attribute o m apos) (e :: es) [] pos) X.env =(do
      let ov <- eval o X.env
      standAt apos.atName
      let (f,first) <- holding [ov] (getMethod ov m pl)
      callWith pos f first (backTo pos (starEach (e :: es) X.env)) (backToKw pos (keywordEach [] X.env))):=by rfl) (hj:k <= j:=by decide):PE X (.Call (.Attribute o m apos) (e :: es) [] pos) (uR C m sp [] E0 ta t):=by
  obtain ⟨f,fd,hm,F,hb⟩:=D.ex;exact UF he c hm F (hr.mono hj) hb .nil kR ha hst hpl ht
theorem mkC (D:DMk X.prog X.w X.K X.mg X.base CX0 k C ps sp) (hr:Room j X.A) (hg:Gl X x) (hm:X.mg x = some (.ref C)) (ha:PA X (e :: es) t) (hdb:(x ==("__debug__" : Str)) = false:=by decide) (he:starEach (e :: es) X.env =(false,eval e X.env) :: starEach es X.env:=by rfl)
  (hpl:(backTo pos (starEach es X.env)).any (·.1) = false:=by rfl) (hj:k + 1 <= j:=by decide):PE X (.Call (.Name x p) (e :: es) [] pos) (Xk C sp [] E0 t):=by
 obtain ⟨f,fd,M,F,hb⟩:=D.ex;exact Ur M F (hr.mono hj) hg hm hb .nil kR ha hdb he hpl
end
end L3
namespace L3
open PySem PySem.Spec PyProof.Rows L2
section
variable {X:Cx}
end
section
variable {X:Cx} {k j:Nat} {C:Addr} {m:Str} {ps:List Str} {sp:Sp} {o e:Expr} {es:List Expr} {ta:TE} {t:TA} {apos pos p:Pos}
end
end L3
namespace L3
open PySem PySem.Spec PyProof.Rows L2
def zB (Fam:Addr -> Prop) (m:Str) (sp:Addr -> Sp) (dvs:List V) (E:XK) (ta:TE) (t:TA):TE:=fun σ H Q=>ta σ H fun x H1=>∃ C a dx fs,Fam C /\ x = .ref a /\ H1 a = some (.ins C dx fs) /\ fs.lookup m = none /\
 t σ H1 fun vs H2=>sp C (x ::(vs ++ dvs)) H2 Q E
structure DMF (P:Program) (w:World) (K:PySem.W.Frag) (mg:Str -> Option Value) (base:Heap) (CX:CXT) (k:Nat) (Fam:Addr -> Prop) (m:Str) (ps:List Str) (sp:Addr -> Sp):Prop where
 ex:∀ C,Fam C -> Cls K C /\ DM P w K mg base CX k C m ps (sp C)
section
variable {X:Cx} {k j:Nat} {Fam:Addr -> Prop} {m:Str} {ps:List Str} {sp:Addr -> Sp} {o e:Expr} {es:List Expr} {ta:TE} {t:TA} {apos pos p:Pos} {x:Str} {E:XK}
theorem zan (D:DMF X.prog X.w X.K X.mg X.base CX0 k Fam m ps sp) (hr:Room j X.A) (he:PE X o ta) {pl:Sem Bool} (ht:eval (.Call (.Attribute o m apos) [] [] pos) X.env =(do
      let ov <- eval o X.env
      standAt apos.atName
      let (f,first) <- holding [ov] (getMethod ov m pl)
      callWith pos f first (backTo pos (starEach [] X.env)) (backToKw pos (keywordEach [] X.env))):=by rfl) (hj:k <= j:=by decide):PE X (.Call (.Attribute o m apos) [] [] pos) (zB Fam m sp [] E0 ta xu):=by
  intro pins s σ H Q I h;refine PySem.W.methodCall_KW (pl:=pl) (thn (he pins s σ H _ I h) fun u s1=>el5 fun x H1 I1 rx q_z=>?_) ht;obtain ⟨C,a,dx,fs,fam,ex,ea,l,q⟩:=q_z;subst ex;obtain rfl:u = Value.ref a:=rx;obtain ⟨c,⟨f,fd,hm,F,hb⟩⟩:=D.ex C fam;refine yK I1 ea c hm l ?_;exact PySem.W.callWith_K0 (first:=[.ref a]) I1.kIn hm.kp (qK (us:=[.ref a]) (vs:=[.ref a]) F (hr.mono hj) hb .nil kR I1 (.cons rfl .nil) q)
theorem QC (D:DMF X.prog X.w X.K X.mg X.base CX0 k Fam m ps sp) (hr:Room j X.A) (he:PE X o ta) (ha:PA X (e :: es) t) {pl:Sem Bool}
    (hst:starEach (e :: es) X.env =(false,eval e X.env) :: starEach es X.env:=by rfl) (hpl:(backTo pos (starEach es X.env)).any (·.1) = false:=by rfl)
    (ht:eval (.Call (.Attribute o m apos) (e :: es) [] pos) X.env =(do
      let ov <- eval o X.env
      standAt apos.atName
      let (f,first) <- holding [ov] (getMethod ov m pl)
      callWith pos f first (backTo pos (starEach (e :: es) X.env)) (backToKw pos (keywordEach [] X.env))):=by rfl) (hj:k <= j:=by decide):PE X (.Call (.Attribute o m apos) (e :: es) [] pos) (zB Fam m sp [] E0 ta t):=by
  intro pins s σ H Q I h;refine PySem.W.methodCall_KW (pl:=pl) (thn (he pins s σ H _ I h) fun u s1=>el5 fun x H1 I1 rx q_z=>?_) ht;obtain ⟨C,a,dx,fs,fam,ex,ea,l,q⟩:=q_z;subst ex;obtain rfl:u = Value.ref a:=rx;obtain ⟨c,⟨f,fd,hm,F,hb⟩⟩:=D.ex C fam;refine yK I1 ea c hm l ?_;refine PySem.W.callWith_K (first:=[.ref a]) (h₀:=X.base) I.ok.mod.kin hm.kp (thn (ha pos pins s1 σ H1 _ I1 q) fun us s2=>el5 fun vs H2 I2 r q2=>#[I2.kIn,?_]) hst hpl;exact qK (us:=.ref a :: us) (vs:=.ref a :: vs) F (hr.mono hj) hb .nil kR I2 (.cons rfl r) q2
end
section
variable {X:Cx}
def xB (K:PySem.W.Frag):List V -> Hp -> VK -> Prop:=fun xs H Q=>∃ (p:Addr) (ns:List Int),xs = [.ref p] /\ SqL K H p (ns.map V.int) /\ Q (.int ns.sum) H
end
end L3
namespace L3
open PySem PySem.Spec PyProof.Rows L2
theorem kd (l:()):((Builtin.Str.strSliceIndices none none (-1) (tx l).length).filterMap ((tx l).cps[·]?)) = l.reverse:=by
 rw [zL,picked_rev];have e:(tx l).cps = l.toArray:=rfl;rw [e];apply List.ext_getElem?;intro i
 have h:((List.range l.length).map fun k=>l.length - 1 - k).filterMap (l.toArray[·]?) =(List.range l.length).map fun k=>l.getD (l.length - 1 - k) 0:=by
  rw [filterMap_get,List.map_map]
  ·refine List.map_congr_left fun k _=>?_;show l.toArray.getD (l.length - 1 - k) 0 = _;simp [Array.getD,List.getD];split <;> simp_all
  ·intro i hi;obtain ⟨k,hk,rfl⟩:=aa.mp hi;have:=aj.mp hk;show _ < l.toArray.size;rw [List.size_toArray];lia
 rw [h];by_cases hi:i < l.length
 ·rw [List.getElem?_reverse hi,List.getElem?_map,List.getElem?_range hi];show some (l.getD (l.length - 1 - i) 0) = _;rw [List.getD_eq_getElem?_getD,List.getElem?_eq_getElem ⋯];rfl
 ·rw [List.getElem?_eq_none (by simp; lia),List.getElem?_eq_none (by simp; lia)]
def xz (te ts:TE):TE:=fun σ H Q=>te σ H fun x H1=>ts σ H1 fun y H2=>y = .int (-1) /\ ∃ l:(),x = .str (tx l) /\ l.length <= sizeLine /\ Q (.str (tx l.reverse)) H2
section
variable {X:Cx} {e st:Expr} {te ts:TE} {pos p2:Pos}
theorem UQ (he:PE X e te) (hs:PE X st ts):PE X (.Subscript e (.Slice none none (some st) p2) pos) (xz te ts):=by
 intro pins s σ H Q I h;refine Subscript_ (thn (he pins s σ H _ I h) fun v s1=>el5 fun x H1 I1 r1 q1=>?_);refine wpAny_Slice ?_;rw [evalPart_none];refine wpAny_pure (wpAny_pure ?_);rw [evalPart_some];refine thn (hs pins s1 σ H1 _ I1 q1) fun u s2=>el5 fun y H2 I2 r2 q_z=>?_;obtain ⟨ey,l,ex,hl,q2⟩:=q_z;subst ey ex;obtain ⟨t,rfl⟩:=r1;obtain ⟨tk,rfl⟩:=r2;have I4:Inv X pins σ H2 { s2 with heap:=s2.heap.push { cls:=.type "slice",data:=.fields (List.toArray [.none,.none,.int (-1) tk]) } }:=I2.kept (t':=s2.toks) fun b ob q=>Heap.get?_push_of_some _ q;show wpAny (model X.prog X.w) X.A (subscriptTail e (.Slice none none (some st) p2) (.str (tx l) t) (.ref s2⁻¹)) (EP X pins σ Q) X.xe { s2 with heap:=s2.heap.push { cls:=.type "slice",data:=.fields (List.toArray [.none,.none,.int (-1) tk]) } };refine tail_any (ops:=[.ref s2⁻¹,.str (tx l) t]) (typeIs_str _ (tx l) t) slot_str_getitem.lookup ?_ (by with_unfolding_all rfl);refine wpAny_getItem_str_slice (l:=none) (u:=none) (st:=some (-1,tk)) (Heap.IsSliceOf.new ..) rfl ?_;unfold sliceMade slicePicked
 have hc':¬ (((some ((-1:Int),tk)).map (·.1)).getD 1 == 1 && (Builtin.Str.strSliceIndices ((none:Option (Int × Tok)).map (·.1)) ((none:Option (Int × Tok)).map (·.1)) (((some ((-1:Int),tk)).map (·.1)).getD 1) (tx l).length).length ==(tx l).length) = true:=by
  have:(((some ((-1:Int),tk)).map (·.1)).getD 1 == 1) = false:=rfl;rw [this];simp
 rw [if_neg hc']
 have e:Str.mk ((Builtin.Str.strSliceIndices none none (-1) (tx l).length).filterMap ((tx l).cps[·]?)).toArray = tx l.reverse:=by
  rw [kd]
 show (Str.mk ((Builtin.Str.strSliceIndices none none (-1) (tx l).length).filterMap ((tx l).cps[·]?)).toArray).length <= sizeLine /\ _;rw [e];refine #[by rw [zL,List.length_reverse]; exact hl,?_]
 exact #[.str (tx l.reverse),H2,I4.tok _,#[_,by
  show Value.str (Str.mk ((Builtin.Str.strSliceIndices none none (-1) (tx l).length).filterMap ((tx l).cps[·]?)).toArray) _ = _
  rw [e]],q2]
end
end L3
namespace L3
open PySem PySem.Spec PyProof.Rows L2
section
variable {X:Cx} {k j:Nat} {C:Addr} {m x:Str} {ps:List Str} {sp:Sp} {e:Expr} {es:List Expr} {t:TA} {apos pos p:Pos}
def zD:V -> List V -> Hp -> VK -> Prop:=fun x xs H Q=>∃ (z y:Str) (i:Nat),x = .str z /\ xs = [.str y] /\ PySem.Txt.find z y =(i:Int) /\ Q (.int (i:Nat)) H
theorem V1:MtR X "str.index" zD:=by
 intro pins s σ H x xs v us Q I rx rv h;obtain ⟨z,y,i,rfl,rfl,hf,q⟩:=h;obtain ⟨t,rfl⟩:=rx;obtain ⟨u,rfl,t',rfl⟩:=xa rv;unfold PySem.Txt.find at hf
 cases ho:Builtin.Str.occurrences z y 0 z.length 1 with
 | nil=>rw [ho]at hf; dsimp only at hf; lia
 | cons a r =>
  rw [ho]at hf;have:a = i:=by dsimp only at hf; lia
  subst this;exact PySem.SC.index ho #[.int _,H,I.tok _,#[_,rfl],q]
end
end L3
namespace L3
open PySem PySem.Spec PyProof.Rows L2
section
variable {prog:Program} {w:World} {A:Around} {E:Value -> Shared -> Prop} {s:Shared}
end
end L3
namespace L3
open PySem PySem.Spec PyProof.Rows L2
section
variable {prog:Program} {w:World} {A:Around} {E:Value -> Shared -> Prop} {s:Shared}
end
end L3
namespace L3
open PySem PySem.Spec PyProof.Rows L2
noncomputable def Izs (K:PySem.W.Frag) (l:()) (b:Addr):It:=#[fun i H=>∃ ys y,SqT K H b ys /\ i < l.length /\ ys[i]? = some y,fun i H v H'=>∃ p c y,H p = none /\ l[i]? = some c /\ (∀ ys,SqT K H b ys -> ys[i]? = some y) /\ v = .ref p /\ H' = upd H p (.tup [.str (tx [c]),y]),fun i H=>i = l.length]
section
variable {X:Cx}
def iZs (K:PySem.W.Frag) (ta:TA):TI:=fun σ H R=>ta σ H fun vs H1=>∃ l b,vs = [.str (tx l),.ref b] /\ (∃ ys,SqT K H1 b ys) /\ R (Izs K l b) H1
end
def JJ (K:PySem.W.Frag) (l:()) (b:Addr) (g:TG) (tt:TT) (te:TE) (own:Nat) (ix:()) (σ:L2.St) (H1:Hp) (Q:VK) (D:Addr):Prop:=YQ (Izs K l b) g tt te own ix σ H1 Q D
theorem zZ {K:PySem.W.Frag} {ta:TA} {g:TG} {tt:TT} {te:TE} {own:Nat} {ix:()} {σ:L2.St} {H:Hp} {Q:VK}:vn (iZs K ta) g tt te own ix σ H Q = ta σ H fun vs H1=>∃ l b,vs = [.str (tx l),.ref b] /\ (∃ ys,SqT K H1 b ys) /\ ∀ D,H1 D = none -> JJ K l b g tt te own ix σ H1 Q D:=rfl
section
variable {g:TG} {tt:TT} {te:TE} {own:Nat} {ix:()} {σ:L2.St} {H1:Hp} {Q:VK} {D:Addr}
end
end L3
namespace L3
open PySem PySem.Spec PyProof.Rows L2
section
variable {X:Cx} {k1 k2 k3 j:Nat} {C1 C2 C3:Addr} {m:Str} {ps:List Str} {s1 s2 s3:Sp} {o e:Expr} {es:List Expr} {ta:TE} {t:TA} {apos pos p:Pos} {E:XK}
def xl (t1 t2:TE):TE:=fun σ H Q=>t1 σ H Q \/ t2 σ H Q
theorem Va {t1 t2:TE} (h1:PE X e t1) (h2:PE X e t2):PE X e (xl t1 t2):=by
 intro pins s σ H Q I h;rcases h with h | h
 ·exact h1 pins s σ H Q I h
 ·exact h2 pins s σ H Q I h
theorem Ji (D1:DM X.prog X.w X.K X.mg X.base CX0 k1 C1 m ps s1) (D2:DM X.prog X.w X.K X.mg X.base CX0 k2 C2 m ps s2) (D3:DM X.prog X.w X.K X.mg X.base CX0 k3 C3 m ps s3) (c1:Cls X.K C1) (c2:Cls X.K C2) (c3:Cls X.K C3) (hr:Room j X.A) (he:PE X o ta) (ha:PA X (e :: es) t) {pl:Sem Bool}
    (hst:starEach (e :: es) X.env =(false,eval e X.env) :: starEach es X.env:=by rfl) (hpl:(backTo pos (starEach es X.env)).any (·.1) = false:=by rfl)
    (ht:eval (.Call (.Attribute o m apos) (e :: es) [] pos) X.env =(do
      let ov <- eval o X.env
      standAt apos.atName
      let (f,first) <- holding [ov] (getMethod ov m pl)
      callWith pos f first (backTo pos (starEach (e :: es) X.env)) (backToKw pos (keywordEach [] X.env))):=by rfl) (h1:k1 <= j:=by decide) (h2:k2 <= j:=by decide) (h3:k3 <= j:=by decide) :
    PE X (.Call (.Attribute o m apos) (e :: es) [] pos) (xl (uR C1 m s1 [] E0 ta t) (xl (uR C2 m s2 [] E0 ta t) (uR C3 m s3 [] E0 ta t))) :=
  Va (me1 (pl:=pl) D1 c1 hr he ha hst hpl ht h1) (Va (me1 (pl:=pl) D2 c2 hr he ha hst hpl ht h2) (me1 (pl:=pl) D3 c3 hr he ha hst hpl ht h3))
end
end L3
namespace L3
open PySem PySem.Spec PyProof.Rows L2
section
variable {X:Cx}
end
end L3
namespace L3
open PySem PySem.Spec PyProof.Rows L2
section
variable {X:Cx}
end
end L3
namespace L3
open PySem PySem.Spec PyProof.Rows L2 PySem.W PySem.Calls
def wM (n:Int):Prop:=Builtin.Int.intBits n <= 1048576
theorem WG:∀ (ns:List Int),WData.weightAll (ns.map WData.int) <= 1048576 -> ∀ n ∈ ns,wM n
 | [],_,n,h=>nomatch h
 | m :: ns,hw,n,h=>by
  rw [List.map_cons,WData.weightAll]at hw;rcases ac.mp h with rfl | h
  ·have e:WData.weight (.int n) = Builtin.Int.intBits n:=by
    rw [WData.weight];rfl
   unfold wM;lia
  ·exact WG ns ⋯ n h
section
variable {X:Cx}
theorem Wb {i j:Int} (hi:wM i) (hj:wM j):IntMulOk i j:=by
 unfold IntMulOk Builtin.Int.intTooBig;unfold wM at hi hj;have:(bitsLine:Nat) = 134217728:=rfl;simp;intro _ _;lia
theorem Xz:OpR X (binaryOp .Mult) (rI (fun i j=>wM i /\ wM j) fun i j=>.int (i * j)):=opI fun _ _ _ _ _ _ _ hc q=>mul_int q (Wb hc.1 hc.2)
end
theorem qi {l:OpenLaw} {n:Nat} {q:Program} {loose:List Str} {XP:(Str -> Option Value) -> Heap -> Prop} {YP:World -> Heap -> Prop} {d:DefRec}
  (hn:l.most = some n) (hdf:d.params.defaults = [])
  (call:∀ (w:World) (s₀ s₁:Shared) (mg mb:Str -> Option Value) (fa:Addr) (o:Obj) (pm cd doc:Value) (a:Addr) (vs:List Value) (ns:List Int),
   Ground q loose [] XP w s₀ mg mb s₁.heap -> YP w s₁.heap ->
   s₁.heap.get? fa = some o -> o.data = .func (docDef d.name d.params d.body d.scope pm cd doc) -> s₁.heap.CodeRec cd d.name -> mg d.name = some (.ref fa) ->
   s₁.heap.get? a = some { cls:=.type "list",data:=.seq vs.toArray } -> IntsAre vs ns -> ns.length <= n -> (∀ z ∈ ns,wM z) -> s₁.gens = #[] ->
   codeAny (model l.prog w) callerA (.call (.ref fa) #[[.ref a],[]]) (fun r s'=>r = .ok (.ret (.bool true)) /\ OldK s₁.heap s'.heap /\ s'.os = s₁.os /\ AllBare s'.gens) s₁) :
  WalkO q loose XP YP l.row.toRowW d [] (fun f vs=>PySem.call f vs):=by
 intro w s₀ s₁ mg mb G Y fa o pm cd doc dV kV ho hd hcd hD hmg hg args vals as hpre hlay hrd hwl hlo;obtain rfl:dV = .none:=Dflts.none hD hdf;obtain rfl:kV = .none:=Dflts.noKw hD;obtain ⟨a,vs,ns,rfl,rfl,hobj,hints,hlen⟩:=Att.script_of hn hpre hwl
 have hb:∀ z ∈ ns,wM z:=by
  refine WG ns ?_
  have h1:WData.layable (WData.list (ns.map WData.int)) = true:=by
   have:=hlay;unfold WData.layableAll at this;simpa using this
  unfold WData.layable at h1;simp only [Bool.and_eq_true,decide_eq_true_eq]at h1;have h2:=h1.2;rw [WData.weight]at h2;exact h2
 refine enter_call (codeAny_mono (call w s₀ s₁ mg mb fa o pm cd doc a vs ns G Y ho (fd_plain hd) hcd hmg hobj hints hlen hb hg) fun r s' hq=>?_);obtain ⟨rfl,h2,h3,h4⟩:=hq;exact #[.inl #[.bool true,.bool true,[],rfl,fun _=>rfl,.bool true,Att.post_true l _,fun _=>#[List.Pairwise.nil,fun _ hm=>(nomatch hm)]],h2,h3,h4]
end L3
namespace L3
open PySem PySem.Spec PyProof.Rows L2
section
variable {X:Cx} {k j:Nat} {C:Addr} {x f':Str} {ps:List Str} {sp:Sp} {e:Expr} {es:List Expr} {t:TA} {te:TX} {pos p:Pos}
end
section
variable {X:Cx} {k j:Nat} {C:Addr} {m x:Str} {ps:List Str} {sp:Sp} {e:Expr} {es:List Expr} {t:TA} {apos pos p:Pos} {E:XK}
end
end L3
namespace L3
open PySem PySem.Spec PyProof.Rows L2
section
variable {prog:Program} {w:World} {A:Around} {E:Value -> Shared -> Prop} {s:Shared} {env:Env}
end
end L3
namespace L3
open PySem PySem.Spec PyProof.Rows L2
theorem XEg.xe {X:Cx} {E:XK} (h:XEg X E):XE X E:=fun e s hz=>by
 obtain ⟨pins,σ,H,x,C,t,dx,tb,q⟩:=hz;exact h e s #[.none,false,pins,σ,H,x,C,t,dx,tb,q]
section
variable {X:Cx} {k:Nat} {ps:List Str} {sp:Sp} {ds:List Value} {dvs:List V} {E:XK} {x:Str} {p pos:Pos} {e:Expr} {es:List Expr} {t:TA}
end
section
variable {X:Cx} {o e:Expr} {to:TE} {te:TX} {name:Str} {apos cpos:Pos} {T id:String} {r:V -> List V -> Hp -> VK -> Prop}
end
section
variable {X:Cx}
end
section
variable {X:Cx} {k j:Nat} {C:Addr} {ps:List Str} {sp:Sp} {e:Expr} {es:List Expr} {t:TA} {pos p:Pos} {x:Str}
end
end L3
namespace L3
open PySem PySem.Spec PyProof.Rows L2
theorem jk (x y:Str) (i j:Int) (t u v v':Tok):Gives (Builtin.«str.find» #[[.str x t,.str y u,.int i v,.int j v'],[]]) (.int (match Builtin.Str.occurrences x y (fromIndex x.length i) (min (fromIndex x.length j) x.length) 1 with | k :: _=>(k:Int) | []=>-1)):=by
 show Gives (match Builtin.Str.occurrences x y (fromIndex x.length i) (min (fromIndex x.length j) x.length) 1 with | k :: _=>retInt k | []=>(do rule "str.find.not-found"; retInt (-1))) _
 cases Builtin.Str.occurrences x y (fromIndex x.length i) (min (fromIndex x.length j) x.length) 1 with
 | nil=>exact .rule (.of_eq rfl)
 | cons k _=>exact .of_eq rfl
theorem ji (x y:Str) (lo hi:Nat) :
  (Builtin.Str.occurrences x y lo hi 1 = [] /\ ∀ i,lo <= i -> ¬ StrLaws.At x y hi i) \/
  ∃ i r,Builtin.Str.occurrences x y lo hi 1 = i :: r /\ lo <= i /\ StrLaws.At x y hi i /\ ∀ k,lo <= k -> k < i -> ¬ StrLaws.At x y hi k:=by
 rw [StrLaws.occ_eq];rcases StrLaws.occ_first x y hi 1 (Nat.le_refl 1) (List.range' lo (hi + 1 - lo)) lo (fun i hm=>(List.mem_range'_1.mp hm).1)with ⟨e,no⟩ | ⟨pre,a,post,e,e0,at_a,no⟩
 ·exact .inl #[by rw [e],fun i h1 h2=>no i (by have:=h2.1; rw [List.mem_range'_1]; lia) h2]
 ·have sp:=StrLaws.range'_split_from e;generalize (forIn (List.range' lo (hi + 1 - lo)) ((#[]:Array Nat),lo) (StrLaws.occBody x y hi 1)).run.fst = z at e0 ⊢;obtain ⟨zs⟩:=z
  cases zs with
  | nil=>simp at e0
  | cons b r =>
   have:b = a:=by simpa using e0
   subst this;exact .inr #[b,r,rfl,sp.1,at_a,fun k h1 h2=>no k (sp.2 k h1 h2)]
theorem JN (l p:()) (hi i:Nat):StrLaws.At (tx l) (tx p) hi i ↔ i + p.length <= hi /\ (l.drop i).take p.length = p:=by
 unfold StrLaws.At Builtin.Str.subAt;rw [zL,beq_iff_eq]
 have e1:((tx l).cps.extract i (i + p.length)).toList =(l.drop i).take p.length:=by
  show (l.toArray.extract i (i + p.length)).toList = _;simp [List.extract_eq_drop_take]
 have e2:((tx l).cps.extract i (i + p.length) =(tx p).cps) ↔ (l.drop i).take p.length = p:=by
  constructor
  ·intro h;rw [<- e1,h]
  ·intro h;apply Array.toList_inj.mp;rw [e1,h]
 rw [e2]
def WQ:V -> List V -> Hp -> VK -> Prop:=fun x xs H Q=>∃ (l p:()) (lo hi:Int),x = .str (tx l) /\ xs = [.str (tx p),.int lo,.int hi] /\ 0 <= lo /\ 0 <= hi /\ ∀ r:Int,((r = -1 /\ ∀ q:Nat,lo <= q -> (q:Int) + p.length <= hi -> q + p.length <= l.length -> (l.drop q).take p.length ≠ p) \/ ∃ k:Nat,r = k /\ lo <= k /\ (k:Int) + p.length <= hi /\ k + p.length <= l.length /\ (l.drop k).take p.length = p /\ ∀ q:Nat,lo <= q -> q < k -> (l.drop q).take p.length ≠ p) -> Q (.int r) H
theorem Vn {X:Cx}:MtR X "str.find" WQ:=by
 intro pins s σ H x xs v us Q I rx rv h;obtain ⟨l,p,lo,hi,rfl,rfl,h0,h1,q⟩:=h;obtain ⟨t,rfl⟩:=rx
 cases rv with
 | cons r1 r2 =>
  cases r2 with
  | cons r2 r3 =>
   obtain ⟨w3,rfl,t3,rfl⟩:=xa r3;obtain ⟨t1,rfl⟩:=r1;obtain ⟨t2,rfl⟩:=r2;have f0:fromIndex (tx l).length lo = lo.toNat:=by unfold fromIndex; rw [if_neg ⋯]; lia
   have f1:fromIndex (tx l).length hi = hi.toNat:=by unfold fromIndex; rw [if_neg ⋯]; lia
   refine call_gives F.slot_str_find (typeIs_str _ _ _) F.entry_str_find (F.args_str_find_4 _ _ _ _) (jk _ _ lo hi t t1 t2 t3) ?_;refine #[.int _,H,I.tok _,#[_,rfl],q _ ?_];rw [f0,f1];have hm:∀ k:Nat,k + p.length <= min hi.toNat (tx l).length ↔ (k:Int) + p.length <= hi /\ k + p.length <= l.length:=fun k=>by rw [zL]; lia
   rcases ji (tx l) (tx p) lo.toNat (min hi.toNat (tx l).length)with ⟨e,no⟩ | ⟨i,r,e,hl,ha,no⟩
   ·rw [e];exact .inl #[rfl,fun k k1 k2 k3 k4=>no k ⋯ ((JN l p _ k).mpr #[(hm k).mpr #[k2,k3],k4])]
   ·rw [e];obtain ⟨a1,a2⟩:=(JN l p _ i).mp ha;obtain ⟨b1,b2⟩:=(hm i).mp a1;exact .inr #[i,rfl,⋯,b1,b2,a2,fun k k1 k2 k4=>no k ⋯ k2 ((JN l p _ k).mpr #[(hm k).mpr #[⋯,⋯],k4])]
end L3
set_option linter.unusedVariables false
namespace L3
open PySem PySem.Spec PyProof.Rows L2
section
variable {X:Cx}
end
end L3
namespace L3
open PySem PySem.Spec PyProof.Rows L2
section
variable {prog:Program} {w:World} {A:Around} {R:Result -> Shared -> Prop} {I l S:Addr}
theorem ZI (hh:A.handled = none) (hlI:l ≠ I) (hSI:S ≠ I) (hSl:S ≠ l) (xs:Array Value) (val:Nat -> Int) (hv:∀ i v,xs[i]? = some v -> ∃ t,v = Value.int (val i) t) (d:Value) :
  ∀ (k j:Nat) (z:Int) (t:Tok) (s:Shared) (c:Nat),xs.size - j = k -> j <= xs.size -> (∀ i,i < j -> val i <= z) -> s.heap.IsListIter I l j -> s.heap.IsList l xs -> s.heap.get? S = some (seqObj "list" (List.toArray [.int z t,.int z t]) c) ->
   (∀ z' t' h' tk,(∀ i,i < xs.size -> val i <= z') -> (∀ b o,b ≠ I -> b ≠ S -> s.heap.get? b = some o -> h'.get? b = some o) -> R (.ok (.ret (.int z' t'))) { s with heap:=h',toks:=tk }) ->
   codeAny (model prog w) A (.builtin "max.loop" #[[.ref I,.none,.ref S],[(Str.ofString "default",d)]]) R s:=by
 have nm:(toString "max" ++ toString ".loop" : String) = "max.loop":=∅;have W:=Walks.list (prog:=prog) (w:=w) (A:=A.in1) hh I l hlI xs;intro k
 induction k with
 | zero =>
  intro j z t s c hk hj hz hit hl hS hR;have e:j = xs.size:=⋯;refine codeAny_builtin (b:=Builtin.«max.loop») PySem.F.entry_max_loop ?_;rw [Around.under_plainId (id:="max.loop") PySem.F.plain_max_loop _];show wpAny _ A.in1 (seqItems? (Value.ref S) >>= _) _ _ s;refine wpAny_bind (wpAny_seqItems (items:=(List.toArray [.int z t,.int z t])) hS rfl ?_);show wpAny _ A.in1 (tryCatch (pyNext (Value.ref I)) _ >>= _) _ _ s;refine wpAny_bind (wpAny_tryCatch (W.done s _ _ #[e ▸ hit,hl] fun h' tk kp=>?_));have hS':=kp S _ (by simpa using hSI) hS;show wpAny _ A.in1 (updateSeq S (fun _=>(#[]:Array Value)) >>= _) _ _ _;refine wpAny_bind (wpAny_updateSeq hS' rfl (wpAny_bind (wpAny_letGo (wpAny_pure ?_))));exact hR z t _ tk (fun i hi=>hz i ⋯) fun b o hb hb' q=>(Heap.get?_update_other _ _ (Ne.symm hb')).trans (kp b o (by simpa using hb) q)
 | succ k ih =>
  intro j z t s c hk hj hz hit hl hS hR;refine codeAny_builtin (b:=Builtin.«max.loop») PySem.F.entry_max_loop ?_;rw [Around.under_plainId (id:="max.loop") PySem.F.plain_max_loop _];show wpAny _ A.in1 (seqItems? (Value.ref S) >>= _) _ _ s;refine wpAny_bind (wpAny_seqItems (items:=(List.toArray [.int z t,.int z t])) hS rfl ?_);show wpAny _ A.in1 (tryCatch (pyNext (Value.ref I)) _ >>= _) _ _ s;refine wpAny_bind (wpAny_tryCatch (W.item j s _ _ ⋯ #[hit,hl] fun v h' tk hP st kp=>?_));obtain ⟨t2,rfl⟩:=hv j v hP;have hS':=kp S _ (by simpa using hSI) hS;show wpAny _ A.in1 (tryCatch (holding [Value.int (val j) t2,Value.int (val j) t2] (richCompare .Gt (.int (val j) t2) (.int z t) >>= _)) _ >>= _) _ _ _;refine wpAny_bind (wpAny_tryCatch (wpAny_holding (wpAny_bind (CmpOf.ints_gt (prog:=prog) (w:=w) (A:=A.in1) (P:=fun i v=>∃ t,v = Value.int (if i = 0 then val j else z) t) (fun i=>if i = 0 then val j else z) (fun i v h=>h) 0 1 _ _ _ _ _ #[t2,rfl] #[t,rfl] ?_))));refine wpAny_bind (wpAny_holding (wpAny_truthy_bool (wpAny_bind (wpAny_letGo (wpAny_pure ?_)))));by_cases g:val j > z
  ·simp only [if_true,Nat.one_ne_zero,if_false,g,decide_true];refine wpAny_bind (wpAny_updateSeq hS' rfl (wpAny_bind (wpAny_letGo ?_)));rw [nm];refine wpAny_pure #[plainId_quiet PySem.F.plain_max_loop _,ih (j + 1) (val j) t2 _ _ ⋯ ⋯ (fun i hi=>?_) (W.frame _ _ _ st fun b hb o q=>?_).1 (W.frame _ _ _ st fun b hb o q=>?_).2 (get?_update_seq hS' _) fun z' t' h'' tk'' a1 a2=>hR z' t' h'' tk'' a1 fun b o hb hb' q=>a2 b o hb hb' ((Heap.get?_update_other _ _ (Ne.symm hb')).trans (kp b o (by simpa using hb) q))]
   ·by_cases e:i = j
    ·rw [e];exact Int.le_refl _
    ·have:=hz i ⋯;lia
   all_goals
    refine (Heap.get?_update_other _ _ (fun e:S = b=>?_)).trans q;subst e;rcases ac.mp hb with e | e
    ·exact hSI e
    ·exact hSl (ag.mp e)
  ·simp only [if_true,Nat.one_ne_zero,if_false,g,decide_false,Bool.false_eq_true];refine wpAny_bind (wpAny_letGo ?_);rw [nm];refine wpAny_pure #[plainId_quiet PySem.F.plain_max_loop _,ih (j + 1) z t _ _ ⋯ ⋯ (fun i hi=>?_) st.1 st.2 hS' fun z' t' h'' tk'' a1 a2=>hR z' t' h'' tk'' a1 fun b o hb hb' q=>a2 b o hb hb' (kp b o (by simpa using hb) q)];by_cases e:i = j
   ·rw [e];lia
   ·exact hz i ⋯
theorem ZH (a v:Value):argsOk "max" #[[a],[(Str.ofString "default",v)]]:=by unfold argsOk; kernel_rfl
theorem ZU {E:Value -> Shared -> Prop} {s:Shared} {Q:Value -> Shared -> Prop} (hh:A.handled = none) (xs:Array Value) (val:Nat -> Int) (hv:∀ i v,xs[i]? = some v -> ∃ t,v = Value.int (val i) t) (hl:s.heap.IsList l xs) (d:Value)
  (h:∀ v h' tk,(xs.size = 0 -> v = d) -> (0 < xs.size -> ∃ z t,v = Value.int z t /\ ∀ i,i < xs.size -> val i <= z) -> (∀ b o,s.heap.get? b = some o -> h'.get? b = some o) -> Q v { s with heap:=h',toks:=tk }) :
  wpAny (model prog w) A (call (.builtin "max") [.ref l] [(Str.ofString "default",d)]) Q E s:=by
 have nm:(toString "max" ++ toString ".loop" : String) = "max.loop":=∅;have hlt:l < s⁻¹:=by obtain ⟨_,e,_⟩:=hl; exact Heap.lt_size e
 refine kmb_tree PySem.F.kind_max PySem.F.plain_max PySem.F.entry_max (ZH _ _) ?_;show wpAny _ A.in1 (Builtin.Builtins.bindParams "max" ["key", "default"] 0 #[[],[(Str.ofString "default",d)]] >>= _) _ _ s;refine wpAny_bind (wpAny_of_eq (show Builtin.Builtins.bindParams "max" ["key", "default"] 0 #[[],[(Str.ofString "default",d)]] = pure [none,some d]from rfl) (wpAny_bind (wpAny_pure ?_)));refine wpAny_bind (wpAny_pyIter_list hl (wpAny_bind (wpAny_newList ?_ (Nat.zero_le _))));rw [nm];refine wpAny_pure #[plainId_quiet PySem.F.plain_max_loop _,?_];have gI:(s.heap.push { cls:=.type "list_iterator",data:=.fields (List.toArray [.ref l,.int 0 0]) }).IsListIter s⁻¹ l 0:=#[_,Heap.get?_push_size _ rfl,rfl,rfl];have gl:=hl.push { cls:=.type "list_iterator",data:=.fields (List.toArray [.ref l,.int 0 0]) };have kp0:∀ b o,s.heap.get? b = some o -> (s.heap.push { cls:=.type "list_iterator",data:=.fields (List.toArray [.ref l,.int 0 0]) }).get? b = some o:=fun b o q=>Heap.get?_push_of_some _ q;have hsz:(s.heap.push { cls:=.type "list_iterator",data:=.fields (List.toArray [.ref l,.int 0 0]) }).objs.size = s⁻¹ + 1:=Heap.size_push _ _;have hold:∀ b o,s.heap.get? b = some o -> b < s⁻¹:=fun b o q=>Heap.lt_size q;have hlI:l ≠ s⁻¹:=Nat.ne_of_lt hlt;generalize s.heap.push { cls:=.type "list_iterator",data:=.fields (List.toArray [.ref l,.int 0 0]) } = h1 at *;generalize hIe:s⁻¹ = I at *;have W:=Walks.list (prog:=prog) (w:=w) (A:=A.in1) hh I l hlI xs;have gS:(h1.push { cls:=.type "list",data:=.seq ([]:List Value).toArray }).get? h1.objs.size = some (seqObj "list" #[] 0):=Heap.get?_push_size _ rfl;have st0:=W.frame 0 _ (h1.push { cls:=.type "list",data:=.seq ([]:List Value).toArray }) #[gI,gl] fun b _ o q=>Heap.get?_push_of_some _ q;have kp1:∀ b o,s.heap.get? b = some o -> (h1.push { cls:=.type "list",data:=.seq ([]:List Value).toArray }).get? b = some o:=fun b o q=>Heap.get?_push_of_some _ (kp0 b o q);have hSI:h1.objs.size ≠ I:=by rw [hsz]; exact Nat.succ_ne_self I
 have hSl:h1.objs.size ≠ l:=by rw [hsz]; exact Nat.ne_of_gt (Nat.lt_succ_of_lt hlt)
 have hSb:∀ b o,s.heap.get? b = some o -> b ≠ I /\ b ≠ h1.objs.size:=fun b o q=>#[Nat.ne_of_lt (hold b o q),by rw [hsz]; exact Nat.ne_of_lt (Nat.lt_succ_of_lt (hold b o q))];generalize h1.push { cls:=.type "list",data:=.seq ([]:List Value).toArray } = h2 at *;generalize h1.objs.size = S at *;refine codeAny_builtin (b:=Builtin.«max.loop») PySem.F.entry_max_loop ?_;rw [Around.under_plainId (id:="max.loop") PySem.F.plain_max_loop _];show wpAny _ A.in1 (seqItems? (Value.ref S) >>= _) _ _ _;refine wpAny_bind (wpAny_seqItems (items:=#[]) gS rfl ?_);show wpAny _ A.in1 (tryCatch (pyNext (Value.ref I)) _ >>= _) _ _ _;by_cases hz:xs.size = 0
 ·refine wpAny_bind (wpAny_tryCatch (W.done _ _ _ (by rw [hz]; exact st0) fun h' tk kp=>?_));show wpAny _ A.in1 (rule _ >>= fun _=>_) _ _ _;refine wpAny_bind (wpAny_rule (wpAny_pure ?_));exact h d h' tk (fun _=>rfl) (fun q=>absurd q ⋯) fun b o q=>kp b o (by simpa using (hSb b o q).1) (kp1 b o q)
 ·refine wpAny_bind (wpAny_tryCatch (W.item 0 _ _ _ ⋯ st0 fun v h' tk hP st kp=>?_));obtain ⟨t,rfl⟩:=hv 0 v hP;have hS':=kp S _ (by simpa using hSI) gS;show wpAny _ A.in1 (updateSeq S (fun _=>(List.toArray [Value.int (val 0) t,Value.int (val 0) t])) >>= _) _ _ _;refine wpAny_bind (wpAny_updateSeq hS' rfl ?_);rw [nm]
  have st':=W.frame _ _ (h'.update S (Obj.mapSeq fun _=>(List.toArray [Value.int (val 0) t,Value.int (val 0) t]))) st fun b hb o q=>by
   refine (Heap.get?_update_other _ _ (fun e:S = b=>?_)).trans q;subst e;rcases ac.mp hb with e | e
   ·exact hSI e
   ·exact hSl (ag.mp e)
  refine wpAny_pure #[plainId_quiet PySem.F.plain_max_loop _,ZI hh hlI hSI hSl xs val hv d _ 1 (val 0) t _ _ rfl ⋯ (fun i hi=>?_) st'.1 st'.2 (get?_update_seq hS' _) fun z' t' h'' tk'' a1 a2=>?_]
  ·have:i = 0:=⋯;rw [this];exact Int.le_refl _
  ·exact h _ h'' tk'' (fun q=>absurd q hz) (fun _=>#[z',t',rfl,a1]) fun b o q=>a2 b o (hSb b o q).1 (hSb b o q).2 ((Heap.get?_update_other _ _ (Ne.symm (hSb b o q).2)).trans (kp b o (by simpa using (hSb b o q).1) (kp1 b o q)))
end
section
variable {X:Cx} {id:String} {x:Str} {e:Expr} {es:List Expr} {kws:List Keyword} {ks:List Str} {p pos:Pos} {t tk:TA}
def Wr (X:Cx) (id:String) (ks:List Str) (r:List V -> List V -> Hp -> VK -> Prop):Prop :=
 ∀ (pins:List (Addr × Obj)) (s:Shared) (σ:L2.St) (H:Hp) (vs zs:List V) (us ws:List Value) (Q:VK),Inv X pins σ H s -> Vals vs us -> Vals zs ws -> r vs zs H Q -> wpAny (model X.prog X.w) X.A (call (.builtin id) us (ks.zip ws)) (EP X pins σ Q) X.xe s
def KY (r:List V -> List V -> Hp -> VK -> Prop) (t tk:TA):TE:=fun σ H Q=>t σ H fun vs H1=>tk σ H1 fun zs H2=>r vs zs H2 Q
theorem Yx {r:List V -> List V -> Hp -> VK -> Prop} (hc:Wr X id ks r) (hg:Gl X x) (hm:X.mg x = none) (hv:bootBuiltins x = some (.builtin id)) (ha:PA X (e :: es) t) (hk:PK X kws tk) (hks:(backToKw pos (keywordEach kws X.env)).filterMap (·.1) = ks:=by rfl) (hn:x ≠ "__name__":=by decide) (hdb:(x ==("__debug__" : Str)) = false:=by decide)
  (he:backTo pos (starEach (e :: es) X.env) =(false,eval e X.env) :: backTo pos (starEach es X.env):=by rfl) (hpl:(backTo pos (starEach (e :: es) X.env)).any (·.1) = false:=by rfl)
  (hall:(backToKw pos (keywordEach kws X.env)).all (·.1.isSome) = true:=by rfl) (hkw:(backToKw pos (keywordEach kws X.env)).any (·.1.isNone) = false:=by rfl):PE X (.Call (.Name x p) (e :: es) kws pos) (KY r t tk):=by
 intro pins s σ H Q I h;refine wpAny_Call_Name_kw (xR I hg hm hv ?_ hn hdb);refine callWith_kw (thn (ha pos pins s σ H _ I h) fun us s1=>el5 fun vs H1 I1 r1 q1=>thn (hk pos pins s1 σ H1 _ I1 q1) fun ws s2=>el5 fun zs H2 I2 r2 q2=>?_) he hpl hall hkw;rw [hks];exact hc pins s2 σ H2 vs zs us ws Q I2 r1 r2 q2
def J7 (K:PySem.W.Frag):List V -> List V -> Hp -> VK -> Prop:=fun vs zs H Q=>∃ (a:Addr) (ns:List Int) (d:Int),vs = [.ref a] /\ zs = [.int d] /\ SqL K H a (ns.map V.int) /\ ∀ z:Int,(ns = [] -> z = d) -> (∀ n ∈ ns,n <= z) -> Q (.int z) H
theorem Qr (hc:X.calm = true):Wr X "max" [Str.ofString "default"] (J7 X.K):=by
 intro pins s σ H vs zs us ws Q I r1 r2 h;obtain ⟨a,ns,d,rfl,rfl,hS,q⟩:=h;obtain ⟨u,rfl,ru⟩:=xa r1;cases ru;obtain ⟨w',rfl,td,rfl⟩:=xa r2;obtain ⟨its,rv,pl,hz⟩:=I.list hS;have hlen:=rv.length;rw [List.length_map]at hlen
 have hat:∀ (i:Nat) (v:Value),its.toArray[i]? = some v -> ∃ t,v = Value.int (ns.getD i 0) t:=fun i v hi=>by
  have hi':its[i]? = some v:=by simpa using hi
  have hil:=(ae.mp hi').1;obtain ⟨u,hu,t,rfl⟩:=z6 rv (j:=i) (x:=.int (ns.getD i 0)) (by rw [List.getElem?_map,List.getD_eq_getElem?_getD,List.getElem?_eq_getElem ⋯]; rfl);rw [hi']at hu;cases hu;exact #[t,rfl]
 refine ZU (I.ok.hd hc) its.toArray (fun i=>ns.getD i 0) hat pl.isList (.int d td) fun v h' tk h0 h1 kp=>?_;by_cases hn:ns = []
 ·have:=h0 (by rw [List.size_toArray,<- hlen,hn]; rfl);subst this;exact #[.int d,H,I.kept kp,#[_,rfl],q d (fun _=>rfl) (fun n hm=>by rw [hn]at hm; cases hm)]
 ·obtain ⟨z,t,rfl,hzz⟩:=h1 (by rw [List.size_toArray,<- hlen]; exact aq.mpr hn);refine #[.int z,H,I.kept kp,#[_,rfl],q z (fun e=>absurd e hn) fun n hm=>?_];obtain ⟨i,hi,rfl⟩:=List.getElem_of_mem hm;have:=hzz i (by rw [List.size_toArray,<- hlen]; exact hi);rw [List.getD_eq_getElem?_getD,List.getElem?_eq_getElem hi]at this;exact this
end
end L3
namespace L3
open PySem PySem.Spec PyProof.Rows L2
section
variable {prog:Program} {w:World} {A:Around} {R:Result -> Shared -> Prop} {I l S:Addr}
end
section
variable {X:Cx}
end
end L3
namespace L3
open PySem PySem.Spec PyProof.Rows L2
section
variable {prog:Program} {w:World} {A:Around} {R:Result -> Shared -> Prop} {I S:Addr} {fp wr:List Addr} {P:Nat -> Value -> Prop} {St:Nat -> Heap -> Prop}
end
section
variable {X:Cx}
end
end L3
namespace L3
open PySem PySem.Spec PyProof.Rows L2
section
variable {X:Cx} {k j:Nat} {C:Addr} {m:Str} {ps:List Str} {sp:Sp} {o e:Expr} {es:List Expr} {ta:TE} {t:TA} {apos pos p:Pos} {x:Str} {E:XK}
end
end L3
namespace L3
open PySem PySem.Spec PyProof.Rows L2
def JB (y l:()) (e:Nat):Prop:=e + y.length <= l.length /\ (l.drop e).take y.length = y
noncomputable instance (y l:()) (e:Nat):Decidable (JB y l e):=by unfold JB; infer_instance
noncomputable def zaf (y l:()):Option (() × ()):=((List.range (l.length + 1)).find? fun e=>decide (JB y l e)).map fun e=>(l.take e,l.drop (e + y.length))
end L3
namespace L3
open PySem PySem.Spec PyProof.Rows L2
end L3
namespace L3
open PySem PySem.Spec PyProof.Rows L2
section
variable {X:Cx}
end
end L3
namespace L3
open PySem PySem.Spec PyProof.Rows L2
section
variable {X:Cx}
end
end L3
namespace L3
open PySem PySem.Spec PyProof.Rows L2
section
variable {X:Cx}
end
end L3
namespace L3
open PySem PySem.Spec PyProof.Rows L2
section
variable {X:Cx}
end
end L3
namespace L3
open PySem PySem.Spec PyProof.Rows L2
section
variable {X:Cx}
end
end L3
namespace L3
open PySem PySem.Spec PyProof.Rows L2
section
variable {g:TG} {tt:TT} {te:TE} {own:Nat} {ix:()} {σ:L2.St} {H1:Hp} {Q:VK} {D:Addr}
end
end L3
namespace L3
open PySem PySem.Spec PyProof.Rows L2
section
variable {X:Cx}
def zae:V -> List V -> Hp -> VK -> Prop:=fun x vs H Q=>∃ l xs y,∃ i:Nat,x = .ref l /\ vs = [.int (i:Nat),y] /\ H l = some (.lst xs) /\ i <= xs.length /\ xs.length < 1000 /\ Q .non (upd H l (.lst (xs.take i ++ y :: xs.drop i)))
theorem W8:MtM X "list.insert" zae:=by
 intro pins s σ H x vs v us Q I rx rv h;obtain ⟨l,xs,y,i,rfl,rfl,hH,hi,hz,q⟩:=h;have hs:=sizeLine_eq;cases rx
 cases rv with
 | cons r1 r2 =>
  obtain ⟨t0,rfl⟩:=r1;obtain ⟨u,rfl,ru⟩:=xa r2;obtain ⟨z,its,n,r,hl,e⟩:=I.lstM hH
  have hc0:¬(!Builtin.List.listFitsIndex ((i:Nat):Int)) = true:=by
   have hf:Builtin.List.listFitsIndex ((i:Nat):Int) = true:=by
    unfold Builtin.List.listFitsIndex;rw [Bool.and_eq_true,decide_eq_true_eq,decide_eq_true_eq];have h1:(0:Int) <= 2 ^ 63:=∅;have h2:(1000:Int) < 2 ^ 63:=∅;lia
   rw [hf];decide
  generalize hzi:((i:Nat):Int) = zi at hc0;have hz1:its.toArray.size <= sizeLine:=by rw [List.size_toArray]; lia
  refine call_meets F.slot_list_insert #[_,e,rfl] F.entry_list_insert (F.args_list_insert_3 _ _ _) (PySem.AutoSeq1.list_insert_list_int_val_1 l its.toArray n zi t0 u hc0 hz1) #[e,?_];refine #[.non,_,I.lset (its':=its.take i ++ u :: its.drop i) hH e ?_ ?_ ?_,rfl,q]
  ·have hi2:i <= its.length:=⋯;simp only;rw [<- hzi,if_neg ⋯,List.size_toArray,Int.toNat_natCast,Nat.min_eq_left hi2];apply Array.toList_inj.mp;simp [List.extract_eq_drop_take];exact List.take_of_length_le (by rw [List.length_drop]; lia)
  ·have a1:Vals (xs.take i) (its.take i):=Vals.take i r;exact a1.append (.cons ru (Vals.drop i r))
  ·simp only [List.length_append,List.length_take,List.length_cons,List.length_drop];lia
end
end L3
namespace L3
open PySem PySem.W PyProof.Rows
noncomputable def kW (lt:Nat -> Nat -> Bool) {α:Type}:KasT α -> α
 | .ret a=>a
 | .ask i j k=>kW lt (k (lt i j))
def Kok (lt:Nat -> Nat -> Bool) (n:Nat) {α:Type}:KasT α -> (α -> Prop) -> Prop
 | .ret a,Q=>Q a
 | .ask i j k,Q=>i < n /\ j < n /\ Kok lt n (k (lt i j)) Q
section
variable {lt:Nat -> Nat -> Bool} {n:Nat} {α β:Type}
theorem Kok.mono {Q Q':α -> Prop} (hq:∀ a,Q a -> Q' a):∀ (t:KasT α),Kok lt n t Q -> Kok lt n t Q'
 | .ret a,h=>hq a h
 | .ask _ _ k,h=>#[h.1,h.2.1,Kok.mono hq (k _) h.2.2]
theorem Kok.bind {f:α -> KasT β} {Q:β -> Prop}:∀ (t:KasT α),Kok lt n t (fun a=>Kok lt n (f a) Q) -> Kok lt n (t.bind f) Q
 | .ret _,h=>h
 | .ask _ _ k,h=>#[h.1,h.2.1,Kok.bind (k _) h.2.2]
theorem Kok.run {Q:α -> Prop}:∀ (t:KasT α),Kok lt n t Q -> Q (kW lt t)
 | .ret _,h=>h
 | .ask _ _ k,h=>Kok.run (k _) h.2.2
theorem Kok.same {Q:α -> Prop}:∀ (t:KasT α),Kok lt n t Q -> Kok lt n t (fun a=>a = kW lt t)
 | .ret _,h=>rfl
 | .ask _ _ k,h=>#[h.1,h.2.1,Kok.same (k _) h.2.2]
theorem Kok.wp {cmp:Nat -> Nat -> (Bool -> Shared -> Prop) -> Shared -> Prop} {I:Shared -> Prop} (hc:∀ i j C s,i < n -> j < n -> I s -> (∀ s',I s' -> C (lt i j) s') -> cmp i j C s) {Q:α -> Prop} {R:α -> Shared -> Prop}
  (hR:∀ a s,Q a -> I s -> R a s):∀ (t:KasT α) (s:Shared),I s -> Kok lt n t Q -> t.kasWp cmp R s
 | .ret a,s,hI,h=>hR a s h hI
 | .ask i j k,s,hI,h=>hc i j _ s h.1 h.2.1 hI fun s' hI'=>Kok.wp hc hR (k _) s' hI' h.2.2
end
structure Wk (lt:Nat -> Nat -> Bool):Prop where
 asym:∀ a b,lt a b = true -> lt b a = false
 ntr:∀ a b c,lt b a = false -> lt c b = false -> lt c a = false
section
variable {lt:Nat -> Nat -> Bool} {n:Nat}
abbrev Lq (lt:Nat -> Nat -> Bool) (a b:Nat):Prop:=lt b a = false
theorem Wk.refl (W:Wk lt) (a:Nat):Lq lt a a:=by
 cases h:lt a a with
 | false=>exact h
 | true=>exact absurd h (by rw [W.asym a a h]; decide)
noncomputable abbrev pg (p:Array Nat) (i:Nat):Nat:=p.getD i 0
theorem kN (p:Array Nat) (i:Nat):pg p i =(p[i]?).getD 0:=by simp [pg,Array.getD_eq_getD_getElem?]
def Up (lt:Nat -> Nat -> Bool) (p:Array Nat) (m:Nat):Prop:=∀ i j,i < j -> j < m -> Lq lt (pg p i) (pg p j)
def Dn (lt:Nat -> Nat -> Bool) (p:Array Nat) (m:Nat):Prop:=∀ i j,i < j -> j < m -> Lq lt (pg p j) (pg p i)
def Rg (n:Nat) (p:Array Nat):Prop:=p.toList.Perm (List.range n)
theorem Rg.size {p:Array Nat} (h:Rg n p):p.size = n:=by have:=h.length_eq; simpa using this
theorem Rg.bd {p:Array Nat} (h:Rg n p) {i:Nat} (hi:i < n):pg p i < n:=by
 have hs:=h.size;have hi':i < p.size:=⋯;have e:pg p i = p[i]:=by simp [pg,Array.getD,hi']
 rw [e];have hm:p[i] ∈ p.toList:=Array.mem_toList_iff.mpr (Array.getElem_mem hi');exact aj.mp (h.mem_iff.mp hm)
theorem zT {p:Array Nat} {i j:Nat} (hj:j <= p.size) (k:Nat):pg (kas_rev p i j) k = if i <= k /\ k < j then pg p (i + j - 1 - k)else pg p k:=by
 rw [kN,kas_rev,getElem?_mirror_all hj];split <;> rw [kN]
theorem Rg.rev {p:Array Nat} (h:Rg n p) (i j:Nat):Rg n (kas_rev p i j):=(Array.perm_iff_toList_perm.mp (mirror_perm p i j _)).trans h
theorem Rg.bub {p:Array Nat} (h:Rg n p) (i j:Nat):Rg n (bubble p i j):=(Array.perm_iff_toList_perm.mp (bubble_perm p i j)).trans h
theorem YG (W:Wk lt) {p:Array Nat} (hp:Rg n p):∀ (f k:Nat),1 <= k -> k + f <= n -> Up lt p k -> Kok lt n (kas_asc p f k) (fun m=>k <= m /\ m <= k + f /\ Up lt p m /\ (m = k + f \/ lt (pg p m) (pg p (m - 1)) = true))
 | 0,k,h1,h2,hu=>#[⋯,⋯,hu,Or.inl ⋯]
 | f + 1,k,h1,h2,hu=>by
  refine #[hp.bd ⋯,hp.bd ⋯,?_];rcases Bool.eq_false_or_eq_true (lt (pg p k) (pg p (k - 1)))with hc | hc
  ·show Kok lt n (if lt (pg p k) (pg p (k - 1)) = true then .ret k else _) _;rw [if_pos hc];exact #[⋯,⋯,hu,Or.inr hc]
  ·show Kok lt n (if lt (pg p k) (pg p (k - 1)) = true then .ret k else _) _;rw [if_neg (by rw [hc]; decide)];refine (YG W hp f (k + 1) ⋯ ⋯ fun i j hij hj=>?_).mono (fun m hm=>#[⋯,⋯,hm.2.2.1,?_]) _
   ·by_cases e:j = k
    ·subst e;by_cases e2:i = j - 1
     ·subst e2; exact hc
     ·exact W.ntr _ _ _ (hu i (j - 1) ⋯ ⋯) hc
    ·exact hu i j hij ⋯
   ·rcases hm.2.2.2 with h | h
    ·exact Or.inl ⋯
    ·exact Or.inr h
def Ev (lt:Nat -> Nat -> Bool) (p:Array Nat) (a b:Nat):Prop:=∀ i j,a <= i -> i < b -> a <= j -> j < b -> Lq lt (pg p i) (pg p j)
theorem WB {p:Array Nat} {m q:Nat} (hm:m <= p.size) (hq:q + 1 <= m) (hd:Dn lt p m) (he:Ev lt p (m - (q + 1)) m):Dn lt (kas_rev p (m - (q + 1)) m) m:=by
 intro i j hij hj;rw [zT hm,zT hm];by_cases h1:m - (q + 1) <= i
 ·rw [if_pos (show m - (q + 1) <= i /\ i < m by lia),if_pos (show m - (q + 1) <= j /\ j < m by lia)];exact he _ _ ⋯ ⋯ ⋯ ⋯
 ·rw [if_neg (show ¬ (m - (q + 1) <= i /\ i < m) by lia)];split
  ·exact hd _ _ ⋯ ⋯
  ·exact hd _ _ ⋯ ⋯
theorem uS (W:Wk lt):∀ (f:Nat) (p:Array Nat) (k q:Nat),Rg n p -> 1 <= k -> k + f <= n -> q + 1 <= k -> Dn lt p k -> Ev lt p (k - (q + 1)) k ->
  Kok lt n (kas_desc f p k q) (fun r=>Rg n r.1 /\ k <= r.2.1 /\ r.2.1 <= k + f /\ r.2.2 + 1 <= r.2.1 /\ Dn lt r.1 r.2.1 /\ Ev lt r.1 (r.2.1 - (r.2.2 + 1)) r.2.1)
 | 0,p,k,q,hp,h1,h2,hq,hd,he=>#[hp,Nat.le_refl _,Nat.le_add_right _ _,hq,hd,he]
 | f + 1,p,k,q,hp,h1,h2,hq,hd,he=>by
  have hps:=hp.size;refine #[hp.bd ⋯,hp.bd ⋯,?_]
  have one:∀ (p:Array Nat),Ev lt p (k + 1 - (0 + 1)) (k + 1):=fun p i j a b c d=>by
   have:i = j:=⋯;subst this;exact W.refl _
  rcases Bool.eq_false_or_eq_true (lt (pg p k) (pg p (k - 1)))with hc | hc
  ·show Kok lt n (if lt (pg p k) (pg p (k - 1)) = true then _ else _) _;rw [if_pos hc];have hle:Lq lt (pg p k) (pg p (k - 1)):=W.asym _ _ hc;split
   ·rename_i hq0;refine (uS W f _ (k + 1) 0 (hp.rev _ _) ⋯ ⋯ ⋯ (fun i j hij hj=>?_) (one _)).mono (fun r hr=>#[hr.1,⋯,⋯,hr.2.2.2]) _;by_cases e:j = k
    ·subst e;rw [zT ⋯,zT ⋯,if_neg ⋯];split
     ·exact W.ntr _ _ _ hle (he _ _ ⋯ ⋯ ⋯ ⋯)
     ·exact W.ntr _ _ _ hle (hd _ _ ⋯ ⋯)
    ·exact WB ⋯ hq hd he i j hij ⋯
   ·refine (uS W f _ (k + 1) 0 hp ⋯ ⋯ ⋯ (fun i j hij hj=>?_) (one _)).mono (fun r hr=>#[hr.1,⋯,⋯,hr.2.2.2]) _;by_cases e:j = k
    ·subst e;by_cases e2:i = j - 1
     ·subst e2; exact hle
     ·exact W.ntr _ _ _ hle (hd i (j - 1) ⋯ ⋯)
    ·exact hd i j hij ⋯
  ·show Kok lt n (if lt (pg p k) (pg p (k - 1)) = true then _ else _) _;rw [if_neg (by rw [hc]; decide)];refine #[hp.bd ⋯,hp.bd ⋯,?_];rcases Bool.eq_false_or_eq_true (lt (pg p (k - 1)) (pg p k))with hd2 | hd2
   ·show Kok lt n (if lt (pg p (k - 1)) (pg p k) = true then _ else _) _;rw [if_pos hd2];exact #[hp,Nat.le_refl _,Nat.le_add_right _ _,hq,hd,he]
   ·show Kok lt n (if lt (pg p (k - 1)) (pg p k) = true then _ else _) _;rw [if_neg (by rw [hd2]; decide)];refine (uS W f _ (k + 1) (q + 1) hp ⋯ ⋯ ⋯ (fun i j hij hj=>?_) (fun i j a b c d=>?_)).mono (fun r hr=>#[hr.1,⋯,⋯,hr.2.2.2]) _
    ·by_cases e:j = k
     ·subst e;by_cases e2:i = j - 1
      ·subst e2; exact hd2
      ·exact W.ntr _ _ _ hd2 (hd i (j - 1) ⋯ ⋯)
     ·exact hd i j hij ⋯
    ·have b1:∀ i,k + 1 - (q + 1 + 1) <= i -> i < k -> Lq lt (pg p i) (pg p (k - 1)) /\ Lq lt (pg p (k - 1)) (pg p i):=fun i a b=>#[he _ _ ⋯ ⋯ ⋯ ⋯,he _ _ ⋯ ⋯ ⋯ ⋯];by_cases e:j = k
     ·subst e;by_cases e3:i = j
      ·subst e3; exact W.refl _
      ·exact W.ntr _ _ _ (b1 i ⋯ ⋯).1 hc
     ·by_cases e3:i = k
      ·subst e3;exact W.ntr _ _ _ hd2 (b1 j ⋯ ⋯).2
      ·exact he _ _ ⋯ ⋯ ⋯ ⋯
theorem jC (W:Wk lt) {p:Array Nat} {m:Nat} (hp:Rg n p) (h1:1 <= m) (hm:m <= n) (hd:Dn lt p m):Kok lt n (kas_tail3 m n p) (fun r=>Rg n r.2 /\ 1 <= r.1 /\ r.1 <= n /\ Up lt r.2 r.1):=by
 have hps:=hp.size;unfold kas_tail3;refine Kok.bind _ ((YG W (hp.rev 0 m) (n - m) m h1 ⋯ fun i j hij hj=>?_).mono (fun k hk=>#[hp.rev 0 m,by show 1 <= k; lia,by show k <= n; lia,hk.2.2.1]) _);rw [zT ⋯,zT ⋯,if_pos ⋯,if_pos ⋯];exact hd _ _ ⋯ ⋯
theorem wB (W:Wk lt) {p:Array Nat} {m:Nat} (hp:Rg n p) (h1:1 <= m) (hm:m + 1 <= n) (hd:Dn lt p (m + 1)):Kok lt n (kas_descPart m n p) (fun r=>Rg n r.2 /\ 1 <= r.1 /\ r.1 <= n /\ Up lt r.2 r.1):=by
 unfold kas_descPart;refine Kok.bind _ ((uS W (n - (m + 1)) p (m + 1) 0 hp ⋯ ⋯ ⋯ hd fun i j a b c d=>?_).mono (fun r hr=>?_) _)
 ·have:i = j:=⋯;subst this;exact W.refl _
 ·obtain ⟨r1,r2,r3,r4,r5,r6⟩:=hr;have hs:=r1.size
  (try dsimp only)
  split
  ·exact jC W (r1.rev _ _) ⋯ ⋯ (WB ⋯ r4 r5 r6)
  ·exact jC W r1 ⋯ ⋯ r5
theorem Xx (W:Wk lt) {p:Array Nat} (hp:Rg n p) (hn:1 <= n):Kok lt n (kas_count n p) (fun r=>Rg n r.2 /\ 1 <= r.1 /\ r.1 <= n /\ Up lt r.2 r.1):=by
 have hps:=hp.size;unfold kas_count;refine Kok.bind _ ((YG W hp (n - 1) 1 (Nat.le_refl _) ⋯ fun i j hij hj=>by lia).mono (fun m hm=>?_) _);obtain ⟨m1,m2,mu,ms⟩:=hm;by_cases e:(m == n) = true
 ·rw [if_pos e];exact #[hp,by show 1 <= m; lia,by show m <= n; lia,mu]
 ·rw [if_neg e];have hne:m ≠ n:=fun h=>e (by rw [h]; exact beq_self_eq_true _)
  have hlt:lt (pg p m) (pg p (m - 1)) = true:=by
   rcases ms with h | h
   ·lia
   ·exact h
  have hle:Lq lt (pg p m) (pg p (m - 1)):=W.asym _ _ hlt;by_cases h1:m > 1
  ·rw [if_pos h1];refine #[hp.bd ⋯,hp.bd ⋯,?_];rcases Bool.eq_false_or_eq_true (lt (pg p 0) (pg p (m - 1)))with hc | hc
   ·show Kok lt n (if lt (pg p 0) (pg p (m - 1)) = true then _ else _) _;rw [if_pos hc];exact #[hp,by show 1 <= m; lia,by show m <= n; lia,mu]
   ·show Kok lt n (if lt (pg p 0) (pg p (m - 1)) = true then _ else _) _;rw [if_neg (by rw [hc]; decide)]
    have u0:∀ i,i < m -> Lq lt (pg p 0) (pg p i):=fun i hi=>by
     by_cases h:i = 0
     ·subst h; exact W.refl _
     ·exact mu 0 i ⋯ hi
    have ul:∀ i,i < m -> Lq lt (pg p i) (pg p (m - 1)):=fun i hi=>by
     by_cases h:i = m - 1
     ·subst h; exact W.refl _
     ·exact mu i (m - 1) ⋯ ⋯
    have ev:∀ i j,i < m -> j < m -> Lq lt (pg p i) (pg p j):=fun i j hi hj=>W.ntr _ _ _ (ul i hi) (W.ntr _ _ _ hc (u0 j hj));refine wB W (hp.rev 0 m) ⋯ ⋯ fun i j hij hj=>?_;by_cases h:j = m
    ·subst h;rw [zT ⋯,zT ⋯,if_neg ⋯,if_pos ⋯];exact W.ntr _ _ _ hle (ev _ _ ⋯ ⋯)
    ·rw [zT ⋯,zT ⋯,if_pos ⋯,if_pos ⋯];exact ev _ _ ⋯ ⋯
  ·rw [if_neg h1];refine wB W hp ⋯ ⋯ fun i j hij hj=>?_;have h0:i = m - 1:=⋯;have h1:j = m:=⋯;subst h0 h1;exact hle
theorem um (W:Wk lt) {p:Array Nat} (hp:Rg n p) {k:Nat} (hk:k < n) (hu:Up lt p k):∀ (f l r:Nat),l <= r -> r <= k -> r - l <= f -> (∀ i,i < l -> Lq lt (pg p i) (pg p k)) -> (∀ i,r <= i -> i < k -> Lq lt (pg p k) (pg p i)) ->
  Kok lt n (kas_place p k f l r) (fun m=>m <= k /\ (∀ i,i < m -> Lq lt (pg p i) (pg p k)) /\ (∀ i,m <= i -> i < k -> Lq lt (pg p k) (pg p i)))
 | 0,l,r,hl,hr,hf,h1,h2=>by
  have:l = r:=⋯;subst this;exact #[hr,h1,h2]
 | f + 1,l,r,hl,hr,hf,h1,h2=>by
  unfold kas_place;by_cases e:l ≥ r
  ·rw [if_pos e];have:l = r:=⋯;subst this;exact #[hr,h1,h2]
  ·rw [if_neg e];refine #[hp.bd hk,hp.bd ⋯,?_];rcases Bool.eq_false_or_eq_true (lt (pg p k) (pg p ((l + r) / 2)))with hc | hc
   ·show Kok lt n (if lt (pg p k) (pg p ((l + r) / 2)) = true then _ else _) _;rw [if_pos hc];refine um W hp hk hu f l ((l + r) / 2) ⋯ ⋯ ⋯ h1 fun i hi hik=>?_;by_cases e2:i =(l + r) / 2
    ·subst e2; exact W.asym _ _ hc
    ·exact W.ntr _ _ _ (W.asym _ _ hc) (hu _ _ ⋯ hik)
   ·show Kok lt n (if lt (pg p k) (pg p ((l + r) / 2)) = true then _ else _) _;rw [if_neg (by rw [hc]; decide)];refine um W hp hk hu f ((l + r) / 2 + 1) r ⋯ hr ⋯ (fun i hi=>?_) h2;by_cases e2:i =(l + r) / 2
    ·subst e2; exact hc
    ·exact W.ntr _ _ _ (hu i ((l + r) / 2) ⋯ ⋯) hc
theorem vC {p:Array Nat} {k l:Nat} (hk:k < p.size) (hl:l <= k) (i:Nat):pg (bubble p k (k - l)) i = if i = l then pg p k else if l < i /\ i <= k then pg p (i - 1)else pg p i:=by
 have e:k - (k - l) = l:=⋯;rw [kN,getElem?_bubble hk (k - l) ⋯,e];by_cases h:i = l
 ·rw [if_pos h,if_pos h]; exact (kN p k).symm
 ·rw [if_neg h,if_neg h];by_cases h':l < i /\ i <= k
  ·rw [if_pos h',if_pos h']; exact (kN p (i - 1)).symm
  ·rw [if_neg h',if_neg h']; exact (kN p i).symm
theorem WK (W:Wk lt):∀ (f:Nat) (p:Array Nat) (k:Nat),Rg n p -> k + f = n -> Up lt p k -> Kok lt n (kas_bin f p k) (fun p'=>Rg n p' /\ Up lt p' n)
 | 0,p,k,hp,hk,hu=>by
  have:k = n:=⋯;subst this;exact #[hp,hu]
 | f + 1,p,k,hp,hk,hu=>by
  have hps:=hp.size;refine Kok.bind _ ((um W hp ⋯ hu k 0 k ⋯ ⋯ ⋯ (fun i hi=>by lia) (fun i h1 h2=>by lia)).mono (fun l hl=>?_) _);obtain ⟨l1,l2,l3⟩:=hl;refine WK W f _ (k + 1) (hp.bub _ _) ⋯ fun i j hij hj=>?_;rw [vC ⋯ l1,vC ⋯ l1];by_cases h1:i = l
  ·rw [if_pos h1,if_neg ⋯,if_pos ⋯];exact l3 _ ⋯ ⋯
  ·rw [if_neg h1];by_cases h2:j = l
   ·rw [if_pos h2,if_neg ⋯];exact l2 _ ⋯
   ·rw [if_neg h2];by_cases h3:l < i /\ i <= k
    ·rw [if_pos h3,if_pos ⋯];exact hu _ _ ⋯ ⋯
    ·rw [if_neg h3];by_cases h4:l < j /\ j <= k
     ·rw [if_pos h4];by_cases h5:i = j - 1
      ·lia
      ·exact hu _ _ ⋯ ⋯
     ·rw [if_neg h4];exact hu _ _ ⋯ ⋯
theorem uo (W:Wk lt) (hn:1 <= n):Kok lt n (kas_sort n) (fun p=>Rg n p /\ Up lt p n):=by
 unfold kas_sort;refine Kok.bind _ ((Xx W (p:=List.toArray (List.range n)) (by unfold Rg; exact List.Perm.refl _) hn).mono (fun r hr=>?_) _);obtain ⟨r1,r2,r3,r4⟩:=hr
 (try dsimp only)
 split
 ·have:max r.1 1 = r.1:=⋯;rw [this];exact WK W _ _ _ r1 ⋯ r4
 ·have:r.1 = n:=⋯;rw [this]at r4;exact #[r1,r4]
end
noncomputable def srt {α:Type} (lt:α -> α -> Bool) (d:α) (xs:List α):List α :=
 if xs.length < 2 then xs else (kW (fun i j=>lt (xs.getD i d) (xs.getD j d)) (kas_sort xs.length)).toList.map fun i=>xs.getD i d
structure WkO {α:Type} (lt:α -> α -> Bool):Prop where
 asym:∀ a b,lt a b = true -> lt b a = false
 ntr:∀ a b c,lt b a = false -> lt c b = false -> lt c a = false
theorem uT {α:Type} {lt:α -> α -> Bool} (W:WkO lt) (d:α) (xs:List α):(srt lt d xs).Perm xs /\ (srt lt d xs).Pairwise fun a b=>lt b a = false:=by
 unfold srt;split
 ·rename_i h;refine #[List.Perm.refl _,?_]
  match xs,h with
  | [],_=>exact List.Pairwise.nil
  | [a],_=>exact List.pairwise_singleton _ _
  | _ :: _ :: _,h=>exact absurd h (by simp)
 ·rename_i h;have W':Wk (fun i j=>lt (xs.getD i d) (xs.getD j d)):=#[fun a b=>W.asym _ _,fun a b c=>W.ntr _ _ _];obtain ⟨h1,h2⟩:=Kok.run _ (uo (n:=xs.length) W' ⋯);generalize kW (fun i j=>lt (xs.getD i d) (xs.getD j d)) (kas_sort xs.length) = p at h1 h2
  have e:(List.range xs.length).map (fun i=>xs.getD i d) = xs:=by
   refine List.ext_getElem (by simp) fun i a b=>?_;have hb:i < xs.length:=by simpa using b
   simp [hb]
  refine #[(h1.map (fun i=>xs.getD i d)).trans (by rw [e]),?_];rw [List.pairwise_map,List.pairwise_iff_getElem];intro i j hi hj hij;have hs:=h1.size;have hi':i < p.size:=by simpa using hi
  have hj':j < p.size:=by simpa using hj
  have q:=h2 i j hij ⋯;have ei:pg p i = p.toList[i]:=by simp [pg,Array.getD,hi']
  have ej:pg p j = p.toList[j]:=by simp [pg,Array.getD,hj']
  rw [ei,ej]at q;exact q
theorem ZS {lt lt':Nat -> Nat -> Bool} {n:Nat} {α:Type} {Q:α -> Prop} (h:∀ i j,i < n -> j < n -> lt i j = lt' i j):∀ t:KasT α,Kok lt n t Q -> kW lt t = kW lt' t
 | .ret _,_=>rfl
 | .ask i j k,q=>by
  show kW lt (k (lt i j)) = kW lt' (k (lt' i j));rw [<- h i j q.1 q.2.1];exact ZS h _ q.2.2
theorem jA {α:Type} {lt lt':α -> α -> Bool} (W:WkO lt) {d d':α} {xs:List α} (h:∀ a ∈ xs,∀ b ∈ xs,lt a b = lt' a b):srt lt d xs = srt lt' d' xs:=by
 have g:∀ i,i < xs.length -> ∃ a ∈ xs,xs.getD i d = a /\ xs.getD i d' = a:=fun i hi=>#[xs[i],List.getElem_mem hi,by rw [List.getD_eq_getElem?_getD,List.getElem?_eq_getElem hi]; rfl,by rw [List.getD_eq_getElem?_getD,List.getElem?_eq_getElem hi]; rfl];unfold srt;split
 ·rfl
 ·rename_i hl;have W':Wk (fun i j=>lt (xs.getD i d) (xs.getD j d)):=#[fun a b=>W.asym _ _,fun a b c=>W.ntr _ _ _];have ok:=uo (n:=xs.length) W' ⋯
  have e:=ZS (lt':=fun i j=>lt' (xs.getD i d') (xs.getD j d')) (fun i j hi hj=>by
   obtain ⟨a,ha,a1,a2⟩:=g i hi;obtain ⟨b,hb,b1,b2⟩:=g j hj;show lt (xs.getD i d) (xs.getD j d) = lt' (xs.getD i d') (xs.getD j d');rw [a1,a2,b1,b2]
   exact h a ha b hb) _ ok
  rw [<- e];obtain ⟨h1,_⟩:=Kok.run _ ok;refine List.map_congr_left fun i hi=>?_;obtain ⟨a,_,a1,a2⟩:=g i (aj.mp (h1.mem_iff.mp hi));rw [a1,a2]
theorem qX {α β:Type} {lt:β -> β -> Bool} (f:α -> β) (d:α) (xs:List α):srt lt (f d) (xs.map f) =(srt (fun a b=>lt (f a) (f b)) d xs).map f:=by
 have e:∀ i,(xs.map f).getD i (f d) = f (xs.getD i d):=fun i=>by
  rw [List.getD_eq_getElem?_getD,List.getD_eq_getElem?_getD,List.getElem?_map];cases xs[i]? <;> rfl
 unfold srt;rw [List.length_map];split
 ·rfl
 ·simp only [e,List.map_map];rfl
end L3
namespace L3
open PySem PySem.W PyProof.Rows
section
variable {lt:Nat -> Nat -> Bool} {n:Nat}
def Sq (lt:Nat -> Nat -> Bool) (a b:Nat):Prop:=lt a b = true \/ (lt b a = false /\ a < b)
theorem Wk.ltle (W:Wk lt) {a b c:Nat} (h:lt a b = true) (g:lt c b = false):lt a c = true:=by
 cases e:lt a c with
 | true=>rfl
 | false=>rw [W.ntr b c a g e]at h; cases h
theorem Wk.lelt (W:Wk lt) {a b c:Nat} (h:lt b a = false) (g:lt b c = true):lt a c = true:=by
 cases e:lt a c with
 | true=>rfl
 | false=>rw [W.ntr c a b e h]at g; cases g
theorem Sq.le (W:Wk lt) {a b:Nat} (h:Sq lt a b):lt b a = false:=h.elim (W.asym _ _) (·.1)
theorem Sq.trans (W:Wk lt) {a b c:Nat} (h:Sq lt a b) (g:Sq lt b c):Sq lt a c:=by
 rcases h with h | ⟨h,h'⟩
 ·exact .inl (W.ltle h (g.le W))
 ·rcases g with g | ⟨g,g'⟩
  ·exact .inl (W.lelt h g)
  ·exact .inr #[W.ntr _ _ _ h g,⋯]
def UpS (lt:Nat -> Nat -> Bool) (p:Array Nat) (m:Nat):Prop:=∀ i j,i < j -> j < m -> Sq lt (pg p i) (pg p j)
def DnS (lt:Nat -> Nat -> Bool) (p:Array Nat) (m:Nat):Prop:=∀ i j,i < j -> j < m -> Sq lt (pg p j) (pg p i)
structure Idp (n:Nat) (p:Array Nat) (m:Nat):Prop where
 r:Rg n p
 lo:∀ i,i < m -> pg p i < m
 hi:∀ i,m <= i -> i < n -> pg p i = i
theorem Idp.up {p:Array Nat} {m k:Nat} (h:Idp n p m) (hk:m <= k) (hn:k <= n):Idp n p k:=#[h.r,fun i hi=>by
 by_cases e:i < m
 ·have:=h.lo i e; lia
 ·rw [h.hi i ⋯ ⋯]; exact hi,fun i a b=>h.hi i ⋯ b]
theorem Idp.rev {p:Array Nat} {a m:Nat} (h:Idp n p m) (hm:m <= n):Idp n (kas_rev p a m) m:=by
 have hs:=h.r.size;refine #[h.r.rev _ _,fun i hi=>?_,fun i hi hn=>?_]
 ·rw [zT ⋯];split
  ·exact h.lo _ ⋯
  ·exact h.lo _ hi
 ·rw [zT ⋯,if_neg ⋯];exact h.hi i hi hn
theorem k9 (W:Wk lt) {p:Array Nat}:∀ (f k:Nat),Idp n p k -> 1 <= k -> k + f <= n -> UpS lt p k -> Kok lt n (kas_asc p f k) (fun m=>k <= m /\ m <= k + f /\ UpS lt p m /\ (m = k + f \/ lt (pg p m) (pg p (m - 1)) = true))
 | 0,k,hp,h1,h2,hu=>#[⋯,⋯,hu,Or.inl ⋯]
 | f + 1,k,hp,h1,h2,hu=>by
  refine #[hp.r.bd ⋯,hp.r.bd ⋯,?_];rcases Bool.eq_false_or_eq_true (lt (pg p k) (pg p (k - 1)))with hc | hc
  ·show Kok lt n (if lt (pg p k) (pg p (k - 1)) = true then .ret k else _) _;rw [if_pos hc];exact #[⋯,⋯,hu,Or.inr hc]
  ·show Kok lt n (if lt (pg p k) (pg p (k - 1)) = true then .ret k else _) _;rw [if_neg (by rw [hc]; decide)];refine (k9 W f (k + 1) (hp.up ⋯ ⋯) ⋯ ⋯ fun i j hij hj=>?_).mono (fun m hm=>#[⋯,⋯,hm.2.2.1,?_]) _
   ·by_cases e:j = k
    ·subst e;have s1:Sq lt (pg p (j - 1)) (pg p j):=.inr #[hc,by have:=hp.lo (j - 1) ⋯; have:=hp.hi j ⋯ ⋯; lia];by_cases e2:i = j - 1
     ·subst e2; exact s1
     ·exact (hu i (j - 1) ⋯ ⋯).trans W s1
    ·exact hu i j hij ⋯
   ·rcases hm.2.2.2 with h | h
    ·exact Or.inl ⋯
    ·exact Or.inr h
structure DsI (lt:Nat -> Nat -> Bool) (n:Nat) (p:Array Nat) (k q:Nat):Prop where
 hq:q + 1 <= k
 hk:k <= n
 id:Idp n p (k - (q + 1))
 dn:DnS lt p (k - (q + 1))
 st:∀ i j,i < k - (q + 1) -> k - (q + 1) <= j -> j < k -> lt (pg p j) (pg p i) = true
 ev:∀ i j,k - (q + 1) <= i -> i < k -> k - (q + 1) <= j -> j < k -> lt (pg p i) (pg p j) = false
theorem DsI.rev (W:Wk lt) {p:Array Nat} {k q:Nat} (h:DsI lt n p k q):DnS lt (kas_rev p (k - (q + 1)) k) k /\ Idp n (kas_rev p (k - (q + 1)) k) k:=by
 have hs:=h.id.r.size;have hq:=h.hq;have hk:=h.hk;refine #[fun i j hij hj=>?_,(h.id.up ⋯ hk).rev hk];rw [zT ⋯,zT ⋯];by_cases e:k - (q + 1) <= i
 ·rw [if_pos ⋯,if_pos ⋯];refine .inr #[h.ev _ _ ⋯ ⋯ ⋯ ⋯,?_];rw [h.id.hi _ ⋯ ⋯,h.id.hi _ ⋯ ⋯];lia
 ·rw [if_neg (c:=_ /\ i < k) ⋯];split
  ·exact .inl (h.st _ _ ⋯ ⋯ ⋯)
  ·exact h.dn _ _ hij ⋯
theorem DsI.one {p:Array Nat} {k:Nat} (h:DsI lt n p k 0):DnS lt p k /\ Idp n p k:=by
 have hq:=h.hq;refine #[fun i j hij hj=>?_,h.id.up ⋯ h.hk];by_cases e:j = k - 1
 ·exact .inl (h.st _ _ ⋯ ⋯ ⋯)
 ·exact h.dn _ _ hij ⋯
theorem DsI.next (W:Wk lt) {p:Array Nat} {k:Nat} (hk:k + 1 <= n) (h1:DnS lt p k) (h2:Idp n p k) (h0:∀ i,i < k -> lt (pg p k) (pg p i) = true):DsI lt n p (k + 1) 0:=by
 have e:k + 1 - (0 + 1) = k:=rfl;refine #[⋯,hk,h2,h1,fun i j a b c=>?_,fun i j a b c d=>?_]
 ·have:j = k:=⋯;subst this;exact h0 i ⋯
 ·have:i = j:=⋯;subst this;exact W.refl _
theorem uE (W:Wk lt):∀ (f:Nat) (p:Array Nat) (k q:Nat),DsI lt n p k q -> k + f <= n ->
  Kok lt n (kas_desc f p k q) (fun r=>k <= r.2.1 /\ r.2.1 <= k + f /\ DsI lt n r.1 r.2.1 r.2.2)
 | 0,p,k,q,hd,h2=>#[Nat.le_refl _,Nat.le_add_right _ _,hd]
 | f + 1,p,k,q,hd,h2=>by
  have hps:=hd.id.r.size;have hq:=hd.hq;refine #[hd.id.r.bd ⋯,hd.id.r.bd ⋯,?_];rcases Bool.eq_false_or_eq_true (lt (pg p k) (pg p (k - 1)))with hc | hc
  ·show Kok lt n (if lt (pg p k) (pg p (k - 1)) = true then _ else _) _;rw [if_pos hc]
   have low:∀ i,i < k -> lt (pg p k) (pg p i) = true:=fun i hi=>by
    by_cases e:i < k - (q + 1)
    ·exact W.ltle hc (W.asym _ _ (hd.st i (k - 1) e ⋯ ⋯))
    ·exact W.ltle hc (hd.ev _ _ ⋯ ⋯ ⋯ ⋯)
   split
   ·rename_i hq0;obtain ⟨r1,r2⟩:=hd.rev W;refine (uE W f _ (k + 1) 0 (.next W ⋯ r1 r2 fun i hi=>?_) ⋯).mono (fun r hr=>#[⋯,⋯,hr.2.2]) _;rw [zT ⋯,zT ⋯,if_neg ⋯];split
    ·exact low _ ⋯
    ·exact low _ hi
   ·have e:q = 0:=⋯;subst e;obtain ⟨r1,r2⟩:=hd.one;exact (uE W f _ (k + 1) 0 (.next W ⋯ r1 r2 low) ⋯).mono (fun r hr=>#[⋯,⋯,hr.2.2]) _
  ·show Kok lt n (if lt (pg p k) (pg p (k - 1)) = true then _ else _) _;rw [if_neg (by rw [hc]; decide)];refine #[hd.id.r.bd ⋯,hd.id.r.bd ⋯,?_];rcases Bool.eq_false_or_eq_true (lt (pg p (k - 1)) (pg p k))with hd2 | hd2
   ·show Kok lt n (if lt (pg p (k - 1)) (pg p k) = true then _ else _) _;rw [if_pos hd2];exact #[Nat.le_refl _,Nat.le_add_right _ _,hd]
   ·show Kok lt n (if lt (pg p (k - 1)) (pg p k) = true then _ else _) _;rw [if_neg (by rw [hd2]; decide)];have eb:k + 1 - (q + 1 + 1) = k - (q + 1):=⋯;refine (uE W f _ (k + 1) (q + 1) #[⋯,⋯,by rw [eb]; exact hd.id,by rw [eb]; exact hd.dn,fun i j a b c=>?_,fun i j a b c d=>?_] ⋯).mono (fun r hr=>#[⋯,⋯,hr.2.2]) _
    ·rw [eb]at a b;by_cases e:j = k
     ·subst e;exact W.lelt hd2 (hd.st _ _ a ⋯ ⋯)
     ·exact hd.st _ _ a b ⋯
    ·rw [eb]at a c;by_cases e:i = k
     ·subst e;by_cases e3:j = i
      ·subst e3; exact W.refl _
      ·exact W.ntr _ _ _ (hd.ev _ _ ⋯ ⋯ ⋯ ⋯) hc
     ·by_cases e3:j = k
      ·subst e3;exact W.ntr _ _ _ hd2 (hd.ev _ _ ⋯ ⋯ ⋯ ⋯)
      ·exact hd.ev _ _ a ⋯ c ⋯
theorem jS (W:Wk lt) {p:Array Nat} {m:Nat} (h1:1 <= m) (hm:m <= n) (hd:DnS lt p m) (hp:Idp n p m):Kok lt n (kas_tail3 m n p) (fun r=>1 <= r.1 /\ r.1 <= n /\ UpS lt r.2 r.1 /\ Idp n r.2 r.1):=by
 have hps:=hp.r.size;have hr:Idp n (kas_rev p 0 m) m:=hp.rev hm;unfold kas_tail3;refine Kok.bind _ ((k9 W (n - m) m hr h1 ⋯ fun i j hij hj=>?_).mono (fun k hk=>#[by show 1 <= k; lia,by show k <= n; lia,hk.2.2.1,hr.up ⋯ (by show k <= n; lia)]) _);rw [zT ⋯,zT ⋯,if_pos ⋯,if_pos ⋯];exact hd _ _ ⋯ ⋯
theorem wQ (W:Wk lt) {p:Array Nat} {m:Nat} (h1:1 <= m) (hm:m + 1 <= n) (hd:DsI lt n p (m + 1) 0):Kok lt n (kas_descPart m n p) (fun r=>1 <= r.1 /\ r.1 <= n /\ UpS lt r.2 r.1 /\ Idp n r.2 r.1):=by
 unfold kas_descPart;refine Kok.bind _ ((uE W (n - (m + 1)) p (m + 1) 0 hd ⋯).mono (fun r hr=>?_) _);obtain ⟨r2,r3,r4⟩:=hr
 (try dsimp only)
 split
 ·obtain ⟨a,b⟩:=r4.rev W;exact jS W ⋯ ⋯ a b
 ·have e:r.2.2 = 0:=⋯;rw [e]at r4;obtain ⟨a,b⟩:=r4.one;exact jS W ⋯ ⋯ a b
theorem X4 (W:Wk lt) {p:Array Nat} (hp:Idp n p 0) (hn:1 <= n):Kok lt n (kas_count n p) (fun r=>1 <= r.1 /\ r.1 <= n /\ UpS lt r.2 r.1 /\ Idp n r.2 r.1):=by
 have hps:=hp.r.size;unfold kas_count;refine Kok.bind _ ((k9 W (n - 1) 1 (hp.up ⋯ ⋯) (Nat.le_refl _) ⋯ fun i j hij hj=>by lia).mono (fun m hm=>?_) _);obtain ⟨m1,m2,mu,ms⟩:=hm;have hm:m <= n:=⋯;have hpm:=hp.up (Nat.zero_le m) hm;by_cases e:(m == n) = true
 ·rw [if_pos e];exact #[by show 1 <= m; lia,hm,mu,hpm]
 ·rw [if_neg e];have hne:m ≠ n:=fun h=>e (by rw [h]; exact beq_self_eq_true _)
  have hlt:lt (pg p m) (pg p (m - 1)) = true:=by
   rcases ms with h | h
   ·lia
   ·exact h
  by_cases h1:m > 1
  ·rw [if_pos h1];refine #[hp.r.bd ⋯,hp.r.bd ⋯,?_];rcases Bool.eq_false_or_eq_true (lt (pg p 0) (pg p (m - 1)))with hc | hc
   ·show Kok lt n (if lt (pg p 0) (pg p (m - 1)) = true then _ else _) _;rw [if_pos hc];exact #[by show 1 <= m; lia,hm,mu,hpm]
   ·show Kok lt n (if lt (pg p 0) (pg p (m - 1)) = true then _ else _) _;rw [if_neg (by rw [hc]; decide)]
    have u0:∀ i,i < m -> Lq lt (pg p 0) (pg p i):=fun i hi=>by
     by_cases h:i = 0
     ·subst h; exact W.refl _
     ·exact (mu 0 i ⋯ hi).le W
    have ul:∀ i,i < m -> Lq lt (pg p i) (pg p (m - 1)):=fun i hi=>by
     by_cases h:i = m - 1
     ·subst h; exact W.refl _
     ·exact (mu i (m - 1) ⋯ ⋯).le W
    have ev:∀ i j,i < m -> j < m -> Lq lt (pg p i) (pg p j):=fun i j hi hj=>W.ntr _ _ _ (ul i hi) (W.ntr _ _ _ hc (u0 j hj));refine wQ W ⋯ ⋯ (.next W ⋯ (fun i j hij hj=>?_) (hpm.rev hm) fun i hi=>?_)
    ·rw [zT ⋯,zT ⋯,if_pos ⋯,if_pos ⋯];exact .inr #[ev _ _ ⋯ ⋯,by rw [hp.hi _ ⋯ ⋯,hp.hi _ ⋯ ⋯]; lia]
    ·rw [zT ⋯,zT ⋯,if_neg ⋯,if_pos ⋯];exact W.ltle hlt (ev _ _ ⋯ ⋯)
  ·rw [if_neg h1];refine wQ W ⋯ ⋯ (.next W ⋯ (fun i j hij hj=>by lia) hpm fun i hi=>?_);have h0:i = m - 1:=⋯;subst h0;exact hlt
theorem uC (W:Wk lt) {p:Array Nat} {k:Nat} (hp:Idp n p k) (hk:k < n) (hu:UpS lt p k):∀ (f l r:Nat),l <= r -> r <= k -> r - l <= f -> (∀ i,i < l -> Lq lt (pg p i) (pg p k)) -> (∀ i,r <= i -> i < k -> lt (pg p k) (pg p i) = true) ->
  Kok lt n (kas_place p k f l r) (fun m=>m <= k /\ (∀ i,i < m -> Lq lt (pg p i) (pg p k)) /\ (∀ i,m <= i -> i < k -> lt (pg p k) (pg p i) = true))
 | 0,l,r,hl,hr,hf,h1,h2=>by
  have:l = r:=⋯;subst this;exact #[hr,h1,h2]
 | f + 1,l,r,hl,hr,hf,h1,h2=>by
  unfold kas_place;by_cases e:l ≥ r
  ·rw [if_pos e];have:l = r:=⋯;subst this;exact #[hr,h1,h2]
  ·rw [if_neg e];refine #[hp.r.bd hk,hp.r.bd ⋯,?_];rcases Bool.eq_false_or_eq_true (lt (pg p k) (pg p ((l + r) / 2)))with hc | hc
   ·show Kok lt n (if lt (pg p k) (pg p ((l + r) / 2)) = true then _ else _) _;rw [if_pos hc];refine uC W hp hk hu f l ((l + r) / 2) ⋯ ⋯ ⋯ h1 fun i hi hik=>?_;by_cases e2:i =(l + r) / 2
    ·subst e2; exact hc
    ·exact W.ltle hc ((hu _ _ ⋯ hik).le W)
   ·show Kok lt n (if lt (pg p k) (pg p ((l + r) / 2)) = true then _ else _) _;rw [if_neg (by rw [hc]; decide)];refine uC W hp hk hu f ((l + r) / 2 + 1) r ⋯ hr ⋯ (fun i hi=>?_) h2;by_cases e2:i =(l + r) / 2
    ·subst e2; exact hc
    ·exact W.ntr _ _ _ ((hu i ((l + r) / 2) ⋯ ⋯).le W) hc
theorem Vb (W:Wk lt):∀ (f:Nat) (p:Array Nat) (k:Nat),Idp n p k -> k + f = n -> UpS lt p k -> Kok lt n (kas_bin f p k) (fun p'=>Rg n p' /\ UpS lt p' n)
 | 0,p,k,hp,hk,hu=>by
  have:k = n:=⋯;subst this;exact #[hp.r,hu]
 | f + 1,p,k,hp,hk,hu=>by
  have hps:=hp.r.size;have hpk:=hp.hi k (Nat.le_refl _) ⋯;refine Kok.bind _ ((uC W hp ⋯ hu k 0 k ⋯ ⋯ ⋯ (fun i hi=>by lia) (fun i h1 h2=>by lia)).mono (fun l hl=>?_) _);obtain ⟨l1,l2,l3⟩:=hl;refine Vb W f _ (k + 1) #[hp.r.bub _ _,fun i hi=>?_,fun i hi hin=>?_] ⋯ fun i j hij hj=>?_
  ·rw [vC ⋯ l1];split
   ·lia
   ·split
    ·have:=hp.lo (i - 1) ⋯; lia
    ·by_cases e:i = k
     ·lia
     ·have:=hp.lo i ⋯; lia
  ·rw [vC ⋯ l1,if_neg ⋯,if_neg ⋯];exact hp.hi i ⋯ hin
  rw [vC ⋯ l1,vC ⋯ l1];by_cases h1:i = l
  ·rw [if_pos h1,if_neg ⋯,if_pos ⋯];exact .inl (l3 _ ⋯ ⋯)
  ·rw [if_neg h1];by_cases h2:j = l
   ·rw [if_pos h2,if_neg ⋯];exact .inr #[l2 _ ⋯,by have:=hp.lo i ⋯; lia]
   ·rw [if_neg h2];by_cases h3:l < i /\ i <= k
    ·rw [if_pos h3,if_pos ⋯];exact hu _ _ ⋯ ⋯
    ·rw [if_neg h3];by_cases h4:l < j /\ j <= k
     ·rw [if_pos h4];by_cases h5:i = j - 1
      ·lia
      ·exact hu _ _ ⋯ ⋯
     ·rw [if_neg h4];exact hu _ _ ⋯ ⋯
theorem Ud (W:Wk lt) (hn:1 <= n):Kok lt n (kas_sort n) (fun p=>Rg n p /\ UpS lt p n):=by
 unfold kas_sort;refine Kok.bind _ ((X4 W (p:=List.toArray (List.range n)) #[by unfold Rg; exact List.Perm.refl _,fun i h=>by lia,fun i _ h=>by simp [pg,Array.getD,h]] hn).mono (fun r hr=>?_) _);obtain ⟨r2,r3,r4,r5⟩:=hr
 (try dsimp only)
 split
 ·have:max r.1 1 = r.1:=⋯;rw [this];exact Vb W _ _ _ r5 ⋯ r4
 ·have:r.1 = n:=⋯;rw [this]at r4;exact #[r5.r,r4]
end
theorem kI {α:Type} {lt:α -> α -> Bool} (W:WkO lt) (d:α) {xs:List α} {P:α -> Bool} (hP:∀ a ∈ xs,∀ b ∈ xs,P a = true -> P b = true -> lt a b = false):(srt lt d xs).filter P = xs.filter P:=by
 unfold srt;split
 ·rfl
 ·rename_i h;have W':Wk (fun i j=>lt (xs.getD i d) (xs.getD j d)):=#[fun a b=>W.asym _ _,fun a b c=>W.ntr _ _ _];obtain ⟨h1,h2⟩:=Kok.run _ (Ud (n:=xs.length) W' ⋯);generalize kW (fun i j=>lt (xs.getD i d) (xs.getD j d)) (kas_sort xs.length) = p at h1 h2
  have e:(List.range xs.length).map (fun i=>xs.getD i d) = xs:=by
   refine List.ext_getElem (by simp) fun i a b=>?_;have hb:i < xs.length:=by simpa using b
   simp [hb]
  have key:p.toList.filter (P ∘ fun i=>xs.getD i d) =(List.range xs.length).filter (P ∘ fun i=>xs.getD i d):=by
   refine List.Perm.eq_of_pairwise (le:=fun a b=>a < b) (fun a b _ _ h1 h2=>by lia) ?_ ?_ (h1.filter _)
   ·have hpw:p.toList.Pairwise fun a b=>Sq (fun i j=>lt (xs.getD i d) (xs.getD j d)) a b:=by
     rw [List.pairwise_iff_getElem];intro i j hi hj hij;have hs:=h1.size;have hi':i < p.size:=by simpa using hi
     have hj':j < p.size:=by simpa using hj
     have q:=h2 i j hij ⋯;have ei:pg p i = p.toList[i]:=by simp [pg,Array.getD,hi']
     have ej:pg p j = p.toList[j]:=by simp [pg,Array.getD,hj']
     rw [ei,ej]at q;exact q
    rw [List.pairwise_filter];refine hpw.imp_of_mem fun {a b} ha hb hab pa pb=>?_;rcases hab with q | q
    ·have m:∀ i ∈ p.toList,xs.getD i d ∈ xs:=fun i hi=>by
      have hl:=aj.mp (h1.mem_iff.mp hi);rw [List.getD_eq_getElem?_getD,List.getElem?_eq_getElem hl];exact List.getElem_mem hl
     exact absurd q (by show ¬ lt (xs.getD a d) (xs.getD b d) = true; rw [hP _ (m a ha) _ (m b hb) pa pb]; decide)
    ·exact q.2
   ·exact (List.pairwise_lt_range).filter _
  rw [List.filter_map,key,<- List.filter_map,e]
end L3
namespace L3
open PySem PySem.Spec PyProof.Rows L2
structure KeyFam (α:Type) where
 dec:α -> List D
 lt:α -> α -> Bool
 fst:Bool
 d0:α
structure KeyFam.Ok {α:Type} (F:KeyFam α):Prop where
 w:WkO F.lt
 eq:∀ a b,xE (F.dec a) (F.dec b) = F.lt a b
 ok:∀ a b,vo (F.dec a) (F.dec b)
 dp:∀ a,xv (F.dec a) < 40
 sh:∀ a,∃ d r,F.dec a = d :: r /\ ((F.fst = true /\ ∃ n,d = .int n) \/ (F.fst = false /\ ∃ l,d = .tup l))
section
variable {X:Cx} {pins:List (Addr × Obj)} {σ:L2.St} {H:Hp} {s:Shared}
theorem Inv.repin {b:Addr} {o o':Obj} {h':Heap} (I:Inv X (pins ++ [(b,o)]) σ H s) (hs:X.s₀.heap.objs.size <= b) (hn:∀ p ∈ X.pn ++ pins,p.1 ≠ b) (sb:Heap.SameBut b s.heap h') (ho:h'.get? b = some o') (hd:∀ v,o'.data ≠ .cell v) :
  Inv X (pins ++ [(b,o')]) σ H { s with heap:=h' }:=by
 have I1:Inv X pins σ H s:=I.unpinned;obtain ⟨p1,p2,p3,p4,p5⟩:=I.pin (b,o) (List.mem_append_right _ (List.mem_append_right _ (ag.mpr rfl)))
 have I2:Inv X pins σ H { s with heap:=h' }:=Inv.turns I1 (fp:=[b]) (t':=s.toks) (fun b' u hb e=>(sb.2 b' (by simpa using hb)).trans e) fun b' hb=>by
  have e:b' = b:=by simpa using hb
  subst e;refine #[p2,p3,p4,.inr hs,fun x c e z=>?_,hn];obtain ⟨v,o1,ho1,hd1⟩:=I.cell x c e;subst z;rw [p1]at ho1;cases ho1;exact p5 v hd1
 exact I2.pins_of fun p hp=>by
  rcases af.mp hp with z | z
  ·exact I2.pin p (List.mem_append_right _ z)
  ·have e:p =(b,o'):=by simpa using z
   subst e;exact #[ho,p2,p3,p4,hd]
theorem Inv.newpin {b:Addr} {o:Obj} (I:Inv X pins σ H s) (hf:yV X pins H b) (ho:s.heap.get? b = some o) (hd:∀ v,o.data ≠ .cell v):Inv X (pins ++ [(b,o)]) σ H s :=
 I.pins_of fun p hp=>by
  rcases af.mp hp with z | z
  ·exact I.pin p (List.mem_append_right _ z)
  ·have e:p =(b,o):=by simpa using z
   subst e;exact #[ho,hf.1,hf.2.1,hf.2.2.1,hd]
theorem U1 (I:Inv X pins σ H s) {A:Around} {b:Bool} {Q:Bool -> Shared -> Prop} (hu:A.units + 50 < cLine):∀ (l m:List D) (xs ys:List V) (its its':List Value) (i:Nat),Iss X.K H l xs -> Iss X.K H m ys -> Vals xs its -> Vals ys its' -> vo l m -> xv l < 40 ->
  (b = true -> i = 0 -> (∃ n r,l = .int n :: r) /\ ∃ n r,m = .int n :: r) -> Q (xE l m) s -> PySem.W.KatLex X.prog X.w A b (decide (its.length < its'.length)) Q (its.zip its') i s
 | [],m,xs,ys,its,its',i,h1,h2,r1,r2,ok,hd,hb,q=>by
  simp only [Iss]at h1;subst h1;cases r1
  have e:xE [] m = decide (([]:List Value).length < its'.length):=by
   have e1:=h2.len;have e2:=r2.length;have e3:m.length = its'.length:=⋯;rw [<- e3]
   cases m with
   | nil=>simp [xE]
   | cons _ _=>simp [xE]
  rw [e]at q;rw [List.zip_nil_left];exact PySem.W.kat_nil q
 | d :: l,[],xs,ys,its,its',i,h1,h2,r1,r2,ok,hd,hb,q=>by
  simp only [Iss]at h2;subst h2;cases r2;simp only [xE]at q;rw [List.zip_nil_right];exact PySem.W.kat_nil (by simpa using q)
 | d :: l,e :: m,xs,ys,its,its',i,h1,h2,r1,r2,ok,hd,hb,q=>by
  simp only [Iss]at h1 h2;obtain ⟨x,xr,rfl,hx,hxr⟩:=h1;obtain ⟨y,yr,rfl,hy,hyr⟩:=h2
  cases r1 with | cons rx rxr =>
  cases r2 with | cons ry ryr =>
  simp only [vo]at ok;simp only [xv]at hd;rename_i u us v vs;rw [List.zip_cons_cons];refine PySem.W.kat_cons (wm I 45 A d e x y u v ⋯ ⋯ hx hy rx ry X.prog X.w _ _ ?_)
  cases he:eqD d e with
  | true =>
   refine PySem.W.kat_yes ?_;have:=U1 I (b:=b) hu l m xr yr us vs (i + 1) hxr hyr rxr ryr ok.2 ⋯ (fun _ z=>absurd z ⋯) (by simpa only [xE,he,if_true] using q);simpa using this
  | false =>
   refine PySem.W.kat_no ?_;have q':Q (ltD d e) s:=by simpa only [xE,he,Bool.false_eq_true,if_false] using q
   by_cases hbi:(b && i == 0) = true
   ·rw [hbi];simp only [Bool.and_eq_true,beq_iff_eq]at hbi;obtain ⟨⟨n,r,e1⟩,n',r',e2⟩:=hb hbi.1 hbi.2;cases e1; cases e2;simp only [Is]at hx hy;subst hx hy;obtain ⟨t,rfl⟩:=rx;obtain ⟨t',rfl⟩:=ry;simp only [ltD]at q';exact oneLt_int q'
   ·rw [show (b && i == 0) = false by simpa using hbi];exact PySem.W.kat_one _ _ (WT I 45 A d e x y u v ⋯ ⋯ ok.1 hx hy rx ry X.prog X.w _ _ q')
theorem VX (I:Inv X pins σ H s) {A:Around} {b:Bool} {Q:Bool -> Shared -> Prop} {E:Value -> Shared -> Prop} (hu:A.units + 50 < cLine) {l m:List D} {x y:V} {u v:Value} (hx:Is X.K H (.tup l) x) (hy:Is X.K H (.tup m) y) (rx:RelV x u) (ry:RelV y v)
  (ok:vo l m) (hd:xv l < 40) (hb:b = true -> (∃ n r,l = .int n :: r) /\ ∃ n r,m = .int n :: r) (q:Q (xE l m) s):wpAny (model X.prog X.w) A (keyLt' (tuples' b) u v) Q E s:=by
 simp only [Is]at hx hy;obtain ⟨a,xs,rfl,h1,h2⟩:=hx;obtain ⟨c,ys,rfl,g1,g2⟩:=hy;cases rx; cases ry;obtain ⟨its,r,⟨o,ho,hoc,n,hod⟩,_⟩:=I.tuple h1;obtain ⟨its',r',⟨o',ho',hoc',n',hod'⟩,_⟩:=I.tuple g1;refine PySem.W.kat_lt ho hod ho' hod' ?_;have:=U1 I (A:=A) (b:=b) (Q:=Q) hu l m xs ys its its' 0 h2 g2 r r' ok hd (fun z _=>hb z) q;simpa using this
theorem WH {α:Type} {F:KeyFam α} (FO:F.Ok) (I:Inv X pins σ H s) {M:Model}:∀ (rs:List α) (acc:List V) (ks:List Value),Iss X.K H (rs.map fun a=>.tup (F.dec a)) acc -> Vals acc ks ->
  ∃ fs,PySem.W.KatTups s.heap ks fs /\ fs.length = rs.length /\ ∀ v ∈ fs,PySem.W.Looks M s.heap (typeOf v) (.type (if F.fst = true then "int" else "tuple"))
 | [],acc,ks,h,r=>by
  simp only [List.map_nil,Iss]at h;subst h;cases r;exact #[[],PySem.W.KatTups.nil,rfl,fun v hv=>by cases hv]
 | a :: rs,acc,ks,h,r=>by
  simp only [List.map_cons,Iss]at h;obtain ⟨x,xr,rfl,hx,hxr⟩:=h
  cases r with | cons rx rxr =>
  rename_i u us;obtain ⟨fs,t1,t2,t3⟩:=WH FO I (M:=M) rs xr us hxr rxr;simp only [Is]at hx;obtain ⟨c,xs,rfl,h1,h2⟩:=hx;cases rx;obtain ⟨its,ri,⟨o,ho,hoc,n,hod⟩,_⟩:=I.tuple h1;obtain ⟨d,dr,ed,hsh⟩:=FO.sh a;rw [ed]at h2;simp only [Iss]at h2;obtain ⟨y,yr,rfl,hy,_⟩:=h2
  cases ri with | cons ry rir =>
  rename_i v vs;refine #[v :: fs,PySem.W.KatTups.cons ho hoc hod (by simp) t1,by simp [t2],fun z hz=>?_];rcases ac.mp hz with e | hz
  ·subst e;rcases hsh with ⟨hf,n',rfl⟩ | ⟨hf,l,rfl⟩
   ·rw [if_pos hf];simp only [Is]at hy;subst hy;obtain ⟨t,rfl⟩:=ry;exact PySem.W.Looks.of_pure rfl
   ·rw [if_neg (by rw [hf]; decide)];simp only [Is]at hy;obtain ⟨c',xs',rfl,g1,_⟩:=hy;cases ry;obtain ⟨its',ri',⟨o',ho',hoc',n',hod'⟩,_⟩:=I.tuple g1;rw [<- hoc'];exact (PySem.W.Looks.ld ho').andThen .now
  ·exact t3 z hz
end
def kj {α:Type} (K:PySem.W.Frag) (F:KeyFam α) (xs:List V) (Q:VK):List V -> Hp -> Prop:=fun acc H'=>∃ rs:List α,Iss K H' (rs.map fun a=>.tup (F.dec a)) acc /\
 ∀ ys:List (α × V),ys = srt (fun p q=>F.lt p.1 q.1) (F.d0,.non) (rs.zip xs) -> ∀ D,H' D = none -> Q (.ref D) (upd H' D (.lst (ys.map (·.2))))
end L3
namespace L3
open PySem PySem.Spec PyProof.Rows L2
section
variable {X:Cx} {pins:List (Addr × Obj)} {σ:L2.St} {H:Hp} {s:Shared}
theorem Inv.fp_of_pin {b:Addr} {o:Obj} (I:Inv X (pins ++ [(b,o)]) σ H s) (hs:X.s₀.heap.objs.size <= b) (hn:∀ p ∈ X.pn ++ pins,p.1 ≠ b):yV X pins H b:=by
 obtain ⟨p1,p2,p3,p4,p5⟩:=I.pin (b,o) (List.mem_append_right _ (List.mem_append_right _ (ag.mpr rfl)));refine #[p2,p3,p4,.inr hs,fun x c e z=>?_,hn];obtain ⟨v,o1,ho1,hd1⟩:=I.cell x c e;subst z;rw [p1]at ho1;cases ho1;exact p5 v hd1
theorem Inv.at_pin {b:Addr} {o:Obj} (I:Inv X (pins ++ [(b,o)]) σ H s):s.heap.get? b = some o:=(I.pin (b,o) (List.mem_append_right _ (List.mem_append_right _ (ag.mpr rfl)))).1
theorem zX {c:String} {xs:Array Value} {n:Nat}:∀ v,(seqObj c xs n).data ≠ .cell v:=fun v z=>by cases z
theorem j3 {D kS:Addr} {e e1:Nat} {st:SortSt} {ks out:List Value} {A:Around} {E:Value -> Shared -> Prop} {P:PySem.Fin -> Shared -> Prop} (I:Inv X ((pins ++ [(D,seqObj "list" #[] e1)]) ++ [(kS,seqObj "list" (List.toArray ks) e)]) σ H s)
  (hD:X.s₀.heap.objs.size <= D) (hK:X.s₀.heap.objs.size <= kS) (nD:∀ p ∈ X.pn ++ pins,p.1 ≠ D) (nK:∀ p ∈ X.pn ++ (pins ++ [(D,seqObj "list" #[] e1)]),p.1 ≠ kS) (hkz:ks.length < 64)
  (hout:(arrOf st).map (·.2) = List.toArray out) (hoz:out.length < 64) (hf:failedOf st = none) (h:∀ s' c,Inv X (pins ++ [(D,seqObj "list" (List.toArray out) c)]) σ H s' -> P (.done (.ret .none)) s') :
  wpAny (model X.prog X.w) A (ksk_tail D false e1 (.ref kS) st) P E s:=by
 have pk:=Inv.at_pin I;have s1:=Heap.SameBut.update s.heap kS (Obj.mapSeq fun _=>(#[]:Array Value));obtain ⟨ck,hck⟩:∃ ck,(s.heap.update kS (Obj.mapSeq fun _=>(#[]:Array Value))).get? kS = some (seqObj "list" #[] ck):=#[_,get?_update_seq pk fun _=>#[]];have I2:=(Inv.repin I hK nK s1 hck zX).unpinned;have pd:=Inv.at_pin I2;have s2:=Heap.SameBut.update (s.heap.update kS (Obj.mapSeq fun _=>(#[]:Array Value))) D (Obj.mapSeq fun _=>List.toArray out);obtain ⟨c2,hc2⟩:∃ c2,((s.heap.update kS (Obj.mapSeq fun _=>(#[]:Array Value))).update D (Obj.mapSeq fun _=>List.toArray out)).get? D = some (seqObj "list" (List.toArray out) c2):=#[_,get?_update_seq pd fun _=>List.toArray out];have I3:=Inv.repin I2 hD nD s2 hc2 zX;unfold ksk_tail
 (try dsimp only)
 rw [hout];refine wpAny_bind (listUpdate_at pk rfl ?_ (by rw [List.size_toArray,sizeLine_eq]; lia) (Nat.zero_le _));refine wpAny_bind (wpAny_letGo ?_);refine wpAny_bind (seqEpoch_at pd rfl ?_);refine wpAny_bind (listUpdate_at pd rfl ?_ (Nat.zero_le _) (by simp only [Bool.false_eq_true,if_false]; rw [List.size_toArray,sizeLine_eq]; lia));rw [hf];simp only [bne_self_eq_false,Bool.false_eq_true,if_false];exact wpAny_pure (h _ c2 I3)
theorem J4 {α:Type} {F:KeyFam α} (FO:F.Ok) {D kS:Addr} {e e1:Nat} {ks its:List Value} {acc xs:List V} {rs:List α} {A:Around} {E:Value -> Shared -> Prop} {P:PySem.Fin -> Shared -> Prop} (hu:A.units + 50 < cLine)
  (I:Inv X ((pins ++ [(D,seqObj "list" #[] e1)]) ++ [(kS,seqObj "list" (List.toArray ks) e)]) σ H s)
  (hD:X.s₀.heap.objs.size <= D) (hK:X.s₀.heap.objs.size <= kS) (nD:∀ p ∈ X.pn ++ pins,p.1 ≠ D) (nK:∀ p ∈ X.pn ++ (pins ++ [(D,seqObj "list" #[] e1)]),p.1 ≠ kS)
  (rk:Vals acc ks) (rv:Vals xs its) (hl:ks.length = its.length) (hz:its.length < 64) (hR:Iss X.K H (rs.map fun a=>.tup (F.dec a)) acc)
  (h:∀ s' (ys:List (α × V)) (out:List Value) c,ys = srt (fun p q=>F.lt p.1 q.1) (F.d0,.non) (rs.zip xs) -> Vals (ys.map (·.2)) out -> out.length < 64 -> Inv X (pins ++ [(D,seqObj "list" (List.toArray out) c)]) σ H s' -> P (.done (.ret .none)) s') :
  wpAny (model X.prog X.w) A (ksk_end D false its.toArray e1 (.ref kS) (List.toArray ks)) P E s:=by
 have L1:=hR.len;have L2:=rk.length;have L3:=rv.length;rw [List.length_map]at L1;have lz:(rs.zip xs).length = its.length:=by rw [List.length_zip]; lia
 unfold ksk_end;simp only [Bool.false_eq_true,if_false];by_cases h2:its.toArray.size < 2
 ·rw [if_pos h2,if_pos h2];refine wpAny_bind (wpAny_pure ?_);rw [StateT.run_pure];refine wpAny_bind (wpAny_pure ?_)
  (try dsimp only)
  refine j3 (out:=its) I hD hK nD nK ⋯ ?_ hz rfl fun s' c I'=>h s' (rs.zip xs) its c ?_ ?_ hz I'
  ·show ((List.toArray ks).zip its.toArray).map (·.2) = _;apply Array.toList_inj.mp;rw [Array.toList_map,ksk_zip];exact List.map_snd_zip (by simp; lia)
  ·rw [List.size_toArray]at h2;unfold srt;rw [if_pos ⋯]
  ·rw [List.map_snd_zip ⋯];exact rv
 ·rw [if_neg h2,if_neg h2];rw [List.size_toArray]at h2;obtain ⟨fs,t1,t2,t3⟩:=WH FO I (M:=model X.prog X.w) rs acc ks hR rk;refine wpAny_bind (PySem.W.kat_kind t1 ⋯ t3 (by simp) ?_)
  have hfst:((Value.type (if F.fst = true then "int" else "tuple"):Value) != Value.type "tuple") = F.fst:=by
   cases hF:F.fst with
   | true=>rfl
   | false=>rfl
  rw [hfst];have W:Wk (fun i j=>F.lt (rs.getD i F.d0) (rs.getD j F.d0)):=#[fun a b=>FO.w.asym _ _,fun a b c=>FO.w.ntr _ _ _];have ok:=uo (n:=its.length) W ⋯
  have lt_eq:(fun i j=>F.lt (rs.getD i F.d0) (rs.getD j F.d0)) =(fun i j=>(fun (p q:α × V)=>F.lt p.1 q.1) ((rs.zip xs).getD i (F.d0,.non)) ((rs.zip xs).getD j (F.d0,.non))):=by
   have one:∀ i,((rs.zip xs).getD i (F.d0,V.non)).1 = rs.getD i F.d0:=fun i=>by
    by_cases hi:i < its.length
    ·have a1:i < rs.length:=⋯;have a2:i < xs.length:=⋯;rw [List.getD_eq_getElem?_getD,List.getD_eq_getElem?_getD,List.getElem?_eq_getElem ⋯,List.getElem?_eq_getElem a1];simp
    ·rw [List.getD_eq_getElem?_getD,List.getD_eq_getElem?_getD,List.getElem?_eq_none ⋯,List.getElem?_eq_none ⋯];rfl
   funext i j;simp only [one]
  have wp:=Kok.wp (n:=its.length) (cmp:=PySem.W.kas_ask X.prog X.w A (tuples' F.fst) ks) (I:=fun s'=>Inv X ((pins ++ [(D,seqObj "list" #[] e1)]) ++ [(kS,seqObj "list" (List.toArray ks) e)]) σ H s')
   (R:=fun p s'=>p = kW (fun i j=>F.lt (rs.getD i F.d0) (rs.getD j F.d0)) (PySem.W.kas_sort its.length) /\ Inv X ((pins ++ [(D,seqObj "list" #[] e1)]) ++ [(kS,seqObj "list" (List.toArray ks) e)]) σ H s')
   (fun i j C s' hi hj I' hC=>?_) (fun p s' hp I'=>#[hp,I']) _ s I (Kok.same _ ok)
  ·have run:=PySem.W.kat_run (E:=E) (vs:=its) (ks:=ks) (Q:=fun st' s'=>∃ p:Array Nat,p.size = its.length /\ arrOf st' = p.map (PySem.W.kas_item (ks.toArray.zip its.toArray)) /\ failedOf st' = none /\ _) hl ⋯ hz (fun p' st' s' a1 a2 a3 a4=>#[p',a1,a2,a3,a4]) wp;refine wpAny_bind (wpAny_mono run ?_ fun _ _ e=>e);rintro ⟨⟨⟩,st'⟩ s' ⟨p,hp,har,hf,hpk,I'⟩
   (try dsimp only)
   have hout:=PySem.W.kat_snds (ks:=ks) (vs:=its) hl har;have hR1:Rg its.length p:=by rw [hpk]; exact (Kok.run _ ok).1
   have g1:(p.toList.map fun i=>(rs.zip xs).getD i (F.d0,.non)) = srt (fun p q=>F.lt p.1 q.1) (F.d0,.non) (rs.zip xs):=by
    unfold srt;rw [if_neg ⋯,lz,<- lt_eq,<- hpk]
   have olen:(p.toList.map fun i=>its.getD i Value.none).length = its.length:=by rw [List.length_map,Array.length_toList,hp]
   refine j3 (out:=p.toList.map fun i=>its.getD i Value.none) I' hD hK nD nK ⋯ hout ⋯ hf fun s2 c I2=>h s2 _ _ c g1 ?_ ⋯ I2;rw [List.map_map]
   have all:∀ (js:()),(∀ j ∈ js,j < its.length) -> Vals (js.map ((fun x:α × V=>x.2) ∘ fun i=>(rs.zip xs).getD i (F.d0,.non))) (js.map fun i=>its.getD i Value.none):=by
    intro js
    induction js with
    | nil=>intro _; exact .nil
    | cons j js ih =>
     intro hj;refine .cons ?_ (ih fun i hi=>hj i (List.mem_cons_of_mem _ hi));have hjl:=hj j List.mem_cons_self;have a1:j < xs.length:=⋯;obtain ⟨u,hu1,ru⟩:=z6 rv (j:=j) (x:=xs[j]) (List.getElem?_eq_getElem a1)
     have e1:((rs.zip xs).getD j (F.d0,V.non)).2 = xs[j]:=by
      rw [List.getD_eq_getElem?_getD,List.getElem?_eq_getElem ⋯];simp
     have e2:its.getD j Value.none = u:=by rw [List.getD_eq_getElem?_getD,hu1]; rfl
     show RelV ((rs.zip xs).getD j (F.d0,V.non)).2 (its.getD j Value.none);rw [e1,e2];exact ru
   exact all p.toList fun j hj=>aj.mp (hR1.mem_iff.mp hj)
  ·have a1:i < rs.length:=⋯;have a2:j < rs.length:=⋯;have gi:(rs.map fun a=>_root_.L3.D.tup (F.dec a))[i]? = some (.tup (F.dec rs[i])):=by rw [List.getElem?_map,List.getElem?_eq_getElem a1]; rfl
   have gj:(rs.map fun a=>_root_.L3.D.tup (F.dec a))[j]? = some (.tup (F.dec rs[j])):=by rw [List.getElem?_map,List.getElem?_eq_getElem a2]; rfl
   obtain ⟨x,hx,ix⟩:=hR.at gi;obtain ⟨y,hy,iy⟩:=hR.at gj;obtain ⟨u,hu1,ru⟩:=z6 rk hx;obtain ⟨v,hv1,rv1⟩:=z6 rk hy;have e1:ks.getD i Value.none = u:=by rw [List.getD_eq_getElem?_getD,hu1]; rfl
   have e2:ks.getD j Value.none = v:=by rw [List.getD_eq_getElem?_getD,hv1]; rfl
   have e3:rs.getD i F.d0 = rs[i]:=by rw [List.getD_eq_getElem?_getD,List.getElem?_eq_getElem a1]; rfl
   have e4:rs.getD j F.d0 = rs[j]:=by rw [List.getD_eq_getElem?_getD,List.getElem?_eq_getElem a2]; rfl
   unfold PySem.W.kas_ask;rw [e1,e2];refine VX I' hu ix iy ru rv1 (FO.ok _ _) (FO.dp _) (fun hb=>?_) ?_
   ·obtain ⟨d,r,ed,hd⟩:=FO.sh rs[i];obtain ⟨d',r',ed',hd'⟩:=FO.sh rs[j];rcases hd with ⟨_,n,rfl⟩ | ⟨z,_⟩
    ·rcases hd' with ⟨_,n',rfl⟩ | ⟨z,_⟩
     ·exact #[#[n,r,ed],n',r',ed']
     ·rw [hb]at z; cases z
    ·rw [hb]at z; cases z
   ·rw [FO.eq,<- e3,<- e4];exact hC s' I'
end
end L3
namespace L3
open PySem PySem.Spec PyProof.Rows L2
def yo (kc:V -> Hp -> VK -> Prop):List V -> List V -> Hp -> (List V -> Hp -> Prop) -> Prop
 | [],acc,H,Q=>Q acc H
 | x :: xs,acc,H,Q=>kc x H (fun k H'=>yo kc xs (acc ++ [k]) H' Q)
section
variable {X:Cx} {pins:List (Addr × Obj)} {σ:L2.St} {H:Hp} {s:Shared}
theorem Ul {α:Type} {F:KeyFam α} (FO:F.Ok) {k:Nat} {q:Addr} {kc:V -> Hp -> VK -> Prop} (hr:Room (k + 2) X.A)
  (hkc:∀ (pins':List (Addr × Obj)) (s:Shared) (H:Hp) (x:V) (u:Value) (Q:VK),Inv X pins' σ H s -> RelV x u -> kc x H Q -> wpAny (model X.prog X.w) X.A.in1.in1 (call (.ref q) [u]) (EP X pins' σ Q) (fun _ _=>False) s)
  {D kS:Addr} {e1:Nat} {its:List Value} {xs:List V} {E:Value -> Shared -> Prop} {P:PySem.Fin -> Shared -> Prop} {Q:VK}
  (I:Inv X ((pins ++ [(D,seqObj "list" #[] e1)]) ++ [(kS,seqObj "list" #[] 0)]) σ H s)
  (hD:X.s₀.heap.objs.size <= D) (hK:X.s₀.heap.objs.size <= kS) (nD:∀ p ∈ X.pn ++ pins,p.1 ≠ D) (nK:∀ p ∈ X.pn ++ (pins ++ [(D,seqObj "list" #[] e1)]),p.1 ≠ kS)
  (rv:Vals xs its) (hz:its.length < 64)
  (ht:yo kc xs [] H (kj X.K F xs Q))
  (hP:∀ s',EP X pins σ Q (.ref D) s' -> P (.done (.ret .none)) s') :
  wpAny (model X.prog X.w) X.A.in1.in1 (ksk_rest D (.ref q) false its.toArray e1 (.ref kS)) P E s:=by
 unfold ksk_rest;refine wpAny_bind (wpAny_rule ?_);rw [List.forIn_toArray]
 refine wpAny_bind (ksk_fold (fun j s'=>∃ acc ks e H',Inv X ((pins ++ [(D,seqObj "list" #[] e1)]) ++ [(kS,seqObj "list" (List.toArray ks) e)]) σ H' s' /\ Vals acc ks /\ ks.length = j /\ yo kc (xs.drop j) acc H' (kj X.K F xs Q))
  its 0 s #[[],[],0,H,I,.nil,rfl,ht] (fun j x s1 hx hJ=>?_) fun s1 hJ=>?_)
 ·obtain ⟨acc,ks,e,H1,I1,rk,hkl,tk⟩:=hJ;rw [Nat.zero_add]at hkl tk;have hjl:j < its.length:=(ae.mp hx).1;have L3:=rv.length;obtain ⟨u,hu,ru⟩:=z6 rv (j:=j) (x:=xs[j]) (List.getElem?_eq_getElem ⋯);rw [hx]at hu;cases hu;rw [List.drop_eq_getElem_cons ⋯]at tk;refine wpAny_bind (wpAny_attempt (wpAny_mono (hkc _ _ _ _ _ _ I1 ru tk) (fun kv s2 hk=>?_) fun _ _ z=>z.elim));obtain ⟨v,H2,I2,rv2,tk2⟩:=hk;have pk:=Inv.at_pin I2;have sb:=Heap.SameBut.update s2.heap kS (Obj.mapSeq (·.push kv));have ea:(List.toArray ks).push kv = List.toArray (ks ++ [kv]):=by simp
  obtain ⟨c2,hc2⟩:∃ c2,(s2.heap.update kS (Obj.mapSeq (·.push kv))).get? kS = some (seqObj "list" (List.toArray (ks ++ [kv])) c2):=#[_,by rw [<- ea]; exact get?_update_seq pk (·.push kv)];have I3:=Inv.repin I2 hK nK sb hc2 zX
  (try dsimp only)
  refine wpAny_bind (listUpdate_at pk rfl ?_ (by rw [List.size_toArray,sizeLine_eq]; lia) (by rw [Array.size_push,List.size_toArray,sizeLine_eq]; lia));refine wpAny_pure #[rfl,acc ++ [v],ks ++ [kv],c2,H2,I3,rk.append (.cons rv2 .nil),by rw [List.length_append,List.length_singleton,hkl]; lia,?_];rw [Nat.zero_add];exact tk2
 ·obtain ⟨acc,ks,e,H1,I1,rk,hkl,tk⟩:=hJ;rw [Nat.zero_add]at hkl tk;have L3:=rv.length;rw [<- L3,List.drop_length]at tk;obtain ⟨rs,hR,hq⟩:=tk
  (try dsimp only)
  refine wpAny_bind (listItems_at (Inv.at_pin I1) rfl ?_);refine J4 FO (by have:=hr.in1.in1.un; lia) I1 hD hK nD nK rk rv hkl hz hR fun s' ys out c p1 p3 p4 I'=>hP s' ?_;have fp:=Inv.fp_of_pin I' hD nD;refine #[.ref D,_,Inv.track I'.unpinned (a:=D) (o:=.lst (ys.map (·.2))) fp #[?_,out,c,p3,Inv.at_pin I'],rfl,hq ys p1 D fp.1];rw [p3.length,sizeLine_eq];lia
theorem ZR {α:Type} {F:KeyFam α} (FO:F.Ok) {k:Nat} {q l:Addr} {xs:List V} {kc:V -> Hp -> VK -> Prop} {Q:VK} (hr:Room (k + 2) X.A)
  (hkc:∀ (pins':List (Addr × Obj)) (s:Shared) (H:Hp) (x:V) (u:Value) (Q:VK),Inv X pins' σ H s -> RelV x u -> kc x H Q -> wpAny (model X.prog X.w) X.A.in1.in1 (call (.ref q) [u]) (EP X pins' σ Q) (fun _ _=>False) s)
  (I:Inv X pins σ H s) (hS:SqL X.K H l xs) (hz:xs.length < 64) (ht:yo kc xs [] H (kj X.K F xs Q)) :
  wpAny (model X.prog X.w) X.A (call (.builtin "sorted") [.ref l] [(Str.ofString "key",.ref q)]) (EP X pins σ Q) X.xe s:=by
 obtain ⟨its,rv,pl,_⟩:=I.list hS;have hlen:=rv.length;refine call_function_entry_kw kind_sorted plain_sorted entry_sorted (ksk_s1 _ _) ?_;unfold Builtin.«sorted»;refine wpAny_bind (m:=checkCount "sorted" 1 1 _) (wpAny_pure ?_);refine wpAny_bind (collect_list pl.isList ?_ (by rw [sizeLine_eq]; lia));refine wpAny_bind (wpAny_newList ?_ (by rw [sizeLine_eq]; lia));generalize hh1:((s.heap.push (seqObj "list" #[] 0)).update s⁻¹ (Obj.mapSeq (· ++ its.toArray))) = h1;have sz1:h1.objs.size = s⁻¹ + 1:=by rw [<- hh1,Heap.size_update,size_push']
 have kp1:∀ b o,s.heap.get? b = some o -> h1.get? b = some o:=fun b o e=>by
  have hlt:b < s⁻¹:=Heap.lt_size e;rw [<- hh1,Heap.get?_update_ne _ _ _ _ (Nat.ne_of_lt hlt),Heap.get?_push_ne _ _ _ (Nat.ne_of_lt hlt)];exact e
 have hoL:(h1.push (seqObj "list" its.toArray 0)).get? h1.objs.size = some (seqObj "list" its.toArray 0):=Heap.get?_push_size _ rfl;show wpAny _ _ _ _ _ { s with heap:=h1.push (seqObj "list" its.toArray 0) };refine wpAny_bind (wpAny_holding (wpAny_call_entry_kw slot_list_sort #[_,hoL,rfl] entry_list_sort ?body (ksk_l1 _ _)));show wpAny _ _ (Builtin.«list.sort» #[[.ref h1.objs.size],[(Str.ofString "key",.ref q)]]) _ _ _;rw [ksk_t1];generalize hh2:h1.push (seqObj "list" its.toArray 0) = h2 at hoL;have sz2:h2.objs.size = h1.objs.size + 1:=by rw [<- hh2,size_push']
 have kp2:∀ b o,s.heap.get? b = some o -> h2.get? b = some o:=fun b o e=>by rw [<- hh2]; exact Heap.get?_push_of_some _ (kp1 b o e)
 generalize hDD:h1.objs.size = D at hoL;obtain ⟨e1,ho1⟩:∃ e1,(h2.update D (Obj.mapSeq fun _=>(#[]:Array Value))).get? D = some (seqObj "list" #[] e1):=#[_,get?_update_seq hoL fun _=>#[]];have hDs:s⁻¹ <= D:=by rw [<- hDD,sz1]; exact Nat.le_succ _
 have sb:=Heap.SameBut.update h2 D (Obj.mapSeq fun _=>(#[]:Array Value));unfold ksk_tree;refine wpAny_bind (listItems_at hoL rfl ?_);refine wpAny_bind (listUpdate_at hoL rfl ?_ (by rw [List.size_toArray,sizeLine_eq]; lia) (Nat.zero_le _));refine wpAny_bind (seqEpoch_at ho1 rfl ?_);refine wpAny_bind (wpAny_newTuple ?_ (by show its.length <= _; rw [sizeLine_eq]; lia));refine wpAny_bind (wpAny_newList ?_ (Nat.zero_le _));refine wpAny_holding ?_;generalize hh3:(h2.update D (Obj.mapSeq fun _=>(#[]:Array Value))).push (seqObj "tuple" its.toArray 0) = h3;have sz3:h3.objs.size = s⁻¹ + 3:=by rw [<- hh3,size_push',Heap.size_update,sz2,sz1]
 have hoK:(h3.push (seqObj "list" #[] 0)).get? h3.objs.size = some (seqObj "list" #[] 0):=Heap.get?_push_size _ rfl;have hoD:(h3.push (seqObj "list" #[] 0)).get? D = some (seqObj "list" #[] e1):=Heap.get?_push_of_some _ (by rw [<- hh3]; exact Heap.get?_push_of_some _ ho1)
 have kp3:∀ b o,s.heap.get? b = some o -> (h3.push (seqObj "list" #[] 0)).get? b = some o:=fun b o e=>by
  have hlt:b < s⁻¹:=Heap.lt_size e;refine Heap.get?_push_of_some _ ?_;rw [<- hh3];exact Heap.get?_push_of_some _ ((sb.2 b (Nat.ne_of_lt (Nat.lt_of_lt_of_le hlt hDs))).trans (kp2 b o e))
 have I1:Inv X pins σ H { s with heap:=h3.push (seqObj "list" #[] 0) }:=I.kept (t':=s.toks) kp3;have fD:yV X pins H D:=I.fpOk ⋯ (I.hok.fresh ⋯);have fK:yV X pins H h3.objs.size:=I.fpOk ⋯ (I.hok.fresh ⋯);have I2:=Inv.newpin I1 fD hoD zX
 have nK:∀ p ∈ X.pn ++ (pins ++ [(D,seqObj "list" #[] e1)]),p.1 ≠ h3.objs.size:=fun p hp=>by
  rcases af.mp hp with z | z
  ·exact fK.2.2.2.2.2 p (List.mem_append_left _ z)
  ·rcases af.mp z with z | z
   ·exact fK.2.2.2.2.2 p (List.mem_append_right _ z)
   ·have e:p =(D,seqObj "list" #[] e1):=by simpa using z
    subst e;show D ≠ _;lia
 have I3:=Inv.newpin I2 (b:=h3.objs.size) #[fK.1,fK.2.1,fK.2.2.1,fK.2.2.2.1,fK.2.2.2.2.1,nK] hoK zX;have hsz:=I.sz;have hK0:X.s₀.heap.objs.size <= h3.objs.size:=⋯;exact Ul FO hr hkc I3 ⋯ hK0 fD.2.2.2.2.2 nK rv ⋯ ht fun s' hE=>#[_,rfl,wpAny_pure #[_,rfl,hE]]
end
end L3
namespace L3
open PySem PySem.Spec PyProof.Rows L2
section
variable {X:Cx} {pins:List (Addr × Obj)} {σ:L2.St} {H:Hp} {s:Shared}
end
end L3
namespace L3
open PySem PySem.Spec PyProof.Rows L2
noncomputable def vk (X:Cx) (N:List Str) (s:Shared) (H:Hp) (qual:Str) (scope:Scope) (f:Addr) (cd:Value) (cl:List (Str × Addr)):Cx where
 prog:=X.prog
 w:=X.w
 K:=X.K
 mg:=X.mg
 base:=X.base
 A:=X.A.in1.in1.deeper (PySem.W.envX qual scope s⁻¹ f cd cl)
 N:=N
 s₀:=s
 H₀:=H
 env:=PySem.W.envX qual scope s⁻¹ f cd cl
 outer:=X.stack
 stack:=PySem.W.envX qual scope s⁻¹ f cd cl :: X.stack
 ex:=[]
 calm:=true
 fn:=fun _=>false
 pn:=[]
 xe:=fun _ _=>False
structure Vx (p y:Str) (scope:Scope):Prop where
 kind:scope.kind = .function
 co:scope.isCoroutine = false
 gen:scope.isGenerator = false
 nocell:∀ z ∈ scope.names,z.2 ≠ .cell
 par:scope.names.lookup p = some .local
 fre:scope.names.lookup y = some .free
 one:∀ q ∈ scope.names,q.2 = .free -> q.1 = y
 ne:p ≠ y
section
variable {X:Cx} {pins:List (Addr × Obj)} {σ:L2.St} {H:Hp} {s:Shared} {p y name qual:Str} {scope:Scope} {params:Arguments} {body:Expr} {f c' c:Addr} {pm ctv cv:Value} {k iy:Nat} {vy x:V} {u:Value} {Q:VK} {t:TE}
theorem V5 (S:Vx p y scope) (hd:X.A.in1.in1.handled = none) (I:Inv X pins σ H s) (hy:X.N[iy]? = some y) (hσ:σ[iy]? = some (some vy)) (hvis:X.env.scope.names.lookup y = some .cell) (hc:X.env.cells.lookup y = some c) (rx:RelV x u) {h₁:Heap} {tk:Nat}
  (hns:h₁.Ns s⁻¹ (fun z=>[(p,u)].reverse.lookup z)) (hk₁:∀ b o,s.heap.get? b = some o -> h₁.get? b = some o) :
  Inv (vk X [p,y] s H qual scope f cv [(y,c)]) [] [some x,some vy] H { s with heap:=h₁,toks:=tk }:=by
 obtain ⟨m,hn,hl⟩:=I.loc;obtain ⟨uy,ry,lk⟩:=hl iy y vy hy hσ (.inr (.inl hvis))
 have hcell:s.heap.IsCell c (some uy):=by
  rcases lk with ⟨z,_⟩ | ⟨_,c2,e2,z⟩
  ·have z':X.env.scope.names.lookup y = some .local:=z;rw [hvis]at z';cases z'
  ·rw [hc]at e2;cases e2;exact z
 have hcell':h₁.IsCell c (some uy):=by
  obtain ⟨o,e,d⟩:=hcell;exact #[o,hk₁ _ _ e,d]
 have e0:=I.env0;have noA:∀ b:Addr,b ∉ (vk X [p,y] s H qual scope f cv [(y,c)]).ex:=fun b z=>absurd (show b ∈ ([]:List Addr)from z) (by simp)
 have lkc:∀ z d,List.lookup z [(y,c)] = some d -> z = y /\ d = c:=fun z d h=>by
  rw [List.lookup_cons]at h;by_cases hz:(z == y) = true
  ·rw [hz]at h;cases h;exact #[by simpa using hz,rfl]
  ·rw [show (z == y) = false by simpa using hz]at h;cases h
 have lky:List.lookup y [(y,c)] = some c:=by rw [List.lookup_cons]; simp
 refine #[#[e0.mod,S.kind,rfl,rfl,Nat.le_refl _,fun z z' d h1 h2=>?_,fun z hz=>?_,fun z d h _=>?_,fun _=>hd,Around.frames_deeper e0.frames,.inr #[rfl,rfl],fun b z=>absurd z (noA b),e0.bs,e0.bsz,fun b _ _=>noA b,fun b z=>absurd z (noA b),e0.funs,e0.frf],
  rfl,e0.bare,Un.kept hk₁,#[_,hns,fun i z v h1 h2 h3=>?_],fun z d h=>?_,e0.hok.fresh (Nat.le_refl _),fun z d h=>?_,fun q hq=>absurd (show q ∈ ([]:List (Addr × Obj))from hq) (by simp),e0.hok.kept hk₁,rfl]
 ·rw [(lkc _ _ h1).1,(lkc _ _ h2).1]
 ·have hz':scope.names.lookup z = some .cell \/ scope.names.lookup z = some .free:=hz;rcases hz' with hz' | hz'
  ·exact absurd rfl (S.nocell _ (PySem.mem_of_lookup hz'))
  ·rw [show z = y from S.one _ (PySem.mem_of_lookup hz') rfl];exact #[c,lky]
 ·exact absurd (show (false:Bool) = true from h) ∅
 ·match i,h1,h2 with
  | 0,h1,h2 =>
   cases h1;cases h2;refine #[u,rx,.inl #[S.par,?_]];show List.lookup p [(p,u)].reverse = some u;simp [List.lookup]
  | 1,h1,h2 =>
   cases h1;cases h2;exact #[uy,ry,.inr #[.inr S.fre,c,lky,hcell']]
  | i + 2,h1,h2=>simp at h2
 ·obtain ⟨_,rfl⟩:=lkc z d h;exact #[_,hcell']
 ·obtain ⟨_,rfl⟩:=lkc z d h;exact I.freeC y _ hc
theorem XA (S:Vx p y scope) (hr:Room (k + 3) X.A) (hbind:bindArgs (PySem.W.kla_fn name qual params body scope [(y,c)] pm cv ctv) #[[u],[]] = pure [(p,u)]) (I:Inv X pins σ H s)
  (ho:s.heap.get? f = some { cls:=.type "function",data:=.func (PySem.W.kla_fn name qual params body scope [(y,c)] pm cv ctv) }) (hcd:s.heap.CodeRec cv qual) (hy:X.N[iy]? = some y) (hσ:σ[iy]? = some (some vy)) (hvis:X.env.scope.names.lookup y = some .cell) (hc:X.env.cells.lookup y = some c)
  (rx:RelV x u) (hb:PE (vk X [p,y] s H qual scope f cv [(y,c)]) body t) (h:t [some x,some vy] H Q) :
  wpAny (model X.prog X.w) X.A.in1.in1 (call (.ref f) [u]) (EP X pins σ Q) (fun _ _=>False) s:=by
 have hr2:Room (k + 1) X.A.in1.in1:=hr.in1.in1;refine wpAny_call (PySem.W.kla_callFunE hr2.depth ho rfl S.co S.gen rfl hcd ?_);rw [hbind];refine wpAny_pure (wpAny_newFunctionEnv S.nocell (fun z hz=>?_) (fun h₁ hns hsb=>?_) S.kind)
 ·have e:z =(p,u):=by simpa using hz
  subst e;exact S.par
 have hk₁:∀ b o,s.heap.get? b = some o -> h₁.get? b = some o:=fun b o e=>hsb.extBut b o (Nat.ne_of_lt (Heap.lt_size e)) (Heap.get?_push_of_some _ e);refine #[I.nolimit.keeps hk₁,?_];have I1:=V5 (qual:=qual) (f:=f) (cv:=cv) (tk:=s.toks + 1) S hr2.hd I hy hσ hvis hc rx hns hk₁;show codeAny _ _ (.expr body (PySem.W.envX qual scope s⁻¹ f cv [(y,c)])) _ _;refine PySem.W.kla_codeExpr (wpAny_mono (hb [] _ _ H Q I1 h) (fun v s' hv=>?_) fun _ _ z=>False.elim z);obtain ⟨w',H',J,rw',q⟩:=hv;exact I.after #[w',H',J.os,J.bare,J.base,J.hok,rw',q]
end
end L3
namespace L3
open PySem PySem.Spec PyProof.Rows L2
noncomputable def cdE (c':Addr) (q:Str):HO:=.ext fun h=>h.CodeRec (.ref c') q
noncomputable def fnE (f:Addr) (o:Obj):HO:=.ext fun h=>h.get? f = some o
def TabOk (H:Hp) (P:Addr) (pos:Pos) (q:Str):Prop :=
 ∃ ps:Array Value,H P = some (.tbl ps) /\ TriplesOk ps.toList /\ (codeAmong pos ps.toList = none \/ ∃ c',codeAmong pos ps.toList = some (.ref c') /\ H c' = some (cdE c' q))
def SamT (P:Addr) (H H':Hp):Prop:=∀ b o,b ≠ P -> H b = some o -> H' b = some o
def LamAt (H:Hp) (f:Addr) (name qual:Str) (params:Arguments) (body:Expr) (scope:Scope) (cl:List (Str × Addr)):Prop :=
 ∃ (c':Addr) (pm ctv:Value),H c' = some (cdE c' qual) /\ H f = some (fnE f { cls:=.type "function",data:=.func (PySem.W.kla_fn name qual params body scope cl pm (.ref c') ctv) })
theorem Jb {P:Program} {w:World} {H:Hp} {h:Heap} {c':Addr} {q:Str} (x:h.CodeRec (.ref c') q):ObjOk P w H h c' (cdE c' q):=by
 refine #[x,?_,fun h1 h2 a k=>?_]
 ·obtain ⟨c,o,vs,t,e,g,_⟩:=x;cases e;exact #[o,g]
 ·obtain ⟨c,o,vs,t,e,g,r⟩:=a;cases e;exact #[_,o,vs,t,rfl,k o g,r]
theorem ZZ {P:Program} {w:World} {H:Hp} {h:Heap} {f:Addr} {o:Obj} (x:h.get? f = some o):ObjOk P w H h f (fnE f o) :=
 #[x,#[o,x],fun h1 h2 a k=>k o a]
section
variable {X:Cx} {pins:List (Addr × Obj)} {σ:L2.St} {H:Hp} {s:Shared}
theorem Inv.grow {P c' f:Addr} {ps more:Array Value} {o:Obj} {q:Str} {h':Heap} {tk:Nat} (I:Inv X pins σ H s) (hP:H P = some (.tbl ps)) (hk:∀ b u,b ≠ P -> s.heap.get? b = some u -> h'.get? b = some u) (hP':h'.get? P = some { cls:=.none,data:=.fields (ps ++ more) })
  (hc:s⁻¹ <= c') (hf:s⁻¹ <= f) (hcf:c' ≠ f) (hcr:h'.CodeRec (.ref c') q) (hfo:h'.get? f = some o) :
  Inv X pins σ (upd (upd (upd H P (.tbl (ps ++ more))) c' (cdE c' q)) f (fnE f o)) { s with heap:=h',toks:=tk }:=by
 have Pl:P < s⁻¹:=I.hok.lt hP;have hPc:P ≠ c':=Nat.ne_of_lt (Nat.lt_of_lt_of_le Pl hc);have hPf:P ≠ f:=Nat.ne_of_lt (Nat.lt_of_lt_of_le Pl hf)
 have old:∀ b,b < s⁻¹ -> b ≠ P -> (upd (upd (upd H P (.tbl (ps ++ more))) c' (cdE c' q)) f (fnE f o)) b = H b:=fun b hb hbP=>by
  rw [zk (Nat.ne_of_lt (Nat.lt_of_lt_of_le hb hf)),zk (Nat.ne_of_lt (Nat.lt_of_lt_of_le hb hc)),zk hbP]
 have atP:(upd (upd (upd H P (.tbl (ps ++ more))) c' (cdE c' q)) f (fnE f o)) P = some (.tbl (ps ++ more)):=by
  rw [zk hPf,zk hPc,zb]
 have neP:∀ b,H b = none -> b ≠ P:=fun b e z=>by rw [z,hP]at e; cases e
 refine I.un #[fun b u e n _ _=>hk b u (neP b n) e,fun b u e n _ _=>#[u.slots,hk b u (neP b n) e],fun b u e n _=>?_,fun b u e _=>?_,fun b xs e=>?_,fun b ob u e=>?_,fun b qs e=>?_] fun b u e=>?_
 ·rw [old b (Heap.lt_size e) (neP b n)];exact n
 ·by_cases hb:b = P
  ·subst hb; exact #[_,hP']
  ·exact #[u,hk b u hb e]
 ·rw [old b (I.hok.lt e) (fun z=>by rw [z,hP]at e; cases e)];exact e
 ·rw [old b (I.hok.lt e) (fun z=>by rw [z,hP]at e; cases e)];exact e
 ·by_cases hb:b = P
  ·subst hb;rw [hP]at e;cases e;exact #[more,atP]
  ·rw [old b (I.hok.lt e) hb];exact #[#[],by rw [e]; simp]
 ·by_cases hbf:b = f
  ·subst hbf;rw [zb]at e;cases e;exact ZZ hfo
  ·rw [zk hbf]at e;by_cases hbc:b = c'
   ·subst hbc;rw [zb]at e;cases e;exact Jb hcr
   ·rw [zk hbc]at e;by_cases hbP:b = P
    ·subst hbP;rw [zb]at e;cases e;exact hP'
    ·rw [zk hbP]at e;refine (I.hok b u e).stay (fun d v hd g=>hk d v ?_ g) (fun d g=>?_) fun d xs g=>?_
     ·rcases hd with z | z
      ·rw [z]; exact hbP
      ·intro z'; rw [z',hP]at z; cases z
     ·rw [old d (I.hok.lt g) (fun z=>by rw [z,hP]at g; cases g)];exact g
     ·rw [old d (I.hok.lt g) (fun z=>by rw [z,hP]at g; cases g)];exact g
end
end L3
namespace L3
open PySem PySem.Spec PyProof.Rows L2
theorem yg {a b:Int} {v:Value}:∀ (l:List Value),TriplesOk l -> TriplesOk (l ++ [rawInt a,rawInt b,v])
 | [],_=>trivial
 | .int _ _ :: .int _ _ :: _ :: rest,h=>yg rest h
theorem xF {h h':Heap} {mg:Str -> Option Value} {T:Addr} (x:h.BuiltinsAt mg T) (k:∀ b o,h.get? b = some o -> h'.get? b = some o):h'.BuiltinsAt mg T:=by
 obtain ⟨bm,o,b1,b2,b3,b4,b5,b6⟩:=x;exact #[bm,o,b1,b2,b3,b4,k _ _ b5,b6]
section
variable {X:Cx} {pins:List (Addr × Obj)} {σ:L2.St} {H:Hp} {s:Shared} {cc P c:Addr} {y:Str} {params:Arguments} {body:Expr} {scope:Scope} {pos:Pos} {Q:VK}
end
end L3
namespace L3
open PySem PySem.Spec PyProof.Rows L2
def QL (R:V -> Hp -> Prop):List V -> Hp -> Prop
 | [v],H=>R v H
 | _,_=>False
theorem uP {R:V -> Hp -> Prop}:∀ {vs:List V} {H:Hp},QL R vs H -> ∃ v,vs = [v] /\ R v H
 | [v],_,h=>#[v,rfl,h]
section
variable {X:Cx} {cc P c:Addr} {x p y:Str} {params:Arguments} {body e:Expr} {scope:Scope} {lpos kpos pos pp:Pos} {k iy:Nat} {te tb:TE}
end
end L3
namespace L3
open PySem PySem.Spec PyProof.Rows L2
section
variable {K:PySem.W.Frag}
theorem SamT.of {T:Addr} {H H':Hp} (s:Same H H'):SamT T H H':=fun b o _ e=>s b o e
theorem SamT.trans {T:Addr} {H H' H'':Hp} (s:SamT T H H') (s':SamT T H' H''):SamT T H H'':=fun b o n e=>s' b o n (s b o n e)
theorem SamT.at {T b:Addr} {H H':Hp} {ps:Array Value} {o:HO} (s:SamT T H H') (hT:H T = some (.tbl ps)) (e:H b = some o) (ho:∀ qs,o ≠ .tbl qs):H' b = some o:=s b o (fun z=>by rw [z,hT]at e; cases e; exact ho _ rfl) e
theorem SamT.free {T b:Addr} {H H':Hp} {o:HO} (s:SamT T H H') (hT:H' T = some o) (h:H' b = none):H b = none:=by
 cases e:H b with
 | none=>rfl
 | some u =>
  by_cases hb:b = T
  ·rw [hb,hT]at h; cases h
  ·rw [s b u hb e]at h; cases h
theorem SamT.seqL {T a:Addr} {H H':Hp} {ps:Array Value} {xs:List V} (s:SamT T H H') (hT:H T = some (.tbl ps)) (h:SqL K H a xs):SqL K H' a xs:=by
 rcases h with (h | ⟨o,h⟩) | h
 ·exact .inl (.inl (s.at hT h fun _ z=>by cases z))
 ·exact .inl (.inr #[o,s.at hT h fun _ z=>by cases z])
 ·exact .inr h
theorem SamT.seqT {T a:Addr} {H H':Hp} {ps:Array Value} {xs:List V} (s:SamT T H H') (hT:H T = some (.tbl ps)) (h:SqT K H a xs):SqT K H' a xs:=by
 rcases h with (h | ⟨o,h⟩) | h
 ·exact .inl (.inl (s.at hT h fun _ z=>by cases z))
 ·exact .inl (.inr #[o,s.at hT h fun _ z=>by cases z])
 ·exact .inr h
mutual
theorem Is.samT {T:Addr} {H H':Hp} {ps:Array Value} (s:SamT T H H') (hT:H T = some (.tbl ps)):∀ (d:D) (v:V),Is K H d v -> Is K H' d v
 | .non,v,h=>by simp only [Is]at h ⊢; exact h
 | .bl b,v,h=>by simp only [Is]at h ⊢; exact h
 | .int b,v,h=>by simp only [Is]at h ⊢; exact h
 | .str b,v,h=>by simp only [Is]at h ⊢; exact h
 | .lst l,v,h=>by
  simp only [Is]at h ⊢;obtain ⟨a,xs,e1,e2,e3⟩:=h;exact #[a,xs,e1,s.seqL hT e2,Iss.samT s hT l xs e3]
 | .tup l,v,h=>by
  simp only [Is]at h ⊢;obtain ⟨a,xs,e1,e2,e3⟩:=h;exact #[a,xs,e1,s.seqT hT e2,Iss.samT s hT l xs e3]
theorem Iss.samT {T:Addr} {H H':Hp} {ps:Array Value} (s:SamT T H H') (hT:H T = some (.tbl ps)):∀ (l:List D) (vs:List V),Iss K H l vs -> Iss K H' l vs
 | [],vs,h=>by simp only [Iss]at h ⊢; exact h
 | d :: l,vs,h=>by
  simp only [Iss]at h ⊢;obtain ⟨v,r,e1,e2,e3⟩:=h;exact #[v,r,e1,Is.samT s hT d v e2,Iss.samT s hT l r e3]
end
theorem LsA.samT {T a:Addr} {H H':Hp} {ps:Array Value} {ds:List D} (h:LsA K H a ds) (s:SamT T H H') (hT:H T = some (.tbl ps)):LsA K H' a ds:=by
 obtain ⟨xs,h1,h2⟩:=h;exact #[xs,s.at hT h1 (fun _ z=>by cases z),Iss.samT s hT _ _ h2]
theorem TabOk.same {H H':Hp} {T:Addr} {pos:Pos} {q:Str} (h:TabOk H T pos q) (s:Same H H'):TabOk H' T pos q:=by
 obtain ⟨ps,h1,h2,h3⟩:=h;refine #[ps,s _ _ h1,h2,?_];rcases h3 with h3 | ⟨c',h4,h5⟩
 ·exact .inl h3
 ·exact .inr #[c',h4,s _ _ h5]
theorem LamAt.same {H H':Hp} {f:Addr} {name qual:Str} {params:Arguments} {body:Expr} {scope:Scope} {cl:List (Str × Addr)} (h:LamAt H f name qual params body scope cl) (s:Same H H'):LamAt H' f name qual params body scope cl:=by
 obtain ⟨c',pm,ctv,h1,h2⟩:=h;exact #[c',pm,ctv,s _ _ h1,s _ _ h2]
end
end L3
namespace L3
open PySem PySem.Spec PyProof.Rows L2
section
variable {P:Program} {w:World} {K:PySem.W.Frag} {mg mb:Str -> Option Value} {CX:CXT} {k:Nat} {fa a T cc:Addr} {fd:FuncData} {x:Str} {sp:Sp} {s₁:Shared} {vs:List Value} {ns:List Int} {ps:Array Value}
end
noncomputable def Vu (K:PySem.W.Frag):Bool:=K.all fun p=>match p.2 with
 | ⟨.none,_,.fields _,_⟩=>false
 | _=>true
theorem jH {T:Addr} {o:Obj}:∀ {K:PySem.W.Frag},K.lookup T = some o -> (T,o) ∈ K
 | [],h=>by cases h
 | p :: K,h=>by
  rw [List.lookup_cons]at h;by_cases hp:T = p.1
  ·rw [show (T == p.1) = true by simpa using hp]at h;cases h;rw [hp];exact List.mem_cons_self
  ·rw [show (T == p.1) = false by simpa using hp]at h;exact List.mem_cons_of_mem _ (jH h)
theorem jK {K:PySem.W.Frag} {T:Addr} {ps:Array Value} {h:Heap} (e:Vu K = true) (X:K.In h) (hT:h.get? T = some { cls:=.none,data:=.fields ps }):K.lookup T = none:=by
 cases q:K.lookup T with
 | none=>rfl
 | some o =>
  have g:=X _ _ q;rw [hT]at g;cases g;have:=ah.mp e _ (jH q);simp at this
theorem YA {P:Program} {w:World} {K:PySem.W.Frag} {mg:Str -> Option Value} {base:Heap} {x qual:Str} {st:Stmt} {f cc:Addr} {fd:FuncData} {N ps:List Str} {k:Nat} {sp:Sp} (F:Fun K x qual st f fd) (hcc:fd.code = .ref cc) (S:zn N ps (ze st)) (len:∀ vs H Q E,sp vs H Q E -> vs.length = ps.length)
  (hbody:∀ (A:Around) (outer:List Env) (s:Shared) (H:Hp) (vs:List V) (Q:VK) (E:XK),Room k (A.deeper (envOfC qual (ze st) s⁻¹ f (.ref cc))) -> sp vs H Q E ->
   ∃ t,PSs (wA CX0 P w K mg base N qual (ze st) f (.ref cc) A outer s H E).nox (zO st) t /\ t { nx:=fun _ H'=>Q .non H',rt:=Q } (start N vs) H):FnOk P w K mg base CX0 (k + 1) f fd ps sp:=by
 obtain ⟨oc,od,kV,doc,pm,an,cdv,ct,osl,rfl,lk,hcd⟩:=F.ex;have e:cdv = .ref cc:=hcc;subst e;refine Wg lk hcd S len fun A outer s H vs Q E hr hsp=>?_;obtain ⟨t,h,q⟩:=hbody A outer s H vs Q E hr hsp;exact #[t,h.nox,q]
end L3
namespace L3
open PySem PySem.Spec PyProof.Rows L2
theorem xH {pos pos':Pos} {c:Value} (l:List Value) (h:TriplesOk l) (hl:pos'.line ≠ pos.line):codeAmong pos' (l ++ [rawInt pos.line,rawInt pos.col,c]) = codeAmong pos' l:=by
 fun_induction TriplesOk l with
 | case1 =>
  simp only [List.nil_append,codeAmong,rawInt];rw [if_neg];simp only [Bool.and_eq_true,beq_iff_eq];intro z;exact hl (by have:=z.1; lia)
 | case2 a t b u x rest ih =>
  simp only [List.cons_append,codeAmong];split
  ·rfl
  ·exact ih h
 | case3 l h1 h2=>exact h.elim
def qL (P:Addr) (pos:Pos) (H H':Hp):Prop:=∀ pos' q',pos'.line ≠ pos.line -> TabOk H P pos' q' -> TabOk H' P pos' q'
theorem TabOk.same' {H H':Hp} {T:Addr} {pos:Pos} {q:Str} (h:TabOk H T pos q) (s:Same H H'):TabOk H' T pos q:=by
 obtain ⟨ps,h1,h2,h3⟩:=h;refine #[ps,s _ _ h1,h2,?_];rcases h3 with h3 | ⟨c',h4,h5⟩
 ·exact .inl h3
 ·exact .inr #[c',h4,s _ _ h5]
section
variable {X:Cx} {pins:List (Addr × Obj)} {σ:L2.St} {H:Hp} {s:Shared} {cc P c:Addr} {y:Str} {params:Arguments} {body:Expr} {scope:Scope} {pos:Pos} {Q:VK}
theorem ZK (hcode:X.env.code = .ref cc) (hC:PySem.W.CodeHd X.base cc P) (hB:X.base.BuiltinsAt X.mg P) (hgP:mainGlobals ≠ P) (hcl:closureFor scope X.env = pure [(y,c)]) (hdef:defaultsOf params X.env =([],[])) (I:Inv X pins σ H s)
  (hT:TabOk H P pos (X.env.qual ++ "<lambda>"))
  (h:∀ f H',H f = none -> LamAt H' f "<lambda>" (X.env.qual ++ "<lambda>") params body scope [(y,c)] -> TabOk H' P pos (X.env.qual ++ "<lambda>") -> SamT P H H' -> qL P pos H H' -> Q (.ref f) H') :
  wpAny (model X.prog X.w) X.A (eval (.Lambda params body scope pos) X.env) (EP X pins σ Q) X.xe s:=by
 refine PySem.W.kla_eval hdef ?_;obtain ⟨ps,hP,ht,hh⟩:=hT;have hPo:s.heap.get? P = some (PySem.W.tabObj ps):=I.hok _ _ hP;have hg:=I.mod.glob.keeps I.bk;have Pl:P < s⁻¹:=I.hok.lt hP;rcases hh with hn | ⟨c',hit,hc'⟩
 ·refine PySem.W.kla_makeFunction (mg:=X.mg) hcl I.ok.glob hg hcode (hC.keeps I.bk) hPo ht hn hgP (xF hB I.bk) fun c' ctv h' tk hx hge hlt hrec htb=>?_;have hsz:s⁻¹ <= h'.objs.size:=Nat.le_of_lt (Nat.lt_of_le_of_lt hge hlt)
  have I1:=Inv.grow (P:=P) (c':=c') (f:=h'.objs.size) (more:=(List.toArray [rawInt pos.line,rawInt pos.col,.ref c'])) (tk:=tk) (o:={ cls:=.type "function",data:=.func (PySem.W.kla_fn "<lambda>" (X.env.qual ++ "<lambda>") params body scope [(y,c)] ((X.mg "__name__").getD .none) (.ref c') ctv) }) I hP
   (fun b u hb e=>Heap.get?_push_of_some _ (hx b u hb e)) (Heap.get?_push_of_some _ htb) hge hsz (Nat.ne_of_lt hlt) (hrec.push _) (Heap.get?_push_size _ rfl)
  have hPc:P ≠ c':=Nat.ne_of_lt (Nat.lt_of_lt_of_le Pl hge);have hPf:P ≠ h'.objs.size:=Nat.ne_of_lt (Nat.lt_of_lt_of_le Pl hsz)
  have atc:(upd (upd (upd H P (.tbl (ps ++ (List.toArray [rawInt pos.line,rawInt pos.col,.ref c'])))) c' (cdE c' (X.env.qual ++ "<lambda>"))) h'.objs.size (fnE h'.objs.size { cls:=.type "function",data:=.func (PySem.W.kla_fn "<lambda>" (X.env.qual ++ "<lambda>") params body scope [(y,c)] ((X.mg "__name__").getD .none) (.ref c') ctv) })) c' = some (cdE c' (X.env.qual ++ "<lambda>")):=by
   rw [zk (Nat.ne_of_lt hlt),zb]
  refine #[.ref h'.objs.size,_,I1,rfl,h _ _ (I.hok.fresh hsz) #[c',_,ctv,atc,zb] #[ps ++ (List.toArray [rawInt pos.line,rawInt pos.col,.ref c']),?_,?_,.inr #[c',?_,atc]] (fun b o hb e=>?_) fun pos' q' hl' ht'=>?_]
  ·rw [zk hPf,zk hPc,zb]
  ·rw [Array.toList_append];exact yg _ ht
  ·rw [Array.toList_append];exact codeAmong_snoc _ ht hn
  ·have hl:=I.hok.lt e;rw [zk (Nat.ne_of_lt (Nat.lt_of_lt_of_le hl hsz)),zk (Nat.ne_of_lt (Nat.lt_of_lt_of_le hl hge)),zk hb];exact e
  ·obtain ⟨ps',hP2,ht2,hh2⟩:=ht';rw [hP]at hP2;cases hP2;refine #[ps ++ (List.toArray [rawInt pos.line,rawInt pos.col,.ref c']),?_,?_,?_]
   ·rw [zk hPf,zk hPc,zb]
   ·rw [Array.toList_append];exact yg _ ht
   ·rw [Array.toList_append];show codeAmong pos' (ps.toList ++ [rawInt pos.line,rawInt pos.col,.ref c']) = none \/ ∃ c_1,codeAmong pos' (ps.toList ++ [rawInt pos.line,rawInt pos.col,.ref c']) = some (.ref c_1) /\ _;rw [xH _ ht hl'];rcases hh2 with q | ⟨c2,q,e2⟩
    ·exact .inl q
    ·refine .inr #[c2,q,?_];have hl:=I.hok.lt e2;rw [zk (Nat.ne_of_lt (Nat.lt_of_lt_of_le hl hsz)),zk (Nat.ne_of_lt (Nat.lt_of_lt_of_le hl hge)),zk (fun z=>by rw [z,hP]at e2; cases e2)];exact e2
 ·refine PySem.W.kla_makeFunctionHit (mg:=X.mg) hcl I.ok.glob hg hcode (hC.keeps I.bk) hPo ht hit (xF hB I.bk) fun ctv h' tk hk hsz=>?_;have hfr:H h'.objs.size = none:=I.hok.fresh hsz
  have I1:=I.laid (a:=h'.objs.size) (t':=tk) (h':=h'.push { cls:=.type "function",data:=.func (PySem.W.kla_fn "<lambda>" (X.env.qual ++ "<lambda>") params body scope [(y,c)] ((X.mg "__name__").getD .none) (.ref c') ctv) })
   (o:=fnE h'.objs.size { cls:=.type "function",data:=.func (PySem.W.kla_fn "<lambda>" (X.env.qual ++ "<lambda>") params body scope [(y,c)] ((X.mg "__name__").getD .none) (.ref c') ctv) })
   (fun b u e=>Heap.get?_push_of_some _ (hk b u e)) hsz (ZZ (Heap.get?_push_size _ rfl))
  have sm:=zg (o:=fnE h'.objs.size { cls:=.type "function",data:=.func (PySem.W.kla_fn "<lambda>" (X.env.qual ++ "<lambda>") params body scope [(y,c)] ((X.mg "__name__").getD .none) (.ref c') ctv) }) hfr;exact #[.ref h'.objs.size,_,I1,rfl,h _ _ hfr #[c',_,ctv,sm _ _ hc',zb] #[ps,sm _ _ hP,ht,.inr #[c',hit,sm _ _ hc']] (fun b o _ e=>sm _ _ e) fun pos' q' _ ht'=>ht'.same' sm]
end
def Xh (P:Addr) (pos:Pos) (q:Str) (LA:Hp -> Addr -> Prop):TE:=fun σ H Q=>TabOk H P pos q /\ ∀ f H',H f = none -> LA H' f -> TabOk H' P pos q -> SamT P H H' -> qL P pos H H' -> Q (.ref f) H'
def YL {α:Type} (K:PySem.W.Frag) (F:KeyFam α) (P:Addr) (pos:Pos) (q:Str) (LA:Hp -> Addr -> Prop) (iy:Nat) (te tb:TE):TE:=fun σ H Q=>te σ H fun v H1=>TabOk H1 P pos q /\
 ∀ f H2,H1 f = none -> LA H2 f -> TabOk H2 P pos q -> SamT P H1 H2 -> qL P pos H1 H2 -> ∃ l xs vy,v = .ref l /\ SqL K H2 l xs /\ xs.length < 64 /\ σ[iy]? = some (some vy) /\ yo (fun x H Q=>LA H f /\ tb [some x,some vy] H Q) xs [] H2 (kj K F xs Q)
section
variable {X:Cx} {cc P c:Addr} {x p y:Str} {params:Arguments} {body e:Expr} {scope:Scope} {lpos kpos pos pp:Pos} {k iy:Nat} {te tb:TE}
theorem Vr (hcode:X.env.code = .ref cc) (hC:PySem.W.CodeHd X.base cc P) (hB:X.base.BuiltinsAt X.mg P) (hgP:mainGlobals ≠ P) (hcl:closureFor scope X.env = pure [(y,c)]) (hdef:defaultsOf params X.env =([],[])) :
  PE X (.Lambda params body scope lpos) (Xh P lpos (X.env.qual ++ "<lambda>") fun H f=>LamAt H f "<lambda>" (X.env.qual ++ "<lambda>") params body scope [(y,c)]):=by
 intro pins s σ H Q I h;exact ZK hcode hC hB hgP hcl hdef I h.1 h.2
theorem YU {α:Type} {F:KeyFam α} (FO:F.Ok) (S:Vx p y scope) (hr:Room (k + 3) X.A) (hg:Gl X x) (hm:X.mg x = none) (hv:bootBuiltins x = some (.builtin "sorted")) (ha:PA X [e] (zM te xu))
  (hcode:X.env.code = .ref cc) (hC:PySem.W.CodeHd X.base cc P) (hB:X.base.BuiltinsAt X.mg P) (hgP:mainGlobals ≠ P) (hcl:closureFor scope X.env = pure [(y,c)]) (hdef:defaultsOf params X.env =([],[]))
  (hbind:∀ (cv pm ctv u:Value),bindArgs (PySem.W.kla_fn "<lambda>" (X.env.qual ++ "<lambda>") params body scope [(y,c)] pm cv ctv) #[[u],[]] = pure [(p,u)]) (hy:X.N[iy]? = some y) (hvis:X.env.scope.names.lookup y = some .cell) (hc:X.env.cells.lookup y = some c)
  (hb:∀ (s:Shared) (H:Hp) (f:Addr) (cv:Value),Room k (vk X [p,y] s H (X.env.qual ++ "<lambda>") scope f cv [(y,c)]).A -> PE (vk X [p,y] s H (X.env.qual ++ "<lambda>") scope f cv [(y,c)]) body tb)
  (hn:x ≠ "__name__":=by decide) (hdb:(x ==("__debug__" : Str)) = false:=by decide)
  (hks:(backToKw pos (keywordEach [#[some "key",.Lambda params body scope lpos,kpos]] X.env)).filterMap (·.1) = [Str.ofString "key"]:=by rfl)
  (hst:backTo pos (starEach [e] X.env) =(false,eval e X.env) :: backTo pos (starEach [] X.env):=by rfl) (hpl:(backTo pos (starEach [e] X.env)).any (·.1) = false:=by rfl)
  (hall:(backToKw pos (keywordEach [#[some "key",.Lambda params body scope lpos,kpos]] X.env)).all (·.1.isSome) = true:=by rfl) (hkw:(backToKw pos (keywordEach [#[some "key",.Lambda params body scope lpos,kpos]] X.env)).any (·.1.isNone) = false:=by rfl) :
  PE X (.Call (.Name x pp) [e] [#[some "key",.Lambda params body scope lpos,kpos]] pos) (YL X.K F P lpos (X.env.qual ++ "<lambda>") (fun H f=>LamAt H f "<lambda>" (X.env.qual ++ "<lambda>") params body scope [(y,c)]) iy te tb):=by
 intro pins s σ H Q I h;have hlam:PE X (.Lambda params body scope lpos) (Xh P lpos (X.env.qual ++ "<lambda>") fun H f=>LamAt H f "<lambda>" (X.env.qual ++ "<lambda>") params body scope [(y,c)]):=Vr hcode hC hB hgP hcl hdef;refine wpAny_Call_Name_kw (xR I hg hm hv ?_ hn hdb)
 have h':(zM te xu) σ H (QL fun v H1=>TabOk H1 P lpos (X.env.qual ++ "<lambda>") /\ ∀ f H2,H1 f = none -> LamAt H2 f "<lambda>" (X.env.qual ++ "<lambda>") params body scope [(y,c)] -> TabOk H2 P lpos (X.env.qual ++ "<lambda>") -> SamT P H1 H2 -> qL P lpos H1 H2 ->
   ∃ l xs vy,v = .ref l /\ SqL X.K H2 l xs /\ xs.length < 64 /\ σ[iy]? = some (some vy) /\ yo (fun x H Q=>LamAt H f "<lambda>" (X.env.qual ++ "<lambda>") params body scope [(y,c)] /\ tb [some x,some vy] H Q) xs [] H2 (kj X.K F xs Q)):=h
 refine callWith_kw (thn (ha pos pins s σ H _ I h') fun us s1=>el5 fun vs H1 I1 r1 q1=>?_) hst hpl hall hkw;obtain ⟨v,rfl,hT,q1⟩:=uP q1;obtain ⟨u,rfl,ru⟩:=xa r1
 refine thn ((jo hlam Zh:PK X [#[some "key",.Lambda params body scope lpos,kpos]] _) pos pins s1 σ H1 (QL fun kv H2=>∃ f,kv = .ref f /\ LamAt H2 f "<lambda>" (X.env.qual ++ "<lambda>") params body scope [(y,c)] /\
   ∃ l xs vy,v = .ref l /\ SqL X.K H2 l xs /\ xs.length < 64 /\ σ[iy]? = some (some vy) /\ yo (fun x H Q=>LamAt H f "<lambda>" (X.env.qual ++ "<lambda>") params body scope [(y,c)] /\ tb [some x,some vy] H Q) xs [] H2 (kj X.K F xs Q)) I1 #[hT,fun f H2 a1 a2 a3 a4 a5=>#[f,rfl,a2,q1 f H2 a1 a2 a3 a4 a5]]) fun ws s2=>el5 fun zs H2 I2 r2 q2=>?_
 obtain ⟨kv,rfl,f,rfl,hLA,l,xs,vy,rfl,hS,hz,hσ,hk⟩:=uP q2;obtain ⟨w',rfl,rw'⟩:=xa r2;cases rw';cases ru;rw [hks];show wpAny _ _ (call (.builtin "sorted") [.ref l] [(Str.ofString "key",.ref f)]) _ _ _;refine ZR FO (k:=k + 1) hr (fun pins' s3 H3 x3 u3 Q3 I3 r3 h3=>?_) I2 hS hz hk;obtain ⟨⟨c',pm,ctv,e1,e2⟩,h4⟩:=h3;have hcd:s3.heap.CodeRec (.ref c') (X.env.qual ++ "<lambda>"):=(I3.hok _ _ e1).1;have ho:=(I3.hok _ _ e2).1;exact XA (k:=k) S hr (hbind _ _ _ _) I3 ho hcd hy hσ hvis hc r3 (hb s3 H3 f (.ref c') (hr.in1.in1.deeper _)) h4
end
end L3
namespace L3
open PySem PySem.Spec PyProof.Rows L2
section
variable {P:Program} {w:World} {K:PySem.W.Frag} {mg mb:Str -> Option Value} {CX:CXT} {k:Nat} {fa a T cc T' cc':Addr} {fd:FuncData} {x:Str} {sp:Sp} {s₁:Shared} {vs:List Value} {ns:List Int}
noncomputable def WN:Obj:={ cls:=.none,data:=.fields #[] }
theorem vA (KX:K.In s₁.heap) (hKT:K.lookup T = none) (hKT':K.lookup T' = none) (hT:s₁.heap.get? T = some WN) (hTc:isCodeTable s₁.heap T) (hT':s₁.heap.get? T' = some WN) (hTc':isCodeTable s₁.heap T') (hns:s₁.heap.Ns mainGlobals mg) (hb:s₁.heap.Ns builtinsNs mb) (hbb:∀ x:Str,x ≠ "__name__" -> mb x = bootBuiltins x) (hlim:s₁.heap.NoLimit) (hg:s₁.gens = #[])
  (ha:s₁.heap.get? a = some { cls:=.type "list",data:=.seq vs.toArray }) (hr:Room k callerA)
  (hbm:s₁.heap.BuiltinsAt mg T) (hcd:PySem.W.CodeHd s₁.heap cc T) (hbm':s₁.heap.BuiltinsAt mg T') (hcd':PySem.W.CodeHd s₁.heap cc' T') (F:∀ base:Heap,K.In base -> base.Ns mainGlobals mg -> base.BuiltinsAt mg T -> PySem.W.CodeHd base cc T -> base.BuiltinsAt mg T' -> PySem.W.CodeHd base cc' T' -> FnOk P w K mg base CX k fa fd [x] sp) (hbind:∀ (s:Shared) (u:Value),BindsTo s fd #[[u],[]] [(x,u)])
  (hCX:∀ H e s',CX [] H s₁ (fun _ _ _=>False) e s' -> False) (H:Hp) (h1:H T = some (.tbl #[])) (h1':H T' = some (.tbl #[])) (h2:∀ b u,H b = some u -> b = T \/ b = T' \/ (b = a /\ K.lookup a = none /\ u = .frz { cls:=.type "list",data:=.seq vs.toArray } (.lst (ns.map V.int))))
  (hok:HOk P w H s₁.heap) (hsp:sp [.ref a] H (fun v _=>v = .bl true) fun _ _ _=>False) :
  codeAny (model P w) callerA (.call (.ref fa) #[[.ref a],[]]) (fun r s'=>r = .ok (.ret (.bool true)) /\ OldK s₁.heap s'.heap /\ s'.os = s₁.os /\ AllBare s'.gens) s₁:=by
 have stay:∀ b o,s₁.heap.get? b = some o -> (b ≠ T) -> (b ≠ T') -> (b ≠ a) -> (Z8 s₁.heap H).get? b = some o:=fun b o e n1 n1' n2=>j7 e (by
  cases q:H b with
  | none=>rfl
  | some u =>
   rcases h2 b u q with z | z | z
   ·exact absurd z n1
   ·exact absurd z n1'
   ·exact absurd z.1 n2)
 have nsStay:∀ (b:Addr) (m:Str -> Option Value),s₁.heap.Ns b m -> (Z8 s₁.heap H).Ns b m:=fun b m hN=>by
  obtain ⟨o,es,ep,e,d,rest⟩:=hN;refine #[o,es,ep,stay b o e (fun z=>?_) (fun z=>?_) (fun z=>?_),d,rest]
  ·rw [z,hT]at e;cases e;cases d
  ·rw [z,hT']at e;cases e;cases d
  ·rw [z,ha]at e;cases e;cases d
 have kStay:K.In (Z8 s₁.heap H):=fun b o e=>by
  have g:=KX b o e;refine j7 g ?_
  cases q:H b with
  | none=>rfl
  | some u =>
   rcases h2 b u q with z | z | z
   ·rw [z,hKT]at e;cases e
   ·rw [z,hKT']at e;cases e
   ·rw [z.1,z.2.1]at e;cases e
 have bStay:∀ T0,s₁.heap.BuiltinsAt mg T0 -> (Z8 s₁.heap H).BuiltinsAt mg T0:=fun T0 hbm=>by
  obtain ⟨bm,o,b1,b2,b3,b4,b5,b6,b7,b8⟩:=hbm;refine #[bm,o,b1,b2,b3,b4,stay bm o b5 (fun z=>?_) (fun z=>?_) (fun z=>?_),b6,b7,b8]
  ·rw [z,hT]at b5;cases b5;cases b6
  ·rw [z,hT']at b5;cases b5;cases b6
  ·rw [z,ha]at b5;cases b5;simp at b6
 have cStay:∀ c0 T0,PySem.W.CodeHd s₁.heap c0 T0 -> PySem.W.CodeHd (Z8 s₁.heap H) c0 T0:=fun c0 T0 hcd=>by
  obtain ⟨o,vs',file,tf,flags,tg,inF,text,tt,c1,c2,c3,c4,c5,c6,c7,c8,c9,c10⟩:=hcd;refine #[o,vs',file,tf,flags,tg,inF,text,tt,stay c0 o c1 (fun z=>?_) (fun z=>?_) (fun z=>?_),c2,c3,c4,c5,c6,c7,c8,c9,c10]
  ·rw [z,hT]at c1;cases c1;cases c2
  ·rw [z,hT']at c1;cases c1;cases c2
  ·rw [z,ha]at c1;cases c1;simp at c2
 obtain ⟨mc,l1,l2⟩:=hlim;have M0:Mod K mg (Z8 s₁.heap H):={ kin:=kStay,glob:=nsStay _ _ hns,blt:=#[mb,nsStay _ _ hb,hbb],nolimit:=#[mc,nsStay _ _ l1,l2] };have E0:Env0 P w K mg (Z8 s₁.heap H) callerA [] s₁ H:={ frames:=rfl,mod:=M0,bs:=fun b o e=>UL e,bsz:=Nat.le_of_eq (Ys _ _),funs:=trivial,frf:=fun b z=>(nomatch (show b ∈ ([]:List Addr)from z)),hok:=hok,bare:=.of_eq hg };refine codeAny_mono ((F _ kStay (nsStay _ _ hns) (bStay _ hbm) (cStay _ _ hcd) (bStay _ hbm') (cStay _ _ hcd')).run callerA [] s₁ H #[[.ref a],[]] [.ref a] [.ref a] (fun v _=>v = .bl true) (fun _ _ _=>False) hr E0 (hbind s₁ (.ref a)) (.cons rfl .nil) hsp) fun r s' hq=>?_;rcases r with e | fl
 ·exact (hCX H e s' hq).elim
 rcases fl with _ | _ | _ | u
 all_goals first | exact False.elim hq | skip
 obtain ⟨v,H',e1,e2,un,hok',rv,ev⟩:=hq;have ev':v = V.bl true:=ev;subst ev';have eu:u = Value.bool true:=rv;subst eu
 have tabs:∀ T0,H T0 = some (.tbl #[]) -> ∃ more,s'.heap.get? T0 = some { cls:=.none,data:=.fields (#[] ++ more) }:=fun T0 hh=>by
  obtain ⟨more,hT2⟩:=un.tbls T0 #[] hh;exact #[more,hok' T0 _ hT2]
 have each:∀ b o,s₁.heap.get? b = some o -> b ≠ T -> b ≠ T' -> s'.heap.get? b = some o:=fun b o e n n'=>by
  cases q:H b with
  | none=>exact un.keep b o e q (fun z=>(nomatch (show b ∈ ([]:List Addr)from z))) (fun z=>(nomatch z))
  | some ob =>
   rcases h2 b ob q with z | z | ⟨z,_,zz⟩
   ·exact absurd z n
   ·exact absurd z n'
   ·subst zz;have g:=(hok' b _ (un.frzs b _ _ q)).1;rw [z,ha]at e;cases e;exact g
 obtain ⟨m1,t1⟩:=tabs T h1;obtain ⟨m2,t2⟩:=tabs T' h1';refine #[rfl,#[fun b o e=>?_,fun b o e=>?_],e1,e2]
 ·by_cases hbT:b = T
  ·subst hbT;rw [hT]at e;cases e;exact .inr (.inl #[hTc,rfl,#[],m1,rfl,t1])
  ·by_cases hbT':b = T'
   ·subst hbT';rw [hT']at e;cases e;exact .inr (.inl #[hTc',rfl,#[],m2,rfl,t2])
   ·exact .inl (each b o e hbT hbT')
 ·by_cases hbT:b = T
  ·subst hbT;exact #[_,t1]
  ·by_cases hbT':b = T'
   ·subst hbT';exact #[_,t2]
   ·exact #[o,each b o e hbT hbT']
theorem kg (KX:K.In s₁.heap) (hKT:K.lookup T = none) (hKT':K.lookup T' = none) (hT:s₁.heap.get? T = some WN) (hTc:isCodeTable s₁.heap T) (hT':s₁.heap.get? T' = some WN) (hTc':isCodeTable s₁.heap T') (hns:s₁.heap.Ns mainGlobals mg) (hb:s₁.heap.Ns builtinsNs mb) (hbb:∀ x:Str,x ≠ "__name__" -> mb x = bootBuiltins x) (hlim:s₁.heap.NoLimit) (hg:s₁.gens = #[])
  (ha:s₁.heap.get? a = some { cls:=.type "list",data:=.seq vs.toArray }) (hi:IntsAre vs ns) (hl:ns.length <= sizeLine) (hr:Room k callerA)
  (hbm:s₁.heap.BuiltinsAt mg T) (hcd:PySem.W.CodeHd s₁.heap cc T) (hbm':s₁.heap.BuiltinsAt mg T') (hcd':PySem.W.CodeHd s₁.heap cc' T') (F:∀ base:Heap,K.In base -> base.Ns mainGlobals mg -> base.BuiltinsAt mg T -> PySem.W.CodeHd base cc T -> base.BuiltinsAt mg T' -> PySem.W.CodeHd base cc' T' -> FnOk P w K mg base CX k fa fd [x] sp) (hbind:∀ (s:Shared) (u:Value),BindsTo s fd #[[u],[]] [(x,u)])
  (hCX:∀ H e s',CX [] H s₁ (fun _ _ _=>False) e s' -> False) (hsp:∀ H:Hp,H T = some (.tbl #[]) -> H T' = some (.tbl #[]) -> SqL K H a (ns.map V.int) -> sp [.ref a] H (fun v _=>v = .bl true) fun _ _ _=>False) :
  codeAny (model P w) callerA (.call (.ref fa) #[[.ref a],[]]) (fun r s'=>r = .ok (.ret (.bool true)) /\ OldK s₁.heap s'.heap /\ s'.os = s₁.os /\ AllBare s'.gens) s₁:=by
 have rv:=uY hi;have hlv:=hi.length
 have hTa:a ≠ T:=fun z=>by
  rw [z,hT]at ha;cases ha
 have hTa':a ≠ T':=fun z=>by
  rw [z,hT']at ha;cases ha
 have g1:(upd (upd (fun _=>none) T (.tbl #[])) T' (.tbl #[]):Hp) T = some (.tbl #[]):=by
  by_cases z:T = T'
  ·rw [z,zb]
  ·rw [zk z,zb]
 have only:∀ b u,(upd (upd (fun _=>none) T (.tbl #[])) T' (.tbl #[]):Hp) b = some u -> (b = T \/ b = T') /\ u = .tbl #[]:=fun b u e=>by
  by_cases hbT:b = T'
  ·subst hbT;rw [zb]at e;cases e;exact #[.inr rfl,rfl]
  ·rw [zk hbT]at e;by_cases hbT:b = T
   ·subst hbT;rw [zb]at e;cases e;exact #[.inl rfl,rfl]
   ·rw [zk hbT]at e;cases e
 have okT:∀ (H:Hp) b u,(b = T \/ b = T') /\ u = .tbl #[] -> ObjOk P w H s₁.heap b u:=fun H b u h=>by
  obtain ⟨h,rfl⟩:=h;rcases h with rfl | rfl
  ·exact hT
  ·exact hT'
 rcases hk:K.lookup a with _ | o
 ·refine vA (ns:=ns) KX hKT hKT' hT hTc hT' hTc' hns hb hbb hlim hg ha hr hbm hcd hbm' hcd' F hbind hCX (upd (upd (upd (fun _=>none) T (.tbl #[])) T' (.tbl #[])) a (.frz { cls:=.type "list",data:=.seq vs.toArray } (.lst (ns.map V.int)))) ?_ ?_ (fun b u e=>?_) (fun b u e=>?_) ?_
  ·rw [zk (Ne.symm hTa)];exact g1
  ·rw [zk (Ne.symm hTa'),zb]
  ·by_cases hba:b = a
   ·subst hba;rw [zb]at e;cases e;exact .inr (.inr #[rfl,hk,rfl])
   ·rw [zk hba]at e;exact (only b u e).1.imp id .inl
  ·by_cases hba:b = a
   ·subst hba;rw [zb]at e;cases e;exact #[ha,by rw [List.length_map]; exact hl,vs,_,rv,ha]
   ·rw [zk hba]at e;exact okT _ b u (only b u e)
  ·exact hsp _ (by rw [zk (Ne.symm hTa)]; exact g1) (by rw [zk (Ne.symm hTa'),zb]) (.inl (.inr #[_,zb]))
 ·have e:=KX a o hk;rw [ha]at e;cases e;exact vA (ns:=ns) KX hKT hKT' hT hTc hT' hTc' hns hb hbb hlim hg ha hr hbm hcd hbm' hcd' F hbind hCX (upd (upd (fun _=>none) T (.tbl #[])) T' (.tbl #[])) g1 zb (fun b u e=>(only b u e).1.imp id .inl) (fun b u e=>okT _ b u (only b u e)) (hsp _ g1 zb (.inr #[_,vs.toArray,_,hk,rfl,rfl,rfl,by rw [List.size_toArray,hlv]; exact hl,by simpa using rv]))
end
theorem walk_ofT2 {l:PySem.W.OpenLaw} {n k:Nat} {q:Program} {loose:List Str} {XP:(Str -> Option Value) -> Heap -> Prop} {YP:World -> Heap -> Prop} {d din din':DefRec} {K:Params -> PySem.W.Frag} {CX:World -> CXT} {sp:World -> Addr -> Addr -> Sp} {x:Str}
  (hn:l.most = some n) (hn2:n <= sizeLine) (hdf:d.params.defaults = []) (hr:Room k callerA) (hdin:din ∈ recsOf q) (hdin':din' ∈ recsOf q)
  (hY:∀ (w:World) (h:Heap),YP w h -> (K w.params).In h) (hno:∀ w:World,Vu (K w.params) = true)
  (F:∀ (w:World) (mg:Str -> Option Value) (fa:Addr) (h:Heap) (cc T cc' T':Addr),(K w.params).In h -> h.Ns mainGlobals mg -> mg d.name = some (.ref fa) -> (∃ a o fd,mg din.name = some (.ref a) /\ h.get? a = some o /\ o.data = .func fd /\ fd.code = .ref cc) -> mainGlobals ≠ T -> (∃ a o fd,mg din'.name = some (.ref a) /\ h.get? a = some o /\ o.data = .func fd /\ fd.code = .ref cc') -> mainGlobals ≠ T' ->
   ∃ fd:FuncData,(∀ (s:Shared) (u:Value),BindsTo s fd #[[u],[]] [(x,u)]) /\
    ∀ base:Heap,(K w.params).In base -> base.Ns mainGlobals mg -> base.BuiltinsAt mg T -> PySem.W.CodeHd base cc T -> base.BuiltinsAt mg T' -> PySem.W.CodeHd base cc' T' -> FnOk l.prog w (K w.params) mg base (CX w) k fa fd [x] (sp w T T'))
  (hsp:∀ (w:World) (H:Hp) (a:Addr) (ns:List Int) (T T':Addr),ns.length <= n -> (∀ z ∈ ns,wM z) -> H T = some (.tbl #[]) -> H T' = some (.tbl #[]) -> SqL (K w.params) H a (ns.map V.int) -> sp w T T' [.ref a] H (fun v _=>v = .bl true) fun _ _ _=>False)
  (hCX:∀ (w:World) (H:Hp) (s:Shared) (e:Value) (s':Shared),CX w [] H s (fun _ _ _=>False) e s' -> False) :
  PySem.W.WalkO q loose XP YP l.row.toRowW d [] (fun f vs=>PySem.call f vs):=by
 refine qi hn hdf fun w s₀ s₁ mg mb fa o pm cd doc a vs ns G Y ho hd hcd hmg hobj hints hlen hb' hg=>?_;have X0:=hY w _ Y;obtain ⟨ai,oi,fdi,cc,T,m1,m2,m3,m4,m5,m6⟩:=G.T.tab din hdin;obtain ⟨ai',oi',fdi',cc',T',m1',m2',m3',m4',m5',m6'⟩:=G.T.tab din' hdin';have hcd1:PySem.W.CodeHd s₁.heap cc T:=PySem.W.CodeHd.of m5 m6;have hcd2:PySem.W.CodeHd s₁.heap cc' T':=PySem.W.CodeHd.of m5' m6';have hTo:s₁.heap.get? T = some WN:=m6.2;have hTo':s₁.heap.get? T' = some WN:=m6'.2
 have hgT:∀ T0,s₁.heap.get? T0 = some WN -> mainGlobals ≠ T0:=fun T0 h0 z=>by
  obtain ⟨o,es,ep,e,hd',_⟩:=G.T.g;rw [z,h0]at e;cases e;cases hd'
 have hbm:∀ T0,s₁.heap.get? T0 = some WN -> s₁.heap.BuiltinsAt mg T0:=fun T0 h0=>by
  obtain ⟨bm,ob,b1,b2,b3,b4,b5,b6⟩:=G.T.bmain;refine #[bm,ob,b1,b2,fun z=>?_,fun z=>?_,b3,b4,b5,b6]
  ·obtain ⟨o,es,ep,e,hd',_⟩:=G.T.g;rw [z,e]at b3;cases b3;rw [hd']at b6;cases b6
  ·rw [z,h0]at b3;cases b3;cases b4
 obtain ⟨fd,hbd,hF⟩:=F w mg fa _ cc T cc' T' X0 G.T.g hmg #[ai,oi,fdi,m1,m2,m3,m4] (hgT _ hTo) #[ai',oi',fdi',m1',m2',m3',m4'] (hgT _ hTo');exact kg (T:=T) (T':=T') X0 (jK (hno w) X0 hTo) (jK (hno w) X0 hTo') hTo m6.isCodeTable hTo' m6'.isCodeTable G.T.g G.T.b G.T.builtins G.T.nolimit hg hobj hints (Nat.le_trans hlen hn2) hr (hbm _ hTo) hcd1 (hbm _ hTo') hcd2 hF hbd (fun H e s'=>hCX w H s₁ e s') fun H h1 h1' h2=>hsp w H a ns T T' hlen hb' h1 h1' h2
end L3
namespace L3
open PySem PySem.Spec PyProof.Rows L2
structure Zf (p:Str) (ys:List Str) (scope:Scope):Prop where
 kind:scope.kind = .function
 co:scope.isCoroutine = false
 gen:scope.isGenerator = false
 nocell:∀ z ∈ scope.names,z.2 ≠ .cell
 par:scope.names.lookup p = some .local
 fre:∀ y ∈ ys,scope.names.lookup y = some .free
 one:∀ q ∈ scope.names,q.2 = .free -> q.1 ∈ ys
structure V8 (X:Cx) (ys:List Str) (ixs:()) (cl:List (Str × Addr)):Prop where
 len:ixs.length = ys.length
 at_:∀ (j:Nat) (y:Str),ys[j]? = some y -> ∃ (i:Nat) (c:Addr),ixs[j]? = some i /\ X.N[i]? = some y /\ X.env.scope.names.lookup y = some .cell /\ X.env.cells.lookup y = some c /\ cl.lookup y = some c
 mem:∀ z d,cl.lookup z = some d -> z ∈ ys
noncomputable def Y5 (σ:L2.St) (ixs:()):L2.St:=ixs.map fun i=>(σ[i]?).getD none
def QB (σ:L2.St) (ixs:()):Prop:=∀ i ∈ ixs,∃ v,σ[i]? = some (some v)
section
variable {X:Cx} {pins:List (Addr × Obj)} {σ:L2.St} {H:Hp} {s:Shared} {p name qual:Str} {ys:List Str} {ixs:()} {cl:List (Str × Addr)} {scope:Scope} {params:Arguments} {body:Expr} {f:Addr} {pm ctv cv:Value} {k:Nat} {x:V} {u:Value} {Q:VK} {t:TE}
theorem XU (S:Zf p ys scope) (hd:X.A.in1.in1.handled = none) (I:Inv X pins σ H s) (hcap:V8 X ys ixs cl) (hσ:QB σ ixs) (rx:RelV x u) {h₁:Heap} {tk:Nat}
  (hns:h₁.Ns s⁻¹ (fun z=>[(p,u)].reverse.lookup z)) (hk₁:∀ b o,s.heap.get? b = some o -> h₁.get? b = some o) :
  Inv (vk X (p :: ys) s H qual scope f cv cl) [] (some x :: Y5 σ ixs) H { s with heap:=h₁,toks:=tk }:=by
 obtain ⟨m,hn,hl⟩:=I.loc
 have key:∀ (j:Nat) (y:Str),ys[j]? = some y -> ∃ c uy vy,X.env.cells.lookup y = some c /\ cl.lookup y = some c /\ (Y5 σ ixs)[j]? = some (some vy) /\ RelV vy uy /\ h₁.IsCell c (some uy):=fun j y hj=>by
  obtain ⟨i,c,h1,h2,h3,h4,h5⟩:=hcap.at_ j y hj;obtain ⟨vy,hv⟩:=hσ i (List.mem_of_getElem? h1);obtain ⟨uy,ry,lk⟩:=hl i y vy h2 hv (.inr (.inl h3))
  have hcell:s.heap.IsCell c (some uy):=by
   rcases lk with ⟨z,_⟩ | ⟨_,c2,e2,z⟩
   ·have z':X.env.scope.names.lookup y = some .local:=z;rw [h3]at z';cases z'
   ·rw [h4]at e2;cases e2;exact z
  refine #[c,uy,vy,h4,h5,?_,ry,?_]
  ·unfold Y5;rw [List.getElem?_map,h1];simp [hv]
  ·obtain ⟨o,e,d⟩:=hcell;exact #[o,hk₁ _ _ e,d]
 have lkc:∀ z d,cl.lookup z = some d -> X.env.cells.lookup z = some d /\ ∃ uy,h₁.IsCell d (some uy):=fun z d h=>by
  obtain ⟨j,hj⟩:=av.mp (hcap.mem z d h);obtain ⟨c,uy,vy,g1,g2,_,_,g5⟩:=key j z hj;rw [h]at g2;cases g2;exact #[g1,uy,g5]
 have e0:=I.env0;have noA:∀ b:Addr,b ∉ (vk X (p :: ys) s H qual scope f cv cl).ex:=fun b z=>absurd (show b ∈ ([]:List Addr)from z) (by simp)
 refine #[#[e0.mod,S.kind,rfl,rfl,Nat.le_refl _,fun z z' d h1 h2=>?_,fun z hz=>?_,fun z d h _=>?_,fun _=>hd,Around.frames_deeper e0.frames,.inr #[rfl,rfl],fun b z=>absurd z (noA b),e0.bs,e0.bsz,fun b _ _=>noA b,fun b z=>absurd z (noA b),e0.funs,e0.frf],
  rfl,e0.bare,Un.kept hk₁,#[_,hns,fun i z v h1 h2 h3=>?_],fun z d h=>?_,e0.hok.fresh (Nat.le_refl _),fun z d h=>?_,fun q hq=>absurd (show q ∈ ([]:List (Addr × Obj))from hq) (by simp),e0.hok.kept hk₁,?_]
 ·exact I.ok.inj z z' d (lkc z d h1).1 (lkc z' d h2).1
 ·have hz':scope.names.lookup z = some .cell \/ scope.names.lookup z = some .free:=hz;rcases hz' with hz' | hz'
  ·exact absurd rfl (S.nocell _ (PySem.mem_of_lookup hz'))
  ·obtain ⟨j,hj⟩:=av.mp (S.one _ (PySem.mem_of_lookup hz') rfl);obtain ⟨c,_,_,_,g2,_⟩:=key j z hj;exact #[c,g2]
 ·exact absurd (show (false:Bool) = true from h) ∅
 ·match i,h1,h2 with
  | 0,h1,h2 =>
   cases h1;cases h2;refine #[u,rx,.inl #[S.par,?_]];show List.lookup p [(p,u)].reverse = some u;simp [List.lookup]
  | i + 1,h1,h2 =>
   have h1':ys[i]? = some z:=h1;obtain ⟨c,uy,vy,_,g2,g3,g4,g5⟩:=key i z h1';have h2':(Y5 σ ixs)[i]? = some (some v):=h2;rw [g3]at h2';cases h2';exact #[uy,g4,.inr #[.inr (S.fre z (List.mem_of_getElem? h1')),c,g2,g5]]
 ·obtain ⟨_,uy,g⟩:=lkc z d h;exact #[_,g]
 ·exact I.freeC z _ (lkc z d h).1
 ·show (Y5 σ ixs).length + 1 = ys.length + 1;unfold Y5;rw [List.length_map,hcap.len]
theorem ZA (S:Zf p ys scope) (hr:Room (k + 3) X.A) (hbind:bindArgs (PySem.W.kla_fn name qual params body scope cl pm cv ctv) #[[u],[]] = pure [(p,u)]) (I:Inv X pins σ H s)
  (ho:s.heap.get? f = some { cls:=.type "function",data:=.func (PySem.W.kla_fn name qual params body scope cl pm cv ctv) }) (hcd:s.heap.CodeRec cv qual) (hcap:V8 X ys ixs cl) (hσ:QB σ ixs)
  (rx:RelV x u) (hb:PE (vk X (p :: ys) s H qual scope f cv cl) body t) (h:t (some x :: Y5 σ ixs) H Q) :
  wpAny (model X.prog X.w) X.A.in1.in1 (call (.ref f) [u]) (EP X pins σ Q) (fun _ _=>False) s:=by
 have hr2:Room (k + 1) X.A.in1.in1:=hr.in1.in1;refine wpAny_call (PySem.W.kla_callFunE hr2.depth ho rfl S.co S.gen rfl hcd ?_);rw [hbind];refine wpAny_pure (wpAny_newFunctionEnv S.nocell (fun z hz=>?_) (fun h₁ hns hsb=>?_) S.kind)
 ·have e:z =(p,u):=by simpa using hz
  subst e;exact S.par
 have hk₁:∀ b o,s.heap.get? b = some o -> h₁.get? b = some o:=fun b o e=>hsb.extBut b o (Nat.ne_of_lt (Heap.lt_size e)) (Heap.get?_push_of_some _ e);refine #[I.nolimit.keeps hk₁,?_];have I1:=XU (qual:=qual) (f:=f) (cv:=cv) (tk:=s.toks + 1) S hr2.hd I hcap hσ rx hns hk₁;show codeAny _ _ (.expr body (PySem.W.envX qual scope s⁻¹ f cv cl)) _ _;refine PySem.W.kla_codeExpr (wpAny_mono (hb [] _ _ H Q I1 h) (fun v s' hv=>?_) fun _ _ z=>False.elim z);obtain ⟨w',H',J,rw',q⟩:=hv;exact I.after #[w',H',J.os,J.bare,J.base,J.hok,rw',q]
end
section
variable {X:Cx} {pins:List (Addr × Obj)} {σ:L2.St} {H:Hp} {s:Shared} {cc P:Addr} {cl:List (Str × Addr)} {params:Arguments} {body:Expr} {scope:Scope} {pos:Pos} {Q:VK}
theorem Zc (hcode:X.env.code = .ref cc) (hC:PySem.W.CodeHd X.base cc P) (hB:X.base.BuiltinsAt X.mg P) (hgP:mainGlobals ≠ P) (hcl:closureFor scope X.env = pure cl) (hdef:defaultsOf params X.env =([],[])) (I:Inv X pins σ H s)
  (hT:TabOk H P pos (X.env.qual ++ "<lambda>"))
  (h:∀ f H',H f = none -> LamAt H' f "<lambda>" (X.env.qual ++ "<lambda>") params body scope cl -> TabOk H' P pos (X.env.qual ++ "<lambda>") -> SamT P H H' -> qL P pos H H' -> Q (.ref f) H') :
  wpAny (model X.prog X.w) X.A (eval (.Lambda params body scope pos) X.env) (EP X pins σ Q) X.xe s:=by
 refine PySem.W.kla_eval hdef ?_;obtain ⟨ps,hP,ht,hh⟩:=hT;have hPo:s.heap.get? P = some (PySem.W.tabObj ps):=I.hok _ _ hP;have hg:=I.mod.glob.keeps I.bk;have Pl:P < s⁻¹:=I.hok.lt hP;rcases hh with hn | ⟨c',hit,hc'⟩
 ·refine PySem.W.kla_makeFunction (mg:=X.mg) hcl I.ok.glob hg hcode (hC.keeps I.bk) hPo ht hn hgP (xF hB I.bk) fun c' ctv h' tk hx hge hlt hrec htb=>?_;have hsz:s⁻¹ <= h'.objs.size:=Nat.le_of_lt (Nat.lt_of_le_of_lt hge hlt)
  have I1:=Inv.grow (P:=P) (c':=c') (f:=h'.objs.size) (more:=(List.toArray [rawInt pos.line,rawInt pos.col,.ref c'])) (tk:=tk) (o:={ cls:=.type "function",data:=.func (PySem.W.kla_fn "<lambda>" (X.env.qual ++ "<lambda>") params body scope cl ((X.mg "__name__").getD .none) (.ref c') ctv) }) I hP
   (fun b u hb e=>Heap.get?_push_of_some _ (hx b u hb e)) (Heap.get?_push_of_some _ htb) hge hsz (Nat.ne_of_lt hlt) (hrec.push _) (Heap.get?_push_size _ rfl)
  have hPc:P ≠ c':=Nat.ne_of_lt (Nat.lt_of_lt_of_le Pl hge);have hPf:P ≠ h'.objs.size:=Nat.ne_of_lt (Nat.lt_of_lt_of_le Pl hsz)
  have atc:(upd (upd (upd H P (.tbl (ps ++ (List.toArray [rawInt pos.line,rawInt pos.col,.ref c'])))) c' (cdE c' (X.env.qual ++ "<lambda>"))) h'.objs.size (fnE h'.objs.size { cls:=.type "function",data:=.func (PySem.W.kla_fn "<lambda>" (X.env.qual ++ "<lambda>") params body scope cl ((X.mg "__name__").getD .none) (.ref c') ctv) })) c' = some (cdE c' (X.env.qual ++ "<lambda>")):=by
   rw [zk (Nat.ne_of_lt hlt),zb]
  refine #[.ref h'.objs.size,_,I1,rfl,h _ _ (I.hok.fresh hsz) #[c',_,ctv,atc,zb] #[ps ++ (List.toArray [rawInt pos.line,rawInt pos.col,.ref c']),?_,?_,.inr #[c',?_,atc]] (fun b o hb e=>?_) fun pos' q' hl' ht'=>?_]
  ·rw [zk hPf,zk hPc,zb]
  ·rw [Array.toList_append];exact yg _ ht
  ·rw [Array.toList_append];exact codeAmong_snoc _ ht hn
  ·have hl:=I.hok.lt e;rw [zk (Nat.ne_of_lt (Nat.lt_of_lt_of_le hl hsz)),zk (Nat.ne_of_lt (Nat.lt_of_lt_of_le hl hge)),zk hb];exact e
  ·obtain ⟨ps',hP2,ht2,hh2⟩:=ht';rw [hP]at hP2;cases hP2;refine #[ps ++ (List.toArray [rawInt pos.line,rawInt pos.col,.ref c']),?_,?_,?_]
   ·rw [zk hPf,zk hPc,zb]
   ·rw [Array.toList_append];exact yg _ ht
   ·rw [Array.toList_append];show codeAmong pos' (ps.toList ++ [rawInt pos.line,rawInt pos.col,.ref c']) = none \/ ∃ c_1,codeAmong pos' (ps.toList ++ [rawInt pos.line,rawInt pos.col,.ref c']) = some (.ref c_1) /\ _;rw [xH _ ht hl'];rcases hh2 with q | ⟨c2,q,e2⟩
    ·exact .inl q
    ·refine .inr #[c2,q,?_];have hl:=I.hok.lt e2;rw [zk (Nat.ne_of_lt (Nat.lt_of_lt_of_le hl hsz)),zk (Nat.ne_of_lt (Nat.lt_of_lt_of_le hl hge)),zk (fun z=>by rw [z,hP]at e2; cases e2)];exact e2
 ·refine PySem.W.kla_makeFunctionHit (mg:=X.mg) hcl I.ok.glob hg hcode (hC.keeps I.bk) hPo ht hit (xF hB I.bk) fun ctv h' tk hk hsz=>?_;have hfr:H h'.objs.size = none:=I.hok.fresh hsz
  have I1:=I.laid (a:=h'.objs.size) (t':=tk) (h':=h'.push { cls:=.type "function",data:=.func (PySem.W.kla_fn "<lambda>" (X.env.qual ++ "<lambda>") params body scope cl ((X.mg "__name__").getD .none) (.ref c') ctv) })
   (o:=fnE h'.objs.size { cls:=.type "function",data:=.func (PySem.W.kla_fn "<lambda>" (X.env.qual ++ "<lambda>") params body scope cl ((X.mg "__name__").getD .none) (.ref c') ctv) })
   (fun b u e=>Heap.get?_push_of_some _ (hk b u e)) hsz (ZZ (Heap.get?_push_size _ rfl))
  have sm:=zg (o:=fnE h'.objs.size { cls:=.type "function",data:=.func (PySem.W.kla_fn "<lambda>" (X.env.qual ++ "<lambda>") params body scope cl ((X.mg "__name__").getD .none) (.ref c') ctv) }) hfr;exact #[.ref h'.objs.size,_,I1,rfl,h _ _ hfr #[c',_,ctv,sm _ _ hc',zb] #[ps,sm _ _ hP,ht,.inr #[c',hit,sm _ _ hc']] (fun b o _ e=>sm _ _ e) fun pos' q' _ ht'=>ht'.same' sm]
end
section
variable {X:Cx} {cc P:Addr} {x p:Str} {ys:List Str} {ixs:()} {cl:List (Str × Addr)} {params:Arguments} {body e:Expr} {scope:Scope} {lpos kpos pos pp:Pos} {k:Nat} {te tb:TE}
theorem VV (hcode:X.env.code = .ref cc) (hC:PySem.W.CodeHd X.base cc P) (hB:X.base.BuiltinsAt X.mg P) (hgP:mainGlobals ≠ P) (hcl:closureFor scope X.env = pure cl) (hdef:defaultsOf params X.env =([],[])) :
  PE X (.Lambda params body scope lpos) (Xh P lpos (X.env.qual ++ "<lambda>") fun H f=>LamAt H f "<lambda>" (X.env.qual ++ "<lambda>") params body scope cl):=by
 intro pins s σ H Q I h;exact Zc hcode hC hB hgP hcl hdef I h.1 h.2
end
end L3
namespace L3
open PySem PySem.Spec PyProof.Rows L2
def vE (K:PySem.W.Frag) (xs:List V) (Q:VK):List V -> Hp -> Prop:=fun acc H'=>∃ rs:List (List Int),Iss K H' (rs.map fun a=>.lst (a.map D.int)) acc /\
 ∀ ys:List (List Int × V),ys = srt (fun p q=>ltI p.1 q.1) ([],.non) (rs.zip xs) -> ∀ D,H' D = none -> Q (.ref D) (upd H' D (.lst (ys.map (·.2))))
section
variable {X:Cx} {pins:List (Addr × Obj)} {σ:L2.St} {H:Hp} {s:Shared}
theorem WP (I:Inv X pins σ H s) {M:Model}:∀ (rs:List (List Int)) (acc:List V) (ks:List Value),Iss X.K H (rs.map fun a=>.lst (a.map D.int)) acc -> Vals acc ks -> ∀ v ∈ ks,PySem.W.Looks M s.heap (typeOf v) (.type "list")
 | [],acc,ks,h,r=>by
  simp only [List.map_nil,Iss]at h;subst h;cases r;exact fun v hv=>by cases hv
 | a :: rs,acc,ks,h,r=>by
  simp only [List.map_cons,Iss]at h;obtain ⟨x,xr,rfl,hx,hxr⟩:=h
  cases r with | cons rx rxr =>
  rename_i u us;intro v hv;rcases ac.mp hv with e | hv
  ·subst e;simp only [Is]at hx;obtain ⟨c,xs,rfl,h1,h2⟩:=hx;cases rx;obtain ⟨its,ri,p,_⟩:=I.list h1;obtain ⟨o,ho,hoc,_⟩:=p.isList;rw [<- hoc];exact (PySem.W.Looks.ld ho).andThen .now
  ·exact WP I rs xr us hxr rxr v hv
theorem UN (I:Inv X pins σ H s) {A:Around} {Q:Bool -> Shared -> Prop} {E:Value -> Shared -> Prop} (hu:A.units + 50 < cLine) {l m:List D} {x y:V} {u v:Value} (hx:Is X.K H (.lst l) x) (hy:Is X.K H (.lst m) y) (rx:RelV x u) (ry:RelV y v)
  (ok:vo l m) (hd:xv l < 40) (q:Q (xE l m) s):wpAny (model X.prog X.w) A (keyLt' oneType' u v) Q E s:=by
 simp only [Is]at hx hy;obtain ⟨a,xs,rfl,h1,h2⟩:=hx;obtain ⟨b,ys,rfl,g1,g2⟩:=hy;cases rx; cases ry;obtain ⟨its,r,p,_⟩:=I.list h1;obtain ⟨its',r',p',_⟩:=I.list g1;have L1:=h2.len;have L2:=g2.len;have L3:=r.length;have L4:=r'.length;have st:=jl (op:=.Lt) (.inl rfl) l m;rw [show l.length = its.toArray.size by simp only [List.size_toArray]; lia,show m.length = its'.toArray.size by simp only [List.size_toArray]; lia]at st;obtain ⟨⟨cls,dd,data,sl⟩,e1,hc,n,hdt⟩:=p.isList;obtain ⟨⟨cls2,dd2,data2,sl2⟩,e2,hc2,n2,hdt2⟩:=p'.isList;simp only at hc hdt hc2 hdt2;subst hc hdt hc2 hdt2;rw [keyLt'_oneType,oneLt'_eq];simp only [if_true];refine wpAny_bind (wpAny_cRoomFor ⋯ ?_)
 refine wpAny_bind (wpAny_callSpecialIfBound?_slot #[_,e1,rfl] F.slot_list_lt (call_meets F.slot_list_lt #[_,e1,rfl] F.entry_list_lt (F.args_list_lt_2 _ _) (wJ (.inl rfl) a b its.toArray its'.toArray n n2 dd dd2 sl sl2 _ _ _ st) #[e1,e2,
  yk h2 g2 r r' (n:=40) hd fun d e x y u v q1 q2 q3 q4 q5=>wm I 40 A.in1 d e x y u v (by show A.units + 1 + 40 < cLine; lia) q1 q2 q3 q4 q5,
  fun j j1 j2 _=>vN (n:=40) (A:=A.in1) h2 g2 r r' hd ok (fun d e x y u v q1 q2 q3 q4 q5 q6=>YF (.inl rfl) I 40 A.in1 d e x y u v (by show A.units + 1 + 40 < cLine; lia) q1 q2 q3 q4 q5 q6) j j1 j2,?_]))
 exact wpAny_truthy_bool q
theorem J3 (W0:WkO ltI) {D kS:Addr} {e e1:Nat} {ks its:List Value} {acc xs:List V} {rs:List (List Int)} {A:Around} {E:Value -> Shared -> Prop} {P:PySem.Fin -> Shared -> Prop} (hu:A.units + 50 < cLine)
  (I:Inv X ((pins ++ [(D,seqObj "list" #[] e1)]) ++ [(kS,seqObj "list" (List.toArray ks) e)]) σ H s)
  (hD:X.s₀.heap.objs.size <= D) (hK:X.s₀.heap.objs.size <= kS) (nD:∀ p ∈ X.pn ++ pins,p.1 ≠ D) (nK:∀ p ∈ X.pn ++ (pins ++ [(D,seqObj "list" #[] e1)]),p.1 ≠ kS)
  (rk:Vals acc ks) (rv:Vals xs its) (hl:ks.length = its.length) (hz:its.length < 64) (hR:Iss X.K H (rs.map fun a=>.lst (a.map _root_.L3.D.int)) acc)
  (h:∀ s' (ys:List (List Int × V)) (out:List Value) c,ys = srt (fun p q=>ltI p.1 q.1) ([],.non) (rs.zip xs) -> Vals (ys.map (·.2)) out -> out.length < 64 -> Inv X (pins ++ [(D,seqObj "list" (List.toArray out) c)]) σ H s' -> P (.done (.ret .none)) s') :
  wpAny (model X.prog X.w) A (ksk_end D false its.toArray e1 (.ref kS) (List.toArray ks)) P E s:=by
 have L1:=hR.len;have L2:=rk.length;have L3:=rv.length;rw [List.length_map]at L1;have lz:(rs.zip xs).length = its.length:=by rw [List.length_zip]; lia
 unfold ksk_end;simp only [Bool.false_eq_true,if_false];by_cases h2:its.toArray.size < 2
 ·rw [if_pos h2,if_pos h2];refine wpAny_bind (wpAny_pure ?_);rw [StateT.run_pure];refine wpAny_bind (wpAny_pure ?_)
  (try dsimp only)
  refine j3 (out:=its) I hD hK nD nK ⋯ ?_ hz rfl fun s' c I'=>h s' (rs.zip xs) its c ?_ ?_ hz I'
  ·show ((List.toArray ks).zip its.toArray).map (·.2) = _;apply Array.toList_inj.mp;rw [Array.toList_map,ksk_zip];exact List.map_snd_zip (by simp; lia)
  ·rw [List.size_toArray]at h2;unfold srt;rw [if_pos ⋯]
  ·rw [List.map_snd_zip ⋯];exact rv
 ·rw [if_neg h2,if_neg h2];rw [List.size_toArray]at h2;refine wpAny_bind (PySem.W.kas_kind (T:=.type "list") ⋯ (WP I (M:=model X.prog X.w) rs acc ks hR rk) rfl (by simp) ?_);have W:Wk (fun i j=>ltI (rs.getD i []) (rs.getD j [])):=#[fun a b=>W0.asym _ _,fun a b c=>W0.ntr _ _ _];have ok:=uo (n:=its.length) W ⋯
  have lt_eq:(fun i j=>ltI (rs.getD i []) (rs.getD j [])) =(fun i j=>(fun (p q:List Int × V)=>ltI p.1 q.1) ((rs.zip xs).getD i ([],.non)) ((rs.zip xs).getD j ([],.non))):=by
   have one:∀ i,((rs.zip xs).getD i ([],V.non)).1 = rs.getD i []:=fun i=>by
    by_cases hi:i < its.length
    ·have a1:i < rs.length:=⋯;have a2:i < xs.length:=⋯;rw [List.getD_eq_getElem?_getD,List.getD_eq_getElem?_getD,List.getElem?_eq_getElem ⋯,List.getElem?_eq_getElem a1];simp
    ·rw [List.getD_eq_getElem?_getD,List.getD_eq_getElem?_getD,List.getElem?_eq_none ⋯,List.getElem?_eq_none ⋯];rfl
   funext i j;simp only [one]
  have wp:=Kok.wp (n:=its.length) (cmp:=PySem.W.kas_ask X.prog X.w A (oneType') ks) (I:=fun s'=>Inv X ((pins ++ [(D,seqObj "list" #[] e1)]) ++ [(kS,seqObj "list" (List.toArray ks) e)]) σ H s')
   (R:=fun p s'=>p = kW (fun i j=>ltI (rs.getD i []) (rs.getD j [])) (PySem.W.kas_sort its.length) /\ Inv X ((pins ++ [(D,seqObj "list" #[] e1)]) ++ [(kS,seqObj "list" (List.toArray ks) e)]) σ H s')
   (fun i j C s' hi hj I' hC=>?_) (fun p s' hp I'=>#[hp,I']) _ s I (Kok.same _ ok)
  ·have run:=PySem.W.kat_run (E:=E) (vs:=its) (ks:=ks) (Q:=fun st' s'=>∃ p:Array Nat,p.size = its.length /\ arrOf st' = p.map (PySem.W.kas_item (ks.toArray.zip its.toArray)) /\ failedOf st' = none /\ _) hl ⋯ hz (fun p' st' s' a1 a2 a3 a4=>#[p',a1,a2,a3,a4]) wp;refine wpAny_bind (wpAny_mono run ?_ fun _ _ e=>e);rintro ⟨⟨⟩,st'⟩ s' ⟨p,hp,har,hf,hpk,I'⟩
   (try dsimp only)
   have hout:=PySem.W.kat_snds (ks:=ks) (vs:=its) hl har;have hR1:Rg its.length p:=by rw [hpk]; exact (Kok.run _ ok).1
   have g1:(p.toList.map fun i=>(rs.zip xs).getD i ([],.non)) = srt (fun p q=>ltI p.1 q.1) ([],.non) (rs.zip xs):=by
    unfold srt;rw [if_neg ⋯,lz,<- lt_eq,<- hpk]
   have olen:(p.toList.map fun i=>its.getD i Value.none).length = its.length:=by rw [List.length_map,Array.length_toList,hp]
   refine j3 (out:=p.toList.map fun i=>its.getD i Value.none) I' hD hK nD nK ⋯ hout ⋯ hf fun s2 c I2=>h s2 _ _ c g1 ?_ ⋯ I2;rw [List.map_map]
   have all:∀ (js:()),(∀ j ∈ js,j < its.length) -> Vals (js.map ((fun x:List Int × V=>x.2) ∘ fun i=>(rs.zip xs).getD i ([],.non))) (js.map fun i=>its.getD i Value.none):=by
    intro js
    induction js with
    | nil=>intro _; exact .nil
    | cons j js ih =>
     intro hj;refine .cons ?_ (ih fun i hi=>hj i (List.mem_cons_of_mem _ hi));have hjl:=hj j List.mem_cons_self;have a1:j < xs.length:=⋯;obtain ⟨u,hu1,ru⟩:=z6 rv (j:=j) (x:=xs[j]) (List.getElem?_eq_getElem a1)
     have e1:((rs.zip xs).getD j ([],V.non)).2 = xs[j]:=by
      rw [List.getD_eq_getElem?_getD,List.getElem?_eq_getElem ⋯];simp
     have e2:its.getD j Value.none = u:=by rw [List.getD_eq_getElem?_getD,hu1]; rfl
     show RelV ((rs.zip xs).getD j ([],V.non)).2 (its.getD j Value.none);rw [e1,e2];exact ru
   exact all p.toList fun j hj=>aj.mp (hR1.mem_iff.mp hj)
  ·have a1:i < rs.length:=⋯;have a2:j < rs.length:=⋯;have gi:(rs.map fun a=>_root_.L3.D.lst (a.map _root_.L3.D.int))[i]? = some (.lst (rs[i].map _root_.L3.D.int)):=by rw [List.getElem?_map,List.getElem?_eq_getElem a1]; rfl
   have gj:(rs.map fun a=>_root_.L3.D.lst (a.map _root_.L3.D.int))[j]? = some (.lst (rs[j].map _root_.L3.D.int)):=by rw [List.getElem?_map,List.getElem?_eq_getElem a2]; rfl
   obtain ⟨x,hx,ix⟩:=hR.at gi;obtain ⟨y,hy,iy⟩:=hR.at gj;obtain ⟨u,hu1,ru⟩:=z6 rk hx;obtain ⟨v,hv1,rv1⟩:=z6 rk hy;have e1:ks.getD i Value.none = u:=by rw [List.getD_eq_getElem?_getD,hu1]; rfl
   have e2:ks.getD j Value.none = v:=by rw [List.getD_eq_getElem?_getD,hv1]; rfl
   have e3:rs.getD i [] = rs[i]:=by rw [List.getD_eq_getElem?_getD,List.getElem?_eq_getElem a1]; rfl
   have e4:rs.getD j [] = rs[j]:=by rw [List.getD_eq_getElem?_getD,List.getElem?_eq_getElem a2]; rfl
   unfold PySem.W.kas_ask;rw [e1,e2];refine UN I' hu ix iy ru rv1 (xI _ _) (by rw [vM]; decide) ?_;rw [wC,<- e3,<- e4];exact hC s' I'
theorem Uz (W0:WkO ltI) {k:Nat} {q:Addr} {kc:V -> Hp -> VK -> Prop} (hr:Room (k + 2) X.A)
  (hkc:∀ (pins':List (Addr × Obj)) (s:Shared) (H:Hp) (x:V) (u:Value) (Q:VK),Inv X pins' σ H s -> RelV x u -> kc x H Q -> wpAny (model X.prog X.w) X.A.in1.in1 (call (.ref q) [u]) (EP X pins' σ Q) (fun _ _=>False) s)
  {D kS:Addr} {e1:Nat} {its:List Value} {xs:List V} {E:Value -> Shared -> Prop} {P:PySem.Fin -> Shared -> Prop} {Q:VK}
  (I:Inv X ((pins ++ [(D,seqObj "list" #[] e1)]) ++ [(kS,seqObj "list" #[] 0)]) σ H s)
  (hD:X.s₀.heap.objs.size <= D) (hK:X.s₀.heap.objs.size <= kS) (nD:∀ p ∈ X.pn ++ pins,p.1 ≠ D) (nK:∀ p ∈ X.pn ++ (pins ++ [(D,seqObj "list" #[] e1)]),p.1 ≠ kS)
  (rv:Vals xs its) (hz:its.length < 64)
  (ht:yo kc xs [] H (vE X.K xs Q))
  (hP:∀ s',EP X pins σ Q (.ref D) s' -> P (.done (.ret .none)) s') :
  wpAny (model X.prog X.w) X.A.in1.in1 (ksk_rest D (.ref q) false its.toArray e1 (.ref kS)) P E s:=by
 unfold ksk_rest;refine wpAny_bind (wpAny_rule ?_);rw [List.forIn_toArray]
 refine wpAny_bind (ksk_fold (fun j s'=>∃ acc ks e H',Inv X ((pins ++ [(D,seqObj "list" #[] e1)]) ++ [(kS,seqObj "list" (List.toArray ks) e)]) σ H' s' /\ Vals acc ks /\ ks.length = j /\ yo kc (xs.drop j) acc H' (vE X.K xs Q))
  its 0 s #[[],[],0,H,I,.nil,rfl,ht] (fun j x s1 hx hJ=>?_) fun s1 hJ=>?_)
 ·obtain ⟨acc,ks,e,H1,I1,rk,hkl,tk⟩:=hJ;rw [Nat.zero_add]at hkl tk;have hjl:j < its.length:=(ae.mp hx).1;have L3:=rv.length;obtain ⟨u,hu,ru⟩:=z6 rv (j:=j) (x:=xs[j]) (List.getElem?_eq_getElem ⋯);rw [hx]at hu;cases hu;rw [List.drop_eq_getElem_cons ⋯]at tk;refine wpAny_bind (wpAny_attempt (wpAny_mono (hkc _ _ _ _ _ _ I1 ru tk) (fun kv s2 hk=>?_) fun _ _ z=>z.elim));obtain ⟨v,H2,I2,rv2,tk2⟩:=hk;have pk:=Inv.at_pin I2;have sb:=Heap.SameBut.update s2.heap kS (Obj.mapSeq (·.push kv));have ea:(List.toArray ks).push kv = List.toArray (ks ++ [kv]):=by simp
  obtain ⟨c2,hc2⟩:∃ c2,(s2.heap.update kS (Obj.mapSeq (·.push kv))).get? kS = some (seqObj "list" (List.toArray (ks ++ [kv])) c2):=#[_,by rw [<- ea]; exact get?_update_seq pk (·.push kv)];have I3:=Inv.repin I2 hK nK sb hc2 zX
  (try dsimp only)
  refine wpAny_bind (listUpdate_at pk rfl ?_ (by rw [List.size_toArray,sizeLine_eq]; lia) (by rw [Array.size_push,List.size_toArray,sizeLine_eq]; lia));refine wpAny_pure #[rfl,acc ++ [v],ks ++ [kv],c2,H2,I3,rk.append (.cons rv2 .nil),by rw [List.length_append,List.length_singleton,hkl]; lia,?_];rw [Nat.zero_add];exact tk2
 ·obtain ⟨acc,ks,e,H1,I1,rk,hkl,tk⟩:=hJ;rw [Nat.zero_add]at hkl tk;have L3:=rv.length;rw [<- L3,List.drop_length]at tk;obtain ⟨rs,hR,hq⟩:=tk
  (try dsimp only)
  refine wpAny_bind (listItems_at (Inv.at_pin I1) rfl ?_);refine J3 W0 (by have:=hr.in1.in1.un; lia) I1 hD hK nD nK rk rv hkl hz hR fun s' ys out c p1 p3 p4 I'=>hP s' ?_;have fp:=Inv.fp_of_pin I' hD nD;refine #[.ref D,_,Inv.track I'.unpinned (a:=D) (o:=.lst (ys.map (·.2))) fp #[?_,out,c,p3,Inv.at_pin I'],rfl,hq ys p1 D fp.1];rw [p3.length,sizeLine_eq];lia
theorem kF (W0:WkO ltI) {k:Nat} {q l:Addr} {xs:List V} {kc:V -> Hp -> VK -> Prop} {Q:VK} (hr:Room (k + 2) X.A)
  (hkc:∀ (pins':List (Addr × Obj)) (s:Shared) (H:Hp) (x:V) (u:Value) (Q:VK),Inv X pins' σ H s -> RelV x u -> kc x H Q -> wpAny (model X.prog X.w) X.A.in1.in1 (call (.ref q) [u]) (EP X pins' σ Q) (fun _ _=>False) s)
  (I:Inv X pins σ H s) (hS:SqL X.K H l xs) (hz:xs.length < 64) (ht:yo kc xs [] H (vE X.K xs Q)) :
  wpAny (model X.prog X.w) X.A (call (.builtin "sorted") [.ref l] [(Str.ofString "key",.ref q)]) (EP X pins σ Q) X.xe s:=by
 obtain ⟨its,rv,pl,_⟩:=I.list hS;have hlen:=rv.length;refine call_function_entry_kw kind_sorted plain_sorted entry_sorted (ksk_s1 _ _) ?_;unfold Builtin.«sorted»;refine wpAny_bind (m:=checkCount "sorted" 1 1 _) (wpAny_pure ?_);refine wpAny_bind (collect_list pl.isList ?_ (by rw [sizeLine_eq]; lia));refine wpAny_bind (wpAny_newList ?_ (by rw [sizeLine_eq]; lia));generalize hh1:((s.heap.push (seqObj "list" #[] 0)).update s⁻¹ (Obj.mapSeq (· ++ its.toArray))) = h1;have sz1:h1.objs.size = s⁻¹ + 1:=by rw [<- hh1,Heap.size_update,size_push']
 have kp1:∀ b o,s.heap.get? b = some o -> h1.get? b = some o:=fun b o e=>by
  have hlt:b < s⁻¹:=Heap.lt_size e;rw [<- hh1,Heap.get?_update_ne _ _ _ _ (Nat.ne_of_lt hlt),Heap.get?_push_ne _ _ _ (Nat.ne_of_lt hlt)];exact e
 have hoL:(h1.push (seqObj "list" its.toArray 0)).get? h1.objs.size = some (seqObj "list" its.toArray 0):=Heap.get?_push_size _ rfl;show wpAny _ _ _ _ _ { s with heap:=h1.push (seqObj "list" its.toArray 0) };refine wpAny_bind (wpAny_holding (wpAny_call_entry_kw slot_list_sort #[_,hoL,rfl] entry_list_sort ?body (ksk_l1 _ _)));show wpAny _ _ (Builtin.«list.sort» #[[.ref h1.objs.size],[(Str.ofString "key",.ref q)]]) _ _ _;rw [ksk_t1];generalize hh2:h1.push (seqObj "list" its.toArray 0) = h2 at hoL;have sz2:h2.objs.size = h1.objs.size + 1:=by rw [<- hh2,size_push']
 have kp2:∀ b o,s.heap.get? b = some o -> h2.get? b = some o:=fun b o e=>by rw [<- hh2]; exact Heap.get?_push_of_some _ (kp1 b o e)
 generalize hDD:h1.objs.size = D at hoL;obtain ⟨e1,ho1⟩:∃ e1,(h2.update D (Obj.mapSeq fun _=>(#[]:Array Value))).get? D = some (seqObj "list" #[] e1):=#[_,get?_update_seq hoL fun _=>#[]];have hDs:s⁻¹ <= D:=by rw [<- hDD,sz1]; exact Nat.le_succ _
 have sb:=Heap.SameBut.update h2 D (Obj.mapSeq fun _=>(#[]:Array Value));unfold ksk_tree;refine wpAny_bind (listItems_at hoL rfl ?_);refine wpAny_bind (listUpdate_at hoL rfl ?_ (by rw [List.size_toArray,sizeLine_eq]; lia) (Nat.zero_le _));refine wpAny_bind (seqEpoch_at ho1 rfl ?_);refine wpAny_bind (wpAny_newTuple ?_ (by show its.length <= _; rw [sizeLine_eq]; lia));refine wpAny_bind (wpAny_newList ?_ (Nat.zero_le _));refine wpAny_holding ?_;generalize hh3:(h2.update D (Obj.mapSeq fun _=>(#[]:Array Value))).push (seqObj "tuple" its.toArray 0) = h3;have sz3:h3.objs.size = s⁻¹ + 3:=by rw [<- hh3,size_push',Heap.size_update,sz2,sz1]
 have hoK:(h3.push (seqObj "list" #[] 0)).get? h3.objs.size = some (seqObj "list" #[] 0):=Heap.get?_push_size _ rfl;have hoD:(h3.push (seqObj "list" #[] 0)).get? D = some (seqObj "list" #[] e1):=Heap.get?_push_of_some _ (by rw [<- hh3]; exact Heap.get?_push_of_some _ ho1)
 have kp3:∀ b o,s.heap.get? b = some o -> (h3.push (seqObj "list" #[] 0)).get? b = some o:=fun b o e=>by
  have hlt:b < s⁻¹:=Heap.lt_size e;refine Heap.get?_push_of_some _ ?_;rw [<- hh3];exact Heap.get?_push_of_some _ ((sb.2 b (Nat.ne_of_lt (Nat.lt_of_lt_of_le hlt hDs))).trans (kp2 b o e))
 have I1:Inv X pins σ H { s with heap:=h3.push (seqObj "list" #[] 0) }:=I.kept (t':=s.toks) kp3;have fD:yV X pins H D:=I.fpOk ⋯ (I.hok.fresh ⋯);have fK:yV X pins H h3.objs.size:=I.fpOk ⋯ (I.hok.fresh ⋯);have I2:=Inv.newpin I1 fD hoD zX
 have nK:∀ p ∈ X.pn ++ (pins ++ [(D,seqObj "list" #[] e1)]),p.1 ≠ h3.objs.size:=fun p hp=>by
  rcases af.mp hp with z | z
  ·exact fK.2.2.2.2.2 p (List.mem_append_left _ z)
  ·rcases af.mp z with z | z
   ·exact fK.2.2.2.2.2 p (List.mem_append_right _ z)
   ·have e:p =(D,seqObj "list" #[] e1):=by simpa using z
    subst e;show D ≠ _;lia
 have I3:=Inv.newpin I2 (b:=h3.objs.size) #[fK.1,fK.2.1,fK.2.2.1,fK.2.2.2.1,fK.2.2.2.2.1,nK] hoK zX;have hsz:=I.sz;have hK0:X.s₀.heap.objs.size <= h3.objs.size:=⋯;exact Uz W0 hr hkc I3 ⋯ hK0 fD.2.2.2.2.2 nK rv ⋯ ht fun s' hE=>#[_,rfl,wpAny_pure #[_,rfl,hE]]
end
def Z5 (K:PySem.W.Frag) (P:Addr) (pos:Pos) (q:Str) (LA:Hp -> Addr -> Prop) (ixs:()) (te tb:TE):TE:=fun σ H Q=>te σ H fun v H1=>TabOk H1 P pos q /\
 ∀ f H2,H1 f = none -> LA H2 f -> TabOk H2 P pos q -> SamT P H1 H2 -> qL P pos H1 H2 -> ∃ l xs,v = .ref l /\ SqL K H2 l xs /\ xs.length < 64 /\ QB σ ixs /\ yo (fun x H Q=>LA H f /\ tb (some x :: Y5 σ ixs) H Q) xs [] H2 (vE K xs Q)
section
variable {X:Cx} {cc P:Addr} {x p:Str} {ys:List Str} {ixs:()} {cl:List (Str × Addr)} {params:Arguments} {body e:Expr} {scope:Scope} {lpos kpos pos pp:Pos} {k:Nat} {te tb:TE}
theorem ZC (W0:WkO ltI) (S:Zf p ys scope) (hr:Room (k + 3) X.A) (hg:Gl X x) (hm:X.mg x = none) (hv:bootBuiltins x = some (.builtin "sorted")) (ha:PA X [e] (zM te xu))
  (hcode:X.env.code = .ref cc) (hC:PySem.W.CodeHd X.base cc P) (hB:X.base.BuiltinsAt X.mg P) (hgP:mainGlobals ≠ P) (hcl:closureFor scope X.env = pure cl) (hdef:defaultsOf params X.env =([],[]))
  (hbind:∀ (cv pm ctv u:Value),bindArgs (PySem.W.kla_fn "<lambda>" (X.env.qual ++ "<lambda>") params body scope cl pm cv ctv) #[[u],[]] = pure [(p,u)]) (hcap:V8 X ys ixs cl)
  (hb:∀ (s:Shared) (H:Hp) (f:Addr) (cv:Value),Room k (vk X (p :: ys) s H (X.env.qual ++ "<lambda>") scope f cv cl).A -> PE (vk X (p :: ys) s H (X.env.qual ++ "<lambda>") scope f cv cl) body tb)
  (hn:x ≠ "__name__":=by decide) (hdb:(x ==("__debug__" : Str)) = false:=by decide)
  (hks:(backToKw pos (keywordEach [#[some "key",.Lambda params body scope lpos,kpos]] X.env)).filterMap (·.1) = [Str.ofString "key"]:=by rfl)
  (hst:backTo pos (starEach [e] X.env) =(false,eval e X.env) :: backTo pos (starEach [] X.env):=by rfl) (hpl:(backTo pos (starEach [e] X.env)).any (·.1) = false:=by rfl)
  (hall:(backToKw pos (keywordEach [#[some "key",.Lambda params body scope lpos,kpos]] X.env)).all (·.1.isSome) = true:=by rfl) (hkw:(backToKw pos (keywordEach [#[some "key",.Lambda params body scope lpos,kpos]] X.env)).any (·.1.isNone) = false:=by rfl) :
  PE X (.Call (.Name x pp) [e] [#[some "key",.Lambda params body scope lpos,kpos]] pos) (Z5 X.K P lpos (X.env.qual ++ "<lambda>") (fun H f=>LamAt H f "<lambda>" (X.env.qual ++ "<lambda>") params body scope cl) ixs te tb):=by
 intro pins s σ H Q I h;have hlam:PE X (.Lambda params body scope lpos) (Xh P lpos (X.env.qual ++ "<lambda>") fun H f=>LamAt H f "<lambda>" (X.env.qual ++ "<lambda>") params body scope cl):=VV hcode hC hB hgP hcl hdef;refine wpAny_Call_Name_kw (xR I hg hm hv ?_ hn hdb)
 have h':(zM te xu) σ H (QL fun v H1=>TabOk H1 P lpos (X.env.qual ++ "<lambda>") /\ ∀ f H2,H1 f = none -> LamAt H2 f "<lambda>" (X.env.qual ++ "<lambda>") params body scope cl -> TabOk H2 P lpos (X.env.qual ++ "<lambda>") -> SamT P H1 H2 -> qL P lpos H1 H2 ->
   ∃ l xs,v = .ref l /\ SqL X.K H2 l xs /\ xs.length < 64 /\ QB σ ixs /\ yo (fun x H Q=>LamAt H f "<lambda>" (X.env.qual ++ "<lambda>") params body scope cl /\ tb (some x :: Y5 σ ixs) H Q) xs [] H2 (vE X.K xs Q)):=h
 refine callWith_kw (thn (ha pos pins s σ H _ I h') fun us s1=>el5 fun vs H1 I1 r1 q1=>?_) hst hpl hall hkw;obtain ⟨v,rfl,hT,q1⟩:=uP q1;obtain ⟨u,rfl,ru⟩:=xa r1
 refine thn ((jo hlam Zh:PK X [#[some "key",.Lambda params body scope lpos,kpos]] _) pos pins s1 σ H1 (QL fun kv H2=>∃ f,kv = .ref f /\ LamAt H2 f "<lambda>" (X.env.qual ++ "<lambda>") params body scope cl /\
   ∃ l xs,v = .ref l /\ SqL X.K H2 l xs /\ xs.length < 64 /\ QB σ ixs /\ yo (fun x H Q=>LamAt H f "<lambda>" (X.env.qual ++ "<lambda>") params body scope cl /\ tb (some x :: Y5 σ ixs) H Q) xs [] H2 (vE X.K xs Q)) I1 #[hT,fun f H2 a1 a2 a3 a4 a5=>#[f,rfl,a2,q1 f H2 a1 a2 a3 a4 a5]]) fun ws s2=>el5 fun zs H2 I2 r2 q2=>?_
 obtain ⟨kv,rfl,f,rfl,hLA,l,xs,rfl,hS,hz,hσ,hk⟩:=uP q2;obtain ⟨w',rfl,rw'⟩:=xa r2;cases rw';cases ru;rw [hks];show wpAny _ _ (call (.builtin "sorted") [.ref l] [(Str.ofString "key",.ref f)]) _ _ _;refine kF W0 (k:=k + 1) hr (fun pins' s3 H3 x3 u3 Q3 I3 r3 h3=>?_) I2 hS hz hk;obtain ⟨⟨c',pm,ctv,e1,e2⟩,h4⟩:=h3;have hcd:s3.heap.CodeRec (.ref c') (X.env.qual ++ "<lambda>"):=(I3.hok _ _ e1).1;have ho:=(I3.hok _ _ e2).1;exact ZA (k:=k) S hr (hbind _ _ _ _) I3 ho hcd hcap hσ r3 (hb s3 H3 f (.ref c') (hr.in1.in1.deeper _)) h4
end
end L3
namespace PySem
namespace F
end F
section
variable {prog:Program} {w:World} {A:Around} {E:Value -> Shared -> Prop} {s:Shared}
def Heap.IsRevS (h:Heap) (a:Addr) (x:Str) (t:Tok) (i:Int):Prop:=∃ o,h.get? a = some o /\ o.cls = .type "reversed" /\ o.data = .fields (List.toArray [.str x t,rawInt i])
theorem Heap.IsRevS.typeIs {a:Addr} {x:Str} {t:Tok} {i:Int} (z:s.heap.IsRevS a x t i):s.TypeIs (.ref a) "reversed":=let #[o,ho,hc,_]:=z; #[o,ho,hc]
theorem Heap.IsRevS.at {h h':Heap} {a:Addr} {x:Str} {t:Tok} {i:Int} (z:h.IsRevS a x t i) (e:∀ o,h.get? a = some o -> h'.get? a = some o):h'.IsRevS a x t i:=let #[o,ho,r]:=z; #[o,e _ ho,r]
end
end PySem
namespace L3
open PySem PySem.Spec PyProof.Rows L2
section
variable {X:Cx} {o a:Expr} {to:TE} {ta:TA} {apos cpos p pos2:Pos}
end
end L3
namespace L2
open PySem PySem.Spec PyProof.Rows
section
variable {X:Cx} {tg:Expr}
end
end L2
namespace L3
open PySem L2
section
variable {g:TG} {tt:TT} {te:TE} {own:Nat} {ix:()} {σ:L2.St} {H1:Hp} {Q:VK} {D:Addr}
end
end L3
namespace L3
open PySem PySem.Spec PyProof.Rows L2
open AutoSeq1 (wpAny_loadPart')
open MeetsSeq MeetsSeq2 MeetsSeq3 SeqRoads2 SeqAt
section
variable {X:Cx} {pins:List (Addr × Obj)} {σ:St} {H:Hp} {s:Shared}
end
end L3
namespace L3
open PySem PySem.Spec PyProof.Rows L2
section
variable {prog:Program} {w:World} {A:Around} {R:Result -> Shared -> Prop} {I:Addr} {fp wr:List Addr} {G:Array GenState -> Array GenState -> Prop} {n:Nat} {P:Nat -> Value -> Prop} {St:Nat -> Shared -> Prop}
end
section
variable {prog:Program} {w:World} {A:Around} {E:Value -> Shared -> Prop} {s:Shared}
end
end L3
namespace L3
open PySem PySem.Spec PyProof.Rows L2
section
variable {X:Cx}
end
end L3
namespace L3
open PySem PySem.Spec PyProof.Rows L2
section
variable {g:TG} {tt:TT} {te:TE} {own:Nat} {ix:()} {σ:L2.St} {H1:Hp} {Q:VK} {D:Addr}
end
end L3
namespace L3
open PySem PySem.Spec PyProof.Rows L2
section
variable {X:Cx} {pos:Pos}
end
end L3
namespace L3
open PySem PySem.Spec PyProof.Rows L2
section
variable {X:Cx} {pos:Pos}
theorem Inv.beyond {pins:List (Addr × Obj)} {σ:L2.St} {H:Hp} {s:Shared} (I:Inv X pins σ H s):(s⁻¹ == sysModules) = false:=by
 obtain ⟨o,es,ep,e,_⟩:=I.ok.mod.glob;have h1:=Heap.lt_size e;have h2:=I.ok.bsz;have h3:=I.sz;have h4:1 <= mainGlobals:=∅;have h5:1 < s⁻¹:=Nat.lt_of_lt_of_le (Nat.lt_of_le_of_lt h4 h1) (Nat.le_trans h2 h3);rw [beq_eq_false_iff_ne];intro z;exact Nat.ne_of_gt h5 z
end
end L3
namespace L3
open PySem PySem.Spec PyProof.Rows L2
noncomputable def kY (P:Program) (w:World) (a:Addr) (kvs:List (Str × V)) (ep:Nat):HO:=.ext fun h=>(a == sysModules) = false /\ ∃ kus:List (Str × Value),kus.map (·.1) = kvs.map (·.1) /\ Vals (kvs.map (·.2)) (kus.map (·.2)) /\ h.DictAt (PySem.strKind P w) a kus ep
noncomputable def atD (kvs:List (Str × V)) (k:Str):Option V:=(kvs.find? fun p=>p.1 = k).map (·.2)
theorem jp:∀ {kvs:List (Str × V)} {kus:List (Str × Value)},kus.map (·.1) = kvs.map (·.1) -> Vals (kvs.map (·.2)) (kus.map (·.2)) -> ∀ k,RelO (atD kvs k) (valueAt kus k)
 | [],[],_,_,k=>trivial
 | [],q :: kus,e,_,k=>nomatch e
 | p :: kvs,[],e,_,k=>nomatch e
 | p :: kvs,q :: kus,e,r,k=>by
  rw [List.map_cons,List.map_cons,List.cons.injEq]at e;rw [List.map_cons,List.map_cons]at r
  cases r with
  | cons r1 r2 =>
   unfold atD valueAt;rw [List.find?_cons,List.find?_cons,e.1];by_cases h:p.1 = k
   ·rw [decide_eq_true h];exact r1
   ·rw [decide_eq_false h];exact jp e.2 r2 k
theorem Yr {P:Program} {w:World} {H:Hp} {h:Heap} {a:Addr} {kvs:List (Str × V)} {ep:Nat} {kus:List (Str × Value)} (hs:(a == sysModules) = false) (e:kus.map (·.1) = kvs.map (·.1)) (r:Vals (kvs.map (·.2)) (kus.map (·.2))) (d:h.DictAt (PySem.strKind P w) a kus ep):ObjOk P w H h a (kY P w a kvs ep) :=
 #[#[hs,kus,e,r,d],(let #[o,es,ho,_]:=d; #[o,ho]),fun h1 h2 ⟨hs,kus,e,r,o,es,ho,z⟩ k=>#[hs,kus,e,r,o,es,k _ ho,z]]
section
variable {X:Cx} {pos:Pos}
def JZ (P:Program) (w:World):TE:=fun _ H Q=>∀ p ep,H p = none -> Q (.ref p) (upd H p (kY P w p [] ep))
theorem Zs:PE X (.Dict [] [] pos) (JZ X.prog X.w):=fun pins s σ H Q I h=>by
 obtain ⟨ep,d⟩:=(Heap.DictOf.new (knd:=PySem.strKind X.prog X.w) s.heap).dictAt;exact wpAny_Dict_empty #[.ref s⁻¹,_,I.laid (a:=s⁻¹) (t':=s.toks) (fun _ _ q=>Heap.get?_push_of_some _ q) (Nat.le_refl _) (Yr (kvs:=[]) (Inv.beyond I) rfl .nil d),rfl,h _ ep (I.hok.fresh (Nat.le_refl _))]
theorem Inv.odic {pins:List (Addr × Obj)} {σ:L2.St} {H:Hp} {s:Shared} {a:Addr} {kvs:List (Str × V)} {ep:Nat} (I:Inv X pins σ H s) (h:H a = some (kY X.prog X.w a kvs ep)):(a == sysModules) = false /\ ∃ kus:List (Str × Value),kus.map (·.1) = kvs.map (·.1) /\ Vals (kvs.map (·.2)) (kus.map (·.2)) /\ s.heap.DictAt (PySem.strKind X.prog X.w) a kus ep:=(I.hok a _ h).1
def Q4 (P:Program) (w:World):R2:=fun x y H Q=>∃ a kvs ep k v,x = .ref a /\ y = .str k /\ H a = some (kY P w a kvs ep) /\ atD kvs k = some v /\ Q v H
theorem V4:IxR X (Q4 X.prog X.w):=by
 intro value slice pins s σ H x y v u Q I rx ry h hs;obtain ⟨a,kvs,ep,k,z,rfl,rfl,ha,hk,q⟩:=h;cases rx;obtain ⟨t,rfl⟩:=ry;obtain ⟨_,kus,e,r,dd⟩:=Inv.odic I ha;obtain ⟨w',hw,rw'⟩:=RelO.some_of (v:=z) (o:=valueAt kus k) (by rw [<- hk]; exact jp e r k);exact tail_any dd.dictOf.typeIs slot_dict_getitem.lookup (wpAny_getItem_of (knd:=PySem.strKind X.prog X.w) (strKind_is _ _ _ _) dd.dictOf.mapOf hw #[z,H,I.tok _,rw',q]) hs
def zaj (P:Program) (w:World):V -> List V -> Hp -> VK -> Prop:=fun x vs H Q=>∃ a kvs ep k v,x = .ref a /\ vs = [.str k,v] /\ H a = some (kY P w a kvs ep) /\ kvs.length <= 1000 /\ (∀ u,atD kvs k = some u -> Q u H) /\ (atD kvs k = none -> ∀ ep',Q v (upd H a (kY P w a (kvs ++ [(k,v)]) ep')))
theorem Zp:MtR X "dict.setdefault" (zaj X.prog X.w):=by
 intro pins s σ H x vs v us Q I rx rv h;obtain ⟨a,kvs,ep,k,d,rfl,rfl,ha,hn,q1,q2⟩:=h;cases rx;obtain ⟨u1,u2,rfl,r1,r2⟩:=Vals.two rv;obtain ⟨t,rfl⟩:=r1;obtain ⟨hsm,kus,e,r,da⟩:=Inv.odic I ha;have hl:kus.length = kvs.length:=by have:=congrArg List.length e; rw [List.length_map,List.length_map]at this; exact this
 have s16:=yt;have hv:=jp e r k;refine call_meetsIn PySem.F.slot_dict_setdefault da.dictOf.typeIs PySem.F.entry_dict_setdefault (PySem.F.args_dict_setdefault_3 _ _ _) (kt_meets_setdefault (PySem.strKind X.prog X.w) a (strKind_is _ _ k t) hsm u2) #[kus,da.dictOf,⋯,fun z hz=>?_,fun hz h' dd hs=>?_]
 ·rw [hz]at hv
  cases hk:atD kvs k with
  | none=>rw [hk]at hv; exact hv.elim
  | some y =>
   rw [hk]at hv;exact #[y,H,I.tok _,hv,q1 y hk]
 ·rw [hz]at hv
  have hk:atD kvs k = none:=by
   cases hk:atD kvs k with
   | none=>rfl
   | some y=>rw [hk]at hv; exact hv.elim
  have es:stored kus k u2 = kus ++ [(k,u2)]:=by
   unfold stored;rw [if_neg];intro h;obtain ⟨p,hp,hpk⟩:=List.any_eq_true.mp h;unfold valueAt at hz;rw [Option.map_eq_none_iff,List.find?_eq_none]at hz;exact hz p hp hpk
  rw [es]at dd;obtain ⟨ep',dd'⟩:=dd.dictAt;have he:∃ q,h'.get? a = some q:=let #[q,_,hq,_]:=dd'; #[q,hq];refine #[d,_,I.write (x:=a) (e:=a) (by rw [ha]; exact True.intro) (.inl rfl) (fun b q hb z=>(hs.2 b hb).trans z) he (Yr hsm ?_ ?_ dd'),r2,q2 hk ep']
  ·rw [List.map_append,List.map_append,e];rfl
  ·rw [List.map_append,List.map_append];exact r.append (.cons r2 .nil)
def Js (P:Program) (w:World) (r:V -> List V -> Hp -> VK -> Prop) (to:TE) (t:TA):TE:=fun σ H Q=>to σ H fun x H1=>(∃ a kvs ep,x = .ref a /\ H1 a = some (kY P w a kvs ep)) /\ t σ H1 fun xs H2=>r x xs H2 Q
variable {o e:Expr} {es:List Expr} {to:TE} {t:TA} {name:Str} {apos cpos:Pos} {id:String} {r:V -> List V -> Hp -> VK -> Prop}
theorem Ya (slot:Slot "dict" name id) (hty:typeOf (.builtin id) = pure (.type "method_descriptor")) (hm:MtR X id r) (ho:PE X o to) (ha:PA X (e :: es) t)
  (hbase:attributeBase o name X.env (eval o X.env) = eval o X.env:=by rfl)
  (hfew:((backTo cpos (starEach (e :: es) X.env)).all (fun x=>!x.1) && (backToKw cpos (keywordEach [] X.env)).all (fun x=>x.1.isSome)
   && decide ((e :: es).length + ([]:List Keyword).length + (if ([]:List Keyword).isEmpty then 0 else 1) < 30)) = true:=by rfl)
  (hline:(apos.endLine == cpos.line) = true:=by rfl) (hs:starEach (e :: es) X.env =(false,eval e X.env) :: starEach es X.env:=by rfl) (hplain:(backTo cpos (starEach es X.env)).any (·.1) = false:=by rfl) :
  PE X (.Call (.Attribute o name apos) (e :: es) [] cpos) (Js X.prog X.w r to t):=by
 intro pins s σ H Q I h;refine wpAny_Call_method_late hbase hfew hline rfl (thn (ho pins s σ H _ I h) fun v s1=>el5 fun x H1 I1 r1=>ua2 fun ty q1=>?_);obtain ⟨a,kvs,ep,rfl,hA⟩:=ty;cases r1;obtain ⟨_,kus,_,_,dd⟩:=Inv.odic I1 hA;refine #["dict",id,PySem.F.plainAttrs_dict,slot,hty,dd.dictOf.typeIs,dd.dictOf.mapOf.noDict,?_];have hA:=ha cpos pins s1 σ H1 _ I1 q1;rw [hs]at hA ⊢;refine Calls.callWith_builtin (by show (false || (backTo cpos (starEach es X.env)).any (·.1)) = false; rw [hplain] <;> rfl) (Calls.evalArgs_plain ?_);exact thn hA fun us s2=>el5 fun vs H2 I2 r2 q2=>hm pins s2 σ H2 (.ref a) vs _ us Q I2 rfl r2 q2
end
section
variable {X:Cx} {tg:Expr}
end
section
variable {g:TG} {tt:TT} {te:TE} {own:Nat} {ix:()} {σ:L2.St} {H1:Hp} {Q:VK} {D:Addr}
end
end L3
namespace L3
open PySem PySem.Spec PyProof.Rows L2
section
variable {prog:Program} {w:World} {A:Around} {E:Value -> Shared -> Prop} {s:Shared}
theorem Vi:typeLookup (.type "dict") "__len__" = pure (some (.builtin "dict.__len__")):=by rw [typeLookup_type,builtinLookup_eq_fast]; kernel_rfl
theorem kL {R:Result -> Shared -> Prop} (hh:A.handled = none) (d S:Addr) (kus:List (Str × Value)) (ep:Nat) (res:Value) (c₀:Nat) (hsm:(d == sysModules) = false) (hSd:S ≠ d) (dd:s.heap.DictAt (PySem.strKind prog w) d kus ep)
  (hS:s.heap.get? S = some { cls:=.type "list",data:=.seq #[] c₀ })
  (hR:∀ h' tk acc' c',(∀ b o,b ≠ S -> s.heap.get? b = some o -> h'.get? b = some o) -> h'.get? S = some { cls:=.type "list",dict:=none,data:=.seq acc' c',slots:=#[] } ->
   ItemsOf (fun i v=>∃ k x,kus[i]? = some (k,x) /\ (PySem.strKind prog w).is k v = true) acc' kus.length -> R (.ok (.ret res)) { s with heap:=h',toks:=tk }) (hn:kus.length <= sizeLine) :
  wpAny (model prog w) A.in1 (Builtin.List.listExtendWith (.ref S) (.ref d) res)
   (fun fin s'=>match fin with | .done f=>R (.ok f) s' | .again c'=>c'.quiet = true /\ codeAny (model prog w) A c' R s') (fun e s'=>R (.error e) s') s:=by
 have dl:d < s⁻¹:=let #[_,_,e,_]:=dd; Heap.lt_size e;have Sl:S < s⁻¹:=Heap.lt_size hS;have hSf:S ∉ [s⁻¹,d]:=by simp [hSd,Nat.ne_of_lt Sl]
 unfold Builtin.List.listExtendWith;refine wpAny_bind (wpAny_typeOf dd.dictOf.typeIs ?_);have h1:Builtin.List.listSameRef (.ref S) (.ref d) = false:=by simp [Builtin.List.listSameRef,hSd]
 have h2:(Value.type "dict" == Value.type "list") = false:=∅;have h3:(Value.type "dict" == Value.type "tuple") = false:=∅;simp only [h1,h2,h3,Bool.or_false,Bool.false_eq_true,if_false];refine wpAny_bind (wpAny_pyIter_dict hsm dd ?_);refine wpAny_bind (wpAny_holding ?_);generalize hk:s.heap.push { cls:=.type "dict_keyiterator",data:=.fields (List.toArray [.ref d,.int 0 0,.int kus.length 0,.int ep 0]) } = hp;have kp:∀ b o,s.heap.get? b = some o -> hp.get? b = some o:=fun b o e=>by rw [<- hk]; exact Heap.get?_push_of_some _ e
 have hit:hp.IsKeyIter s⁻¹ d 0 kus.length ep:=#[_,by rw [<- hk]; exact Heap.get?_push_size _ rfl,rfl,rfl];have dd2:=dd.at' (h':=hp) fun o e=>kp _ o e;unfold Builtin.List.listLengthHint;refine wpAny_bind (wpAny_specialOf (s:={ s with heap:=hp }) dd2.dictOf.typeIs Vi ?_)
 wp_delta
 refine wpAny_bind (wpAny_isInstance (s:={ s with heap:=hp }) (T:="dict") (b:=true) dd2.dictOf.typeIs (by rw [isSubtype_type]; kernel_rfl) ?_);show wpAny _ _ (typeOf (Value.ref d) >>= _) _ _ _;refine wpAny_bind (wpAny_typeOf (s:={ s with heap:=hp }) dd2.dictOf.typeIs ?_);refine wpAny_pure ?_;rw [if_pos ∅];have hS2:=kp _ _ hS;refine wpAny_bind (wpAny_rule ?_);refine wpAny_bind ?_;show wpAny _ A.in1 (updateSeq S (·.push .none) >>= fun _=>updateSeq S (·.pop)) _ _ _;refine wpAny_bind (wpAny_updateSeq (s:={ s with heap:=hp }) hS2 rfl ?_);have hS3:=Heap.get?_update_self (Obj.mapSeq (·.push Value.none)) hS2 rfl;refine wpAny_updateSeq (s:={ s with heap:=hp.update S (Obj.mapSeq (·.push Value.none)) }) hS3 rfl ?_;have hS4:=Heap.get?_update_self (Obj.mapSeq (·.pop)) hS3 rfl
 have oth:∀ b o,b ≠ S -> hp.get? b = some o -> ((hp.update S (Obj.mapSeq (·.push Value.none))).update S (Obj.mapSeq (·.pop))).get? b = some o :=
  fun b o hb e=>(Heap.get?_update_other _ _ (Ne.symm hb)).trans ((Heap.get?_update_other _ _ (Ne.symm hb)).trans e)
 refine wpAny_pure #[plainId_quiet F.plain_extend_loop _,codeAny_extend_loopS (Walks.dictKeys (A:=A.in1) hh s⁻¹ d (Nat.ne_of_lt dl) kus ep).toS hn _ hSf _ kus.length 0 _ _ _ rfl (Nat.zero_le _) #[hit.at fun o e=>oth _ o (Nat.ne_of_gt Sl) e,dd2.at' fun o e=>oth _ o (Ne.symm hSd) e] hS4 (ItemsOf.nil _) fun s' acc' c' hm hS' hacc=>?_];rw [Moved.eq_with hm];exact hR s'.heap s'.toks acc' c' (fun b ob hb e=>hm.heap b ob (fun hmem=>by simp at hmem; rcases hmem with z | z; exact hb z; exact absurd (Heap.lt_size e) (by rw [z]; exact Nat.lt_irrefl _)) (oth _ _ hb (kp _ _ e))) hS' hacc
theorem Wi {R:Result -> Shared -> Prop} (hh:A.handled = none) (d S:Addr) (kus:List (Str × Value)) (ep:Nat) (hsm:(d == sysModules) = false) (hSd:S ≠ d) (dd:s.heap.DictAt (PySem.strKind prog w) d kus ep)
  (hS:s.heap.get? S = some { cls:=.type "list",data:=.seq #[] })
  (hR:∀ h' tk acc' c',(∀ b o,b ≠ S -> s.heap.get? b = some o -> h'.get? b = some o) -> h'.get? S = some { cls:=.type "list",dict:=none,data:=.seq acc' c',slots:=#[] } ->
   ItemsOf (fun i v=>∃ k x,kus[i]? = some (k,x) /\ (PySem.strKind prog w).is k v = true) acc' kus.length -> R (.ok (.ret .none)) { s with heap:=h',toks:=tk }) (hn:kus.length <= sizeLine) :
  wpAny (model prog w) A.in1 (Builtin.«list.__init__» #[[.ref S,.ref d],[]])
   (fun fin s'=>match fin with | .done f=>R (.ok f) s' | .again c'=>c'.quiet = true /\ codeAny (model prog w) A c' R s') (fun e s'=>R (.error e) s') s:=by
 show wpAny _ _ (do let old <- Builtin.List.listItems (.ref S); Builtin.List.listUpdate (.ref S) (fun _=>#[]); letGo old.toList.reverse; Builtin.List.listExtendWith (.ref S) (.ref d) .none) _ _ s;refine wpAny_bind ?_;unfold Builtin.List.listItems;refine wpAny_bind (wpAny_seqItems hS rfl (wpAny_pure ?_));show wpAny _ _ (updateSeq S (fun _=>#[]) >>= fun _=>letGo (#[]:Array Value).toList.reverse >>= fun _=>Builtin.List.listExtendWith (.ref S) (.ref d) .none) _ _ s;refine wpAny_bind (wpAny_updateSeq hS rfl ?_);have hS₂:=Heap.get?_update_self (Obj.mapSeq (fun _=>(#[]:Array Value))) hS rfl
 have oth:∀ b o,b ≠ S -> s.heap.get? b = some o -> (s.heap.update S (Obj.mapSeq (fun _=>(#[]:Array Value)))).get? b = some o :=
  fun b o hb e=>(Heap.get?_update_other _ _ (Ne.symm hb)).trans e
 refine wpAny_bind (wpAny_letGo ?_);refine kL (hn:=hn) hh d S kus ep .none _ hsm hSd (dd.at' fun o e=>oth d o (Ne.symm hSd) e) hS₂ fun h' tk acc' c' hk hS' hacc=>?_;exact hR h' tk acc' c' (fun b o hb e=>hk b o hb (oth b o hb e)) hS' hacc
theorem vS {Q:Value -> Shared -> Prop} (hh:A.handled = none) (d:Addr) (kus:List (Str × Value)) (ep:Nat) (hsm:(d == sysModules) = false) (dd:s.heap.DictAt (PySem.strKind prog w) d kus ep)
  (hQ:∀ h' tk acc' c',(∀ b o,s.heap.get? b = some o -> h'.get? b = some o) -> h'.get? s⁻¹ = some { cls:=.type "list",dict:=none,data:=.seq acc' c',slots:=#[] } ->
   ItemsOf (fun i v=>∃ k x,kus[i]? = some (k,x) /\ (PySem.strKind prog w).is k v = true) acc' kus.length -> Q (.ref s⁻¹) { s with heap:=h',toks:=tk }) (hn:kus.length <= sizeLine) :
  wpAny (model prog w) A (call (.type "list") [.ref d]) Q E s:=by
 refine callType_codes (Q₁:=fun obj s₁=>obj = .ref s⁻¹ /\ s₁ = { s with heap:=s.heap.push { cls:=.type "list",data:=.seq #[] } }) F.called_list (F.typeCall_list_1 _) F.entry_list_init
  (code_list_new _ #[rfl,rfl]) fun obj s₁ h₁=>?_
 obtain ⟨rfl,rfl⟩:=h₁;have hS:(s.heap.push { cls:=.type "list",data:=.seq #[] }).get? s⁻¹ = some { cls:=.type "list",data:=.seq #[] }:=Heap.get?_push_size _ rfl;have dl:d < s⁻¹:=let #[_,_,e,_]:=dd; Heap.lt_size e;refine #[#[_,hS,rfl],F.args_list_init_2 _ _,Wi (A:=A.in1) (hn:=hn) hh d _ kus ep hsm (Nat.ne_of_gt dl) (dd.at' fun o e=>Heap.get?_push_of_some _ e) hS fun h' tk acc' c' hk hS' hacc=>?_];exact #[rfl,hQ h' tk acc' c' (fun b o e=>hk b o (Nat.ne_of_lt (Heap.lt_size e)) (Heap.get?_push_of_some _ e)) hS' hacc]
end
theorem Yp {P:Program} {w:World} {kvs:List (Str × V)} {kus:List (Str × Value)} (e:kus.map (·.1) = kvs.map (·.1)) {acc:Array Value} (h:ItemsOf (fun i v=>∃ k x,kus[i]? = some (k,x) /\ (PySem.strKind P w).is k v = true) acc kus.length):Vals (kvs.map fun p=>V.str p.1) acc.toList:=by
 obtain ⟨hs,hp⟩:=h
 have key:∀ (ks:List Str) (us:List Value),us.length = ks.length -> (∀ (j:Nat) (v:Value),us[j]? = some v -> ∃ k,ks[j]? = some k /\ (PySem.strKind P w).is k v = true) -> Vals (ks.map V.str) us:=by
  intro ks
  induction ks with
  | nil =>
   intro us hl _
   cases us with
   | nil=>exact .nil
   | cons _ _=>cases hl
  | cons k ks ih =>
   intro us hl hj
   cases us with
   | nil=>cases hl
   | cons u us =>
    refine .cons ?_ (ih us (by simpa using hl) fun j v hv=>hj (j + 1) v hv);obtain ⟨k',e1,e2⟩:=hj 0 u rfl;cases e1;cases u <;> simp [PySem.strKind,Value.isStrOf]at e2;exact #[_,by rw [e2]]
 have:=key (kus.map (·.1)) acc.toList (by simp [hs]) fun j v hv=>by
  obtain ⟨k,x,h1,h2⟩:=hp j v (by simpa using hv);exact #[k,by rw [List.getElem?_map,h1]; rfl,h2]
 rw [e,List.map_map]at this;exact this
section
variable {X:Cx}
def Kv (P:Program) (w:World):List V -> Hp -> VK -> Prop:=fun xs H Q=>∃ a kvs ep,xs = [.ref a] /\ H a = some (kY P w a kvs ep) /\ kvs.length <= 1000 /\ ∀ l,H l = none -> Q (.ref l) (upd H l (.lst (kvs.map fun p=>V.str p.1)))
theorem qj (hc:X.calm = true):wX X (.type "list") (Kv X.prog X.w):=by
 intro pins s σ H xs us Q I r h;obtain ⟨a,kvs,ep,rfl,ha,hn,q⟩:=h;obtain ⟨u,rfl,rx⟩:=xa r;cases rx;obtain ⟨hsm,kus,e,r',dd⟩:=Inv.odic I ha;have hl:kus.length = kvs.length:=by have:=congrArg List.length e; rw [List.length_map,List.length_map]at this; exact this
 have s16:=yt;refine vS (I.ok.hd hc) a kus ep hsm dd (fun h' tk acc' c' kp hS hacc=>?_) ⋯;exact #[.ref s⁻¹,_,I.laid (t':=tk) kp (Nat.le_refl _) (show ObjOk X.prog X.w _ h' _ (.lst (kvs.map fun p=>V.str p.1))from #[by rw [List.length_map]; lia,acc'.toList,c',Yp e hacc,by simpa using hS]),rfl,q _ (I.hok.fresh (Nat.le_refl _))]
end
end L3
namespace L3
open PySem PySem.Spec PyProof.Rows L2
section
variable {X:Cx} {scope:Scope} {own caps:List Str} {ix:()} {elt tg iter:Expr} {ifs:List Expr} {pos:Pos} {wi:TI} {g:TG} {tt:TT} {te:TE}
theorem wn {EX:XK} (hc:X.calm = true) (S:xP X scope own caps ix)
  (hg:∀ cl C pins s3 H3 fp,PG (zI X scope cl C (own ++ caps) pins s3 H3 fp fun _ _=>False) tg g)
  (ht:∀ cl C pins s3 H3 fp xe,XE (zI X scope cl C (own ++ caps) pins s3 H3 fp xe) EX -> PTs (zI X scope cl C (own ++ caps) pins s3 H3 fp xe) ifs tt)
  (hst:X.stack = X.env :: X.outer /\ X.env.frame = some X.env.locals) (hxe:XE X EX) (he:∀ cl C pins s3 H3 fp xe,XE (zI X scope cl C (own ++ caps) pins s3 H3 fp xe) EX -> PE (zI X scope cl C (own ++ caps) pins s3 H3 fp xe) elt te)
  {cl:List (Str × Addr)} (hc1:∀ y c,cl.lookup y = some c -> X.env.cells.lookup y = some c) (hc2:∀ y,(y,NameKind.free) ∈ scope.names -> ∃ c,cl.lookup y = some c)
  {pins:List (Addr × Obj)} {σ:St} {H2:Hp} {s2:Shared} {Q:VK} {it:Addr} {fp:List Addr} {tn:Nat -> Heap -> Prop} {J:It} (I2:Inv X pins σ H2 s2) (T:Wq X.prog X.w X.K tg J fp it tn) (st2:tn 0 s2.heap) (f2:∀ b ∈ fp,yV X pins H2 b)
  (q:∀ D,H2 D = none -> ∃ W:Nat -> Nat -> List V -> Hp -> Prop,(∃ m,W 0 m [] (upd H2 D (.lst []))) /\
   ∀ i m acc H',W i m acc H' -> (J.stop i H' /\ Q (.ref D) H') \/ (J.go i H' /\ ∀ x H2,J.yld i H' x H2 -> g x (xD σ own.length ix) H2 fun σ3 H3=>yO (xD σ own.length ix) σ3 /\ tt σ3 H3 fun b H4=>if b = true then
    te σ3 H4 fun v H5=>H5 D = some (.lst acc) /\ acc.length < sizeLine /\ ∃ m',m' < m /\ W (i + 1) m' (acc ++ [v]) (upd H5 D (.lst (acc ++ [v])))
    else ∃ m',m' < m /\ W (i + 1) m' acc H4))
  {RR:Value -> Addr -> Result -> Shared -> Prop} {E:Value -> Shared -> Prop}
  (hRR:∀ D C m s' H',H2 D = none -> s'.heap.Ns C m -> yV X pins H' C -> Inv X pins σ H' s' -> Q (.ref D) H' -> RR (.ref D) C (.ok .next) s')
  (hRE:∀ D C m s' x,s'.heap.Ns C m -> (∀ h',Heap.SameBut C s'.heap h' -> ∀ cenv:Env,cenv.locals = C -> wpAny (model X.prog X.w) X.A (PySem.passOn "comprehension.variables-let-go" x cenv:Sem Value) (fun _ _=>False) X.xe { s' with heap:=h' }) -> RR (.ref D) C (.error x) s') :
  wpAny (model X.prog X.w) X.A (newList []) (fun acc s3=>wpAny (model X.prog X.w) X.A (newFunctionEnv scope X.env.globals cl [] X.env.qual none .none (some X.env)) (fun cenv s4 =>
   codeAny (model X.prog X.w) X.A (.compStart (.ListComp elt [#[tg,iter,ifs,0]] scope pos) 0 (.ref it) acc { cenv with scope:=relabel scope X.env }) (RR acc cenv.locals) s4) E s3) E s2:=by
 have hD:H2 s2⁻¹ = none:=I2.hok.fresh (Nat.le_refl _);obtain ⟨W,⟨m0,w0⟩,turn⟩:=q _ hD;refine wpAny_newObj_type (wpAny_newFunctionEnv S.nocell (by intro y hy; simp at hy) (fun h1 hns1 hsb1=>?_) S.kind);dsimp only at hns1 hsb1 ⊢
 have I3:Inv X pins σ (upd H2 s2⁻¹ (.lst [])) { s2 with heap:=s2.heap.push { cls:=.type "list",dict:=none,data:=.seq ([]:List Value).toArray } } :=
  I2.lnew (its:=[]) (t':=s2.toks) .nil (Nat.zero_le _)
 generalize hs3:({ s2 with heap:=s2.heap.push { cls:=.type "list",dict:=none,data:=.seq ([]:List Value).toArray } }:Shared) = s3 at I3;have e3:s2.heap.push { cls:=.type "list",dict:=none,data:=.seq ([]:List Value).toArray } = s3.heap:=by rw [<- hs3]
 rw [e3]at hns1 hsb1 ⊢;have k1:∀ b o,s3.heap.get? b = some o -> h1.get? b = some o:=fun b o e=>(hsb1.2 b (Nat.ne_of_lt (Heap.lt_size e))).trans (Heap.get?_push_of_some _ e);have k23:∀ b o,s2.heap.get? b = some o -> s3.heap.get? b = some o:=fun b o e=>by rw [<- e3]; exact Heap.get?_push_of_some _ e
 have hz:s3⁻¹ = s2⁻¹ + 1:=by rw [<- e3,Heap.size_push]
 have fpObj:∀ b ∈ fp,∃ o,s2.heap.get? b = some o:=fun b hb=>let #[o,e,_]:=T.obj 0 _ st2 b hb; #[o,e];have fplt:∀ b ∈ fp,b < s2⁻¹:=fun b hb=>let #[o,e]:=fpObj b hb; Heap.lt_size e;have f3:∀ b ∈ fp,yV X pins (upd H2 s2⁻¹ (.lst [])) b:=fun b hb=>#[by rw [zk (Nat.ne_of_lt (fplt b hb))]; exact (f2 b hb).1,(f2 b hb).2]
 have I4:Inv (zI X scope cl s3⁻¹ (own ++ caps) pins s3 (upd H2 s2⁻¹ (.lst [])) fp fun _ _=>False) [] (xD σ own.length ix) (upd H2 s2⁻¹ (.lst [])) { s3 with heap:=h1,toks:=s3.toks + ([]:List (Str × Value)).length } :=
  vz S hc1 hc2 I3 f3 (fun b hb=>by rw [hz]; exact Nat.lt_succ_of_lt (fplt b hb)) hns1 k1
 have st4:tn 0 h1:=T.keep 0 _ _ st2 fun b hb o e=>k1 b o (k23 b o e);generalize hs4:({ s3 with heap:=h1,toks:=s3.toks + ([]:List (Str × Value)).length }:Shared) = s4 at I4;have es4:({ s2 with heap:=h1,toks:=s2.toks + ([]:List (Str × Value)).length }:Shared) = s4:=by rw [<- hs4,<- hs3]
 have e4:h1 = s4.heap:=by rw [<- hs4]
 have loop:codeAny (model X.prog X.w) X.A (.compLoop (.ListComp elt [#[tg,iter,ifs,0]] scope pos) 0 (.ref it) (.ref s2⁻¹) (compEnvC scope cl s3⁻¹ X.env)) (RR (.ref s2⁻¹) s3⁻¹) s4:=by
  let X':=zI X scope cl s3⁻¹ (own ++ caps) pins s3 (upd H2 s2⁻¹ (.lst [])) fp fun _ _=>False
  have fp':∀ {H':Hp},(∀ b ∈ fp,H' b = none) -> ∀ b ∈ fp,yV X' [] H' b:=fun {H'} hn b hb=>by
   obtain ⟨_,a1,a2,a3,a4,a5⟩:=f3 b hb;refine #[hn b hb,Nat.ne_of_lt (show b < s3⁻¹ from by rw [hz]; exact Nat.lt_succ_of_lt (fplt b hb)),fun z=>?_,.inl hb,fun x c e=>a4 x c (hc1 x c e),fun p hp=>?_]
   ·rcases ac.mp (I3.stkSub b z)with e | e
    ·exact a1 e
    ·exact a2 e
   ·have:p ∈ (X.pn ++ pins) ++ []:=hp;rw [List.append_nil]at this;exact a5 p this
  refine qG (fun n s'=>∃ i acc H',Inv X' [] (xD σ own.length ix) H' s' /\ tn i s'.heap /\ (∀ b ∈ fp,H' b = none) /\ W i n acc H') rfl ?_ m0 #[0,[],_,I4,by rw [<- e4]; exact st4,fun b hb=>(f3 b hb).1,w0];rintro n s5 ⟨i,acc,H5,I5,st5,fr5,w5⟩;refine wpAny_noRaise ?_;rcases turn i n acc H5 w5 with ⟨stop,qn⟩ | ⟨go,step⟩
  ·refine thn (T.done X' rfl rfl rfl hc i [] s5 _ H5 _ I5 (fp' fr5) st5 stop) fun r s6 ⟨hr,I6⟩=>?_;subst hr;obtain ⟨m,hm,_⟩:=I6.loc;refine hRR _ _ m s6 H5 hD hm (I3.fpOk (Nat.le_refl _) I6.free) (I3.call' (s':=s6) I6.os I6.base I6.hok I6.bare fun b hb=>?_) qn;obtain ⟨_,a1,a2,a3,a4,a5⟩:=f3 b hb;exact #[a3,a1,a4,a5]
  ·refine thn (T.item X' rfl rfl rfl hc i [] s5 _ H5 (fun _ _=>False) I5 (fp' fr5) st5 go) fun r s6 ⟨u,hr,h6⟩=>?_;subst hr;refine wpAny_noRaise (thn h6 fun _ s7=>el5 fun x H7 I7 r7 q_z=>?_);obtain ⟨y7,st7,fr7⟩:=q_z;have I7':=I7.pinned (fp' fr7) (T.obj _ _ st7);refine wpAny_noRaise (thn (hg _ _ _ _ _ _ _ s7 _ H7 x u _ I7' r7 (step x H7 y7)) fun _ s8=>el5 fun σ8 H8 I8 ks q8=>?_);refine thn (ht cl _ pins s3 (upd H2 s2⁻¹ (.lst [])) fp _ (fun e s hfl=>ZB (RE:=fun e s'=>RR (.ref s2⁻¹) s3⁻¹ (.error e) s') hst hxe hc1 I3 f3 hfl fun m s' x a b=>hRE _ _ m s' x a b) _ s8 σ8 H8 _ (I8.wish _) q8) fun b s9=>el3 fun H9 I9' q9=>?_;have I9:=Inv.unwish (X:=X') I9'
   have back:∀ {s':Shared} {H':Hp} {acc':List V} {m':Nat},Inv X' ([] ++ vp fp s7.heap) σ8 H' s' -> m' < n -> W (i + 1) m' acc' H' -> ∃ m,m < n /\ ∃ i acc H',Inv X' [] (xD σ own.length ix) H' s' /\ tn i s'.heap /\ (∀ b ∈ fp,H' b = none) /\ W i m acc H':=fun {s' H' acc' m'} J' hm w'=>by
    refine #[m',hm,i + 1,acc',H',(J'.unpinned).weak ks.1 ks.2,T.keep _ _ _ st7 fun b hb o e=>(J'.pin (b,o) (List.mem_append_right _ (List.mem_append_right _ (yl hb e)))).1,fun b hb=>?_,w'];obtain ⟨o,e,d⟩:=T.obj _ _ st7 b hb;exact (J'.pin (b,o) (List.mem_append_right _ (List.mem_append_right _ (yl hb e)))).2.1
   cases b with
   | false =>
    rw [if_neg Bool.false_ne_true]at q9 ⊢;obtain ⟨m',hm,w'⟩:=q9;exact back I9 hm w'
   | true =>
    rw [if_pos rfl]at q9 ⊢;refine thn (he cl _ pins s3 (upd H2 s2⁻¹ (.lst [])) fp _ (fun e s hfl=>ZB (RE:=fun e s'=>RR (.ref s2⁻¹) s3⁻¹ (.error e) s') hst hxe hc1 I3 f3 hfl fun m s' x a b=>hRE _ _ m s' x a b) _ s9 σ8 H9 _ (I9.wish _) q9) fun v s10=>el5 fun y H10 I10' r10 q_z=>?_;obtain ⟨hD10,hsz,m',hm,w'⟩:=q_z;have I10:=Inv.unwish (X:=X') I10';refine wpAny_noRaise ?_;have:=xg (X:=X') _ s10 σ8 H10 (.ref s2⁻¹) [y] (.ref s2⁻¹) [v] (fun _ H'=>H' = upd H10 s2⁻¹ (.lst (acc ++ [y]))) I10 rfl (.cons r10 .nil) #[acc,hD10,hsz,rfl];refine thn this fun _ s11 ⟨_,H11,I11,_,eH⟩=>?_;subst eH;exact back I11 hm w'
 have goal:codeAny (model X.prog X.w) X.A (.compStart (.ListComp elt [#[tg,iter,ifs,0]] scope pos) 0 (.ref it) (.ref s2⁻¹) (compEnvC scope cl s3⁻¹ X.env)) (RR (.ref s2⁻¹) s3⁻¹) s4 :=
  codeAny_compStart_list loop (T.self _ 0 s4 _ _ (by rw [<- e4]; exact st4) loop)
 rw [<- es4]at goal;exact goal
theorem YX {EX:XK} (hc:X.calm = true) (S:xP X scope own caps ix) (hst:X.stack = X.env :: X.outer /\ X.env.frame = some X.env.locals) (hxe:XE X EX) (hi:PI X tg iter wi)
  (hg:∀ cl C pins s3 H3 fp,PG (zI X scope cl C (own ++ caps) pins s3 H3 fp fun _ _=>False) tg g)
  (ht:∀ cl C pins s3 H3 fp xe,XE (zI X scope cl C (own ++ caps) pins s3 H3 fp xe) EX -> PTs (zI X scope cl C (own ++ caps) pins s3 H3 fp xe) ifs tt)
  (he:∀ cl C pins s3 H3 fp xe,XE (zI X scope cl C (own ++ caps) pins s3 H3 fp xe) EX -> PE (zI X scope cl C (own ++ caps) pins s3 H3 fp xe) elt te)
  (hs:∀ x,foldedSetIterable iter X.env x = pure x:=by intro _; rfl) :
  PE X (.ListComp elt [#[tg,iter,ifs,0]] scope pos) (vn wi g tt te own.length ix):=by
 intro pins s σ H Q I h;obtain ⟨cl,hclos,hc1,hc2⟩:=yP (scope:=scope) (env:=X.env) fun y hy=>I.ok.has y (S.free y hy);rw [eval_ListComp];refine wpAny_comprehension_free (use:=none) rfl hs hclos S.kind S.names (thn (hi pins s σ H _ I h) fun v s1 h1=>thn h1 fun itv s2 h2=>?_);obtain ⟨it,fp,tn,J,H2,e,I2,T,st2,f2,q⟩:=h2;subst e;refine wn (RR:=fun acc C=>compPost (model X.prog X.w) X.A X.xe none (EP X pins σ Q) acc C) hc S hg ht hst hxe he hc1 hc2 I2 T st2 f2 q ?_ ?_
 ·intro D C m s' H' _ hn fc I' qn;obtain ⟨a0,a1,a2,a3,a4,a5⟩:=fc;exact #[m,hn,fun h' sb=>#[.ref D,H',I'.turned (t':=s'.toks) (fun b o hb e=>(sb.2 b hb).trans e) a0 a1 a3 a4 a5,rfl,qn]]
 ·intro D C m s' x hn hp;exact #[m,hn,hp]
end
end L3
namespace L3
open PySem PySem.Spec PyProof.Rows L2
section
variable {X:Cx} {scope:Scope} {own caps:List Str} {ix:()} {elt tg iter:Expr} {ifs:List Expr} {pos:Pos} {wi:TI} {g:TG} {tt:TT} {te:TE}
theorem xeN:XE X E0:=fun e s h=>by
 obtain ⟨_,_,_,_,_,_,_,_,_,_,_,_,_,_,h⟩:=h;exact h.elim
theorem Q0 {e:Expr} {t:TE} (h:PE (X.wish fun _ _=>False) e t):PE X e t:=fun pins s σ H Q I hq=>wpAny_noRaise (thn (h pins s σ H Q (I.wish _) hq) fun v s'=>el5 fun x H' I' r q=>#[x,H',I'.unwish,r,q])
theorem W4 {t:TT} (h:PTs (X.wish fun _ _=>False) ifs t):PTs X ifs t:=fun pins s σ H Q I hq=>wpAny_noRaise (thn (h pins s σ H Q (I.wish _) hq) fun v s'=>el3 fun H' I' q=>#[H',I'.unwish,q])
theorem wg (hc:X.calm = true) (S:xP X scope own caps ix) (hi:PI X tg iter wi)
  (hg:∀ cl C pins s3 H3 fp,PG (zI X scope cl C (own ++ caps) pins s3 H3 fp fun _ _=>False) tg g)
  (ht:∀ cl C pins s3 H3 fp,PTs (zI X scope cl C (own ++ caps) pins s3 H3 fp fun _ _=>False) ifs tt)
  (he:∀ cl C pins s3 H3 fp,PE (zI X scope cl C (own ++ caps) pins s3 H3 fp fun _ _=>False) elt te)
  (hst:X.stack = X.env :: X.outer /\ X.env.frame = some X.env.locals:=by exact #[rfl,rfl]) (hs:∀ x,foldedSetIterable iter X.env x = pure x:=by intro _; rfl) :
  PE X (.ListComp elt [#[tg,iter,ifs,0]] scope pos) (vn wi g tt te own.length ix) :=
 YX hc S hst xeN hi hg (fun a b c d e f _ _=>W4 (ht a b c d e f)) (fun a b c d e f _ _=>Q0 (he a b c d e f)) hs
theorem ZX {i:Nat} {y:Str} {py spos:Pos} (hN:X.N.Nodup) (hy:X.N[i]? = some y) (hly:Loc X.env.scope y) (hf:X.fn y = true \/ X.env.scope.names.lookup y = some .local) (hc:X.calm = true) (S:xP X scope own caps ix) (hi:PI X tg iter wi)
  (hg:∀ cl C pins s3 H3 fp,PG (zI X scope cl C (own ++ caps) pins s3 H3 fp fun _ _=>False) tg g)
  (ht:∀ cl C pins s3 H3 fp,PTs (zI X scope cl C (own ++ caps) pins s3 H3 fp fun _ _=>False) ifs tt)
  (he:∀ cl C pins s3 H3 fp,PE (zI X scope cl C (own ++ caps) pins s3 H3 fp fun _ _=>False) elt te)
  (hst:X.stack = X.env :: X.outer /\ X.env.frame = some X.env.locals:=by exact #[rfl,rfl])
  (hsw:swapsWith (.ListComp elt [#[tg,iter,ifs,0]] scope pos) (some (.Name y py)) spos.line X.env = pure true:=by rfl)
  (hs:∀ x,foldedSetIterable iter X.env x = pure x:=by intro _; rfl) :
  PS X (.Assign [.Name y py] (.ListComp elt [#[tg,iter,ifs,0]] scope pos) spos) (vO i (vn wi g tt te own.length ix)):=by
 intro pins s σ H D I h;obtain ⟨cl,hclos,hc1,hc2⟩:=yP (scope:=scope) (env:=X.env) fun y hy=>I.ok.has y (S.free y hy);rw [exec_Assign_Name_used _ _ _ _ hsw];refine wpAny_bind (wpAny_standAt (wpAny_bind ?_));show wpAny _ X.A (do let _ <- comprehension (.ListComp elt [#[tg,iter,ifs,0]] scope pos) scope X.env _ (newList []) false (eval iter X.env) (some (assign (.Name y py) X.env))) _ _ s;refine wpAny_bind (thn (wpAny_comprehension_free (use:=some (assign (.Name y py) X.env)) (Q:=fun _ s'=>SP X pins D .next s') rfl hs hclos S.kind S.names (thn (hi pins s σ H _ I h) fun v s1 h1=>thn h1 fun itv s2 h2=>?_)) fun _ s' hq=>wpAny_pure (wpAny_pure hq));obtain ⟨it,fp,tn,J,H2,e,I2,T,st2,f2,q⟩:=h2;subst e;refine wn (Q:=fun x H1=>D.nx (σ.set i (some x)) H1) (RR:=fun acc C=>compPost (model X.prog X.w) X.A X.xe (some (assign (.Name y py) X.env)) (fun _ s'=>SP X pins D .next s') acc C) hc S hg (fun a b c d e f _ _=>W4 (ht a b c d e f)) hst xeN (fun a b c d e f _ _=>Q0 (he a b c d e f)) hc1 hc2 I2 T st2 f2 q ?_ fun D C m s' x hn hp=>#[m,hn,hp];intro D' C m s' H1 hD' hn fc I1 nx;obtain ⟨a0,a1,a2,a3,a4,a5⟩:=fc;show wpAny _ X.A (assign (.Name y py) X.env (.ref D')) _ _ s';refine wpAny_assign_Name (qC I1 hN hy hly (v:=.ref D') rfl (fun s'' I2' ⟨a,sb,ha⟩=>?_) hf)
 have hCa:C ≠ a:=by
  rcases ha with e | e
  ·rw [e]; exact a1
  ·exact fun z=>a4 _ _ e z.symm
 refine #[m,hn.sameBut sb hCa,fun h' sb'=>#[_,H1,I2'.turned (t':=s''.toks) (fun b o hb e=>(sb'.2 b hb).trans e) a0 a1 a3 a4 a5,nx]]
end
end L3
namespace L3
open PySem PySem.Spec PyProof.Rows L2
section
variable {X:Cx} {scope:Scope} {own caps:List Str} {ix:()} {cl:List (Str × Addr)} {pins:List (Addr × Obj)} {σ:St} {H:Hp} {s:Shared} {fp:List Addr} {E:Value -> Shared -> Prop}
end
section
variable {X:Cx} {scope:Scope} {own caps:List Str} {ix:()} {elt tg iter:Expr} {ifs:List Expr} {pos:Pos} {wi:TI} {g:TG} {tt:TT} {te:TE}
end
end L3
namespace L3
open PySem PySem.Spec PyProof.Rows L2
section
variable {X:Cx}
end
end L3
namespace L3
open PySem PySem.Spec PyProof.Rows L2
section
variable {X:Cx} {pins:List (Addr × Obj)} {σ:L2.St} {H:Hp} {s:Shared}
end
end L3
namespace LL
open PySem L2 L3
noncomputable def top (i:Nat):Stmt:=PySem.Challenge.pw_letterlaw_k52_thin_lists_stay.main.body.getD i (.Pass #[0,0,0,0])
noncomputable abbrev zV:Stmt:=xw (top 4) 0
noncomputable abbrev yd:Stmt:=top 8
noncomputable abbrev y9:Stmt:=top 9
noncomputable abbrev xy:Stmt:=top 10
noncomputable abbrev Vj:Stmt:=top 11
noncomputable abbrev j4:Stmt:=top 13
noncomputable abbrev uj:Stmt:=top 14
noncomputable abbrev yy:Stmt:=top 17
noncomputable abbrev yZ:Stmt:=top 18
noncomputable abbrev xn:Stmt:=top 19
noncomputable abbrev wb:Stmt:=top 25
noncomputable abbrev xh:Stmt:=top 26
noncomputable abbrev vf:Stmt:=top 27
noncomputable abbrev zW:Stmt:=top 28
noncomputable abbrev yA:Stmt:=top 29
noncomputable abbrev yp:Stmt:=top 30
noncomputable abbrev y0:Stmt:=top 31
noncomputable abbrev w9:Stmt:=top 32
noncomputable abbrev xb:Stmt:=xw (top 34) 0
noncomputable abbrev yB:Stmt:=xw (top 34) 1
noncomputable abbrev y3:Stmt:=xw (top 34) 2
noncomputable abbrev yu:Stmt:=xw (top 34) 3
noncomputable abbrev yx:Stmt:=xw (top 34) 4
noncomputable abbrev yj:Stmt:=xw (top 35) 0
noncomputable abbrev ZM:Stmt:=top 37
noncomputable abbrev qP:Stmt:=top 38
noncomputable abbrev wU:Stmt:=top 39
noncomputable abbrev Y1:Stmt:=top 40
noncomputable abbrev qM:Stmt:=top 41
noncomputable abbrev qR:Stmt:=top 42
noncomputable abbrev qU:Stmt:=top 43
noncomputable abbrev wV:Stmt:=top 44
noncomputable abbrev jW:Stmt:=top 45
noncomputable abbrev Ze:Stmt:=top 46
noncomputable abbrev uK:Stmt:=top 47
noncomputable abbrev vm:Stmt:=top 48
section
variable {P:Program} {w:World} {K:PySem.W.Frag} {mg:Str -> Option Value} {base:Heap}
seal L2.PE L2.PS L2.PA L2.PT L2.PSs L2.PI L2.PG L2.PW L2.PGs
local macro_rules | `($a<<<$b)=>`(Df $(Lean.mkIdent `P) $(Lean.mkIdent `w) $(Lean.mkIdent `K) $(Lean.mkIdent `mg) $(Lean.mkIdent `base) CX0 $a $b)
local macro_rules | `($a>>>$b)=>`(Df $(Lean.mkIdent `P) $(Lean.mkIdent `w) $(Lean.mkIdent `K) $(Lean.mkIdent `mg) $(Lean.mkIdent `base) (CXx $(Lean.mkIdent `P) $(Lean.mkIdent `w)) $a $b)
local macro_rules | `($a&&&$b)=>`(FnOk $(Lean.mkIdent `P) $(Lean.mkIdent `w) $(Lean.mkIdent `K) $(Lean.mkIdent `mg) $(Lean.mkIdent `base) CX0 $a $(Lean.mkIdent `f) $(Lean.mkIdent `fd) $b)
local macro_rules | `($a|||$b)=>`(FnOk $(Lean.mkIdent `P) $(Lean.mkIdent `w) $(Lean.mkIdent `K) $(Lean.mkIdent `mg) $(Lean.mkIdent `base) (CXx $(Lean.mkIdent `P) $(Lean.mkIdent `w)) $a $(Lean.mkIdent `f) $(Lean.mkIdent `fd) $b)
local macro_rules | `(!!$a)=>`(some (.ref $a))
local macro_rules | `(~~~$a)=>`(some (.str (tx $a)))
local macro_rules | `(-~~~$a)=>`(some (.int (($a):Nat)))
local macro_rules | `(~~~!$a)=>`(some (.int $a))
local macro_rules | `($a^^^$b)=>`(Fun $(Lean.mkIdent `K) $a $a $b $(Lean.mkIdent `f) $(Lean.mkIdent `fd))
noncomputable abbrev sQz(n:Nat)(a:List PySem.Str)(s:PySem.Stmt):=zn a (a.take n) (ze s)
local macro_rules | `(tactic| rfl')=>do
 let A0←("Kp JR JS Ku J5 Kk Jw JU Kr Kx UI Km Ka Kg JY Kq UJ UB Ut Vh VA UD Uk VP Ui Kf Kd Kj JA JV JI Kc Ko VC VY Vv Vf UA Us VZ VI".splitOn " ").toArray.mapM fun s=>`(Lean.Parser.Tactic.simpLemma| ↓$(Lean.mkIdent s.toName):ident)
 let A1←("Jj Wd Jm Jk YB tOp tUn tC qJ zM xu tCB QJ yW X5 Jr tOr Xo ZQ qx tIf rI rI0 rU rGe QU vj VM UT QT tSl vU Xw Xt Jo tBM Uu VG L2.start Kl cxK cxP cxW List.map_cons List.map_nil List.length_cons List.length_nil List.replicate_succ List.replicate_zero Nat.reduceAdd Nat.reduceSub List.getElem?_cons_zero List.getElem?_cons_succ List.set_cons_zero List.set_cons_succ List.nil_append List.cons_append xD Option.join_some Option.join_none".splitOn " ").toArray.mapM fun s=>`(Lean.Parser.Tactic.simpLemma| $(Lean.mkIdent s.toName):ident)
 let A2←("Q6 Wt WE Ws KA Kp JR JS Ku J5 Kk Jw JU Kr Kx UI Km Ka Kg JY Kq UJ UB Ut Vh VA UD Uk VP Ui Kf Kd Kj JA JV JI Kc Ko VC VY Vv Vf UA Us VZ VI".splitOn " ").toArray.mapM fun s=>`(Lean.Parser.Tactic.simpLemma| ↓$(Lean.mkIdent s.toName):ident)
 let A3←("Jj xD Option.join_some Option.join_none rU vO Vc U0 QF Wd Jm Jk YB tOp tUn Zq tC qJ zM xu tCB QJ yW X5 Jr tOr Xo ZQ qx tIf rI rI0 rEq_is rNe_is QU vj VM QT UT tSl vU Xw rGe decide_false decide_true Prod.mk.injEq rLen_is Qk Jq Yo Zg YZ tyV tBM if_true if_false Bool.false_eq_true decide_eq_true_eq decide_eq_false_iff_not Bool.not_eq_true' Bool.not_true Bool.not_false lt1 Xt Jo JP VS JM jd jg Qs Qt Qh QI Ql QY Value.ref.injEq L2.start QZ QH KN KZ KJ U2 KI Uu VG KP Y0 Q7 UV Ky uR Xk uV xN YC zL Kl WJ Qj cxK cxP cxW List.map_cons List.map_nil List.length_cons List.length_nil List.replicate_succ List.replicate_zero Nat.reduceAdd Nat.reduceSub and_assoc Jf exists_eq exists_eq' exists_eq_left' exists_eq_left exists_eq_right exists_eq_right' exists_and_left exists_and_right V.int.injEq V.ref.injEq V.str.injEq V.bl.injEq V.ty.injEq reduceCtorEq false_and and_false true_and and_true or_false false_or exists_false exists_const List.getElem?_cons_zero List.getElem?_cons_succ Option.some.injEq List.set_cons_zero List.set_cons_succ List.cons.injEq List.append_nil List.nil_append List.cons_append WC WY WV W6".splitOn " ").toArray.mapM fun s=>`(Lean.Parser.Tactic.simpLemma| $(Lean.mkIdent s.toName):ident)
 `(tactic| first | (dsimp only[$A0,*,$A1,*]; try simp only[$A2,*,$A3,*]) | simp only[$A2,*,$A3,*])
theorem xe0 {X:Cx}:XE X E0:=fun e s h=>by
 obtain ⟨_,_,_,_,_,_,_,_,_,_,_,_,_,_,h⟩:=h;exact h.elim
def jh (l:()):Prop:=∀ c ∈ l,97 <= c /\ c <= 122
noncomputable instance (l:()):Decidable (jh l):=by unfold jh; infer_instance
noncomputable def kO (l:()):Bool:=decide (1 <= l.length /\ l.length <= 6 /\ jh l /\ l.Nodup)
def uL:Sp:=fun vs H Q _=>∃ c:Nat,vs = [.str (tx [c])] /\ Q (.bl (decide (97 <= c /\ c <= 122))) H
theorem Wj:sQz 1 ["sign"] yd:=by nofun
theorem XD {f:Addr} {fd:FuncData} (F:("is_small_letter"^^^yd)):(1&&&["sign"]) uL:=by
 refine F.ok Wj (fun vs H Q E h=>?_) (fun cdv A outer s H vs Q E hr h=>?_)
 ·obtain ⟨a,rfl,_⟩:=h;rfl
 ·obtain ⟨c,rfl,q⟩:=h;refine #[_,(zf (zo (Xp vG vG yv (pv 0) yv))),?_];have ea:cs (("a" : Str)) = [97]:=rfl;have ez:cs (("z" : Str)) = [122]:=rfl
  rfl'
  simp only [ea,ez,YC,lt1];refine xC (fun h=>?_) fun h=>?_
  ·have e:decide (97 <= c /\ c <= 122) = !decide (122 < c):=by
    by_cases h2:122 < c
    ·rw [decide_eq_true h2,decide_eq_false ⋯]; rfl
    ·rw [decide_eq_false h2,decide_eq_true ⋯]; rfl
   rw [e]at q;exact q
  ·rw [decide_eq_false ⋯]at q;exact q
structure KG (K:PySem.W.Frag) (mg:Str -> Option Value) (C:Addr):Prop where
 xi:XI K C
 ini:PySem.W.findIn K (.ref C) "__init__" = some (some (.builtin "ValueError.__init__"))
 g:mg "NoLetters" = some (.ref C)
 most:∃ t,mg "MOST_LETTERS" = some (.int 6 t)
def xS (C:Addr):Sp:=fun vs H Q E=>∃ l:(),vs = [.str (tx l)] /\ l.length <= 1000 /\ (kO l = true -> Q (.str (tx l)) H) /\ (kO l = false -> E (.ref C) none H)
theorem sc_letters_of:sQz 1 ["text", "sign"] y9:=by nofun
theorem ut {f C:Addr} {fd:FuncData} (B:Bt mg) (T:KG K mg C) (F:("letters_of"^^^y9)) (Ds:(1<<<"is_small_letter") ["sign"] [] uL):(2|||["text"]) (xS C):=by
 refine Fun.okX F sc_letters_of (fun vs H Q E h=>?_) (fun cdv A outer s H vs Q E hr hx h=>?_)
 ·obtain ⟨a,rfl,_⟩:=h;rfl
 ·obtain ⟨l,rfl,hl,q1,q2⟩:=h;obtain ⟨t6,g6⟩:=T.most
  refine #[_,(zy (yb (yn (jT vG vG zd (zH B.len (pv 0)) (xx (v:=.int 6) rfl g6 #[t6,rfl])))
    (zf (ym hx rfl T.xi.toXC T.ini rfl T.g (za yv zc)))
    zu)
   (zy (yH PassesOwn.leaving rfl (Zj (pv 0)) (zF (i:=1) sc_letters_of.nd rfl (.inl rfl))
    (zy (yb (yn (jJ (cl0 Ds hr .nil rfl (za (pv 1) zc)) (fun _=>rfl)))
     (zf (ym hx rfl T.xi.toXC T.ini rfl T.g (za yv zc)))
     zu)
    (zf (yb (zK Qy (wW PySem.F.plainAttrs_str PySem.F.slot_str_count PySem.F.type_str_count VN (pv 0) (za (pv 1) zc)) zd (zP _))
     (zf (ym hx rfl T.xi.toXC T.ini rfl T.g (za yv zc)))
     zu))))
   (zf (zo (pv 0))))),?_]
  have s16:=yt
  rfl'
  have bad:(¬ (1 <= l.length /\ l.length <= 6 /\ jh l /\ l.Nodup)) -> ∀ H':Hp,H' = H -> E (.ref C) none H':=fun h H' e=>by
   rw [e];exact q2 (decide_eq_false h)
  refine #[⋯,xC (fun c=>xC (fun c2=>#[⋯,bad (fun h=>by have:=h.2.1; lia) H rfl]) (fun c2=>?_)) (fun c=>#[⋯,bad (fun h=>by have:=h.1; lia) H rfl])];refine ForS.by (fun i σ H'=>H' = H /\ ∃ v,σ = [~~~l,v] /\ jh (l.take i) /\ ∀ c ∈ l.take i,l.count c <= 1) #[rfl,none,rfl,fun c h=>absurd h (by simp),fun c h=>absurd h (by simp)] ?_ ?_
  ·refine nm4 ?_;rintro i c σ H' hg ⟨eH,v,rfl,hs,hn⟩:_;have hc:=List.mem_of_getElem? hg;right
   rfl'
   simp only [uL]
   rfl'
   refine xC (fun h=>#[⋯,bad (fun z=>by have:=z.2.2.1 c hc; lia) _ eH]) (fun h=>xC (fun h2=>#[⋯,bad (fun z=>?_) _ eH]) (fun h2=>#[eH,?_,?_]))
   ·have:=ax.mp z.2.2.2 c;lia
   ·rw [zR hg];intro x hx;rcases af.mp hx with q | q
    ·exact hs x q
    ·have:x = c:=by simpa using q
     subst this;lia
   ·rw [zR hg];intro x hx;rcases af.mp hx with q | q
    ·exact hn x q
    ·have:x = c:=by simpa using q
     subst this;lia
  ·rintro σ H' ⟨eH,v,rfl,hs,hn⟩;rw [List.take_length]at hs hn
   rfl'
   rw [eH];refine q1 (decide_eq_true #[⋯,⋯,hs,ax.mpr fun c=>?_]);by_cases hc:c ∈ l
   ·exact hn c hc
   ·rw [List.count_eq_zero.mpr hc]; lia
noncomputable def zq (l:()) (k:Int) (p:()):Bool:=decide (0 <= k /\ k + p.length <= l.length /\ (l.drop k.toNat).take p.length = p)
def y8:Sp:=fun vs H Q _=>∃ (l p:()) (k:Int),vs = [.str (tx l),.int k,.str (tx p)] /\ l.length <= 10000 /\ p.length <= 10000 /\ Q (.bl (zq l k p)) H
theorem uc {l p:()} {k:Int} {H:Hp} {Q:VK} {E:XK} (h1:l.length <= 10000) (h2:p.length <= 10000) (h:Q (.bl (zq l k p)) H):y8 [.str (tx l),.int k,.str (tx p)] H Q E:=#[l,p,k,rfl,h1,h2,h]
theorem qa:sQz 3 ["word", "place", "part"] xy:=by nofun
theorem qr {f:Addr} {fd:FuncData} (B:Bt mg) (F:("stands_at"^^^xy)):(1&&&["word", "place", "part"]) y8:=by
 refine F.ok qa (fun vs H Q E h=>?_) (fun cdv A outer s H vs Q E hr h=>?_)
 ·obtain ⟨l,p,k,rfl,_⟩:=h;rfl
 ·obtain ⟨l,p,k,rfl,hl,hp,q⟩:=h
  refine #[_,(zy (yb (yn (jT vG vG zd (pv 1) (zr vD (zH B.len (pv 0)) (zH B.len (pv 2)))))
    (zf (zo xm))
    zu)
   (zf (zo (vJ Yn (xM qh (pv 0) (xZ (pv 1)) (xZ (zr z8 (pv 1) (zH B.len (pv 2))))) (pv 2) (zP _))))),?_]
  have s16:=yt
  rfl'
  have no:¬ (0 <= k /\ k + p.length <= l.length /\ (l.drop k.toNat).take p.length = p) -> Q (.bl false) H:=fun h=>by
   have e:zq l k p = false:=decide_eq_false h;rw [e]at q;exact q
  refine xC (fun h0=>#[⋯,⋯,xC (fun h1=>no fun h=>absurd h.2.1 ⋯) fun h1=>#[⋯,⋯,?_]]) fun h0=>no fun h=>h0 h.1;rw [Vs _ h0 ⋯ ⋯];have e:(k + (p.length:Int) - k).toNat = p.length:=⋯;rw [e]
  have e2:zq l k p = decide ((l.drop k.toNat).take p.length = p):=by
   unfold zq;exact decide_eq_decide.mpr #[fun h=>h.2.2,fun h=>#[h0,⋯,h]]
  rw [<- e2];exact q
noncomputable def kX (l:()) (k:Int) (o n:()):():=l.take k.toNat ++ n ++ l.drop (k.toNat + o.length)
theorem xO {l o:()} {k:Int} (h:zq l k o = true):l.take k.toNat ++ o ++ l.drop (k.toNat + o.length) = l /\ (l.take k.toNat).length = k.toNat /\ 0 <= k /\ k + o.length <= l.length:=by
 unfold zq at h;rw [decide_eq_true_eq]at h;obtain ⟨h0,h1,h2⟩:=h;refine #[?_,by rw [List.length_take]; lia,h0,h1]
 have e:l.drop k.toNat = o ++ l.drop (k.toNat + o.length):=by
  have:=List.take_append_drop o.length (l.drop k.toNat);rw [h2,List.drop_drop]at this;exact this.symm
 rw [List.append_assoc,<- e,List.take_append_drop]
structure TNU (K:PySem.W.Frag) (mg:Str -> Option Value) (C:Addr):Prop where
 xi:XI K C
 g:mg "NoUse" = some (.ref C)
 na:NoAttr K C "at"
theorem vV:sQz 2 ["self", "at"] zV:=by nofun
theorem uD {f C:Addr} {fd:FuncData} (T:TNU K mg C) (F:Fun K "__init__" "NoUse.__init__" zV f fd):(1&&&["self", "at"]) (vX C "at"):=by
 refine F.ok vV (fun vs H Q E h=>?_) (fun cdv A outer s H vs Q E hr h=>?_)
 ·obtain ⟨x,v,rfl,_⟩:=h;rfl
 ·obtain ⟨x,v,rfl,hx,q⟩:=h;refine #[_,(zf (V0 (pv 0) (pv 1) rfl)),?_];simp only [UY]
  rfl'
  exact #[C,hx,T.xi.toXC,T.na,q]
structure DNU (P:Program) (w:World) (K:PySem.W.Frag) (mg:Str -> Option Value) (base:Heap) (C:Addr):Prop extends TNU K mg C where
 ini:∃ f fd,PySem.W.findIn K (.ref C) "__init__" = some (some (.ref f)) /\ PySem.W.isFn K (.ref f) = true /\ (1&&&["self", "at"]) (vX C "at") /\ Binds K fd ["self", "at"] []
def W7 (C:Addr):Sp:=fun vs H Q E=>∃ (l o n:()) (k:Int),vs = [.str (tx l),.int k,.str (tx o),.str (tx n)] /\ l.length <= 10000 /\ o.length <= 10000 /\ n.length <= 10000 /\ (zq l k o = true -> Q (.str (tx (kX l k o n))) H) /\ (zq l k o = false -> ∀ d H',KC H d "at" (.int 0) H' -> E (.ref C) (some d) H')
theorem Qa:sQz 4 ["word", "place", "old", "new"] Vj:=by nofun
theorem QQ {f C:Addr} {fd:FuncData} (B:Bt mg) (T:DNU P w K mg base C) (F:("put"^^^Vj)) (D_stands_at:(1<<<"stands_at") ["word", "place", "part"] [] y8):(3|||["word", "place", "old", "new"]) (W7 C):=by
 obtain ⟨fi,fdi,hi,hfn,Fi,Bi⟩:=T.ini;refine Fun.okX F Qa (fun vs H Q E h=>?_) (fun cdv A outer s H vs Q E hr hx h=>?_)
 ·obtain ⟨l,o,n,k,rfl,_⟩:=h;rfl
 ·obtain ⟨l,o,n,k,rfl,hl,ho,hn,q1,q2⟩:=h
  refine #[_,(zy (yb (yn (jJ (cl0 D_stands_at hr .nil rfl (za (pv 0) (za (pv 1) (za (pv 2) zc)))) (fun _=>rfl)))
    (zf (YE hx rfl T.xi.toXC hi hfn Fi hr Bi rfl T.g (za zd zc)))
    zu)
   (zf (zo (zr yc (zr yc (xM qh (pv 0) ue (xZ (pv 1))) (pv 3)) (xM qh (pv 0) (xZ (zr z8 (pv 1) (zH B.len (pv 2)))) ue))))),?_]
  have s16:=yt
  rfl'
  refine uc hl ho ?_
  rfl'
  refine xC (fun hb=>#[⋯,Vp (q2 hb)]) fun hb=>?_;have hb':zq l k o = true:=by simpa using hb
  obtain ⟨_,_,h0,h1⟩:=xO hb';have c1:=wT l none (some k);have c2:=wT l (some (k + ↑o.length)) none;refine #[⋯,⋯,⋯,⋯,?_,?_]
  ·simp only [List.length_append];lia
  ·have e:cut l none (some k) ++ n ++ cut l (some (k + ↑o.length)) none = kX l k o n:=by
    rw [WA _ h0,jR _ ⋯];have:(k + (o.length:Int)).toNat = k.toNat + o.length:=⋯;rw [this];rfl
   rw [e];exact q1 hb'
structure TOrd (K:PySem.W.Frag) (mg:Str -> Option Value) (CO CR CW:Addr):Prop where
 cO:Cls K CO
 cR:Cls K CR
 cW:Cls K CW
 gO:mg "Order" = some (.ref CO)
 gR:mg "FromRight" = some (.ref CR)
 lO:NoAttr K CO "letters"
 lR:NoAttr K CR "letters"
 lW:NoAttr K CW "letters"
def OrdAt (CO CR CW:Addr) (H:Hp) (o:Addr) (k:Nat) (l:()) (ns:List Int):Prop:=∃ dx,(k = 0 /\ H o = some (.ins CO dx [("letters",.str (tx l))])) \/ (k = 1 /\ H o = some (.ins CR dx [("letters",.str (tx l))]))
theorem OrdAt.same {CO CR CW:Addr} {H H':Hp} {o:Addr} {k:Nat} {l:()} {ns:List Int} (h:OrdAt CO CR CW H o k l ns) (e:Same H H'):OrdAt CO CR CW H' o k l ns:=by
 obtain ⟨dx,⟨h1,h2⟩ | ⟨h1,h2⟩⟩:=h
 ·exact #[dx,.inl #[h1,e _ _ h2]]
 ·exact #[dx,.inr #[h1,e _ _ h2]]
noncomputable def Jt (l:()) (ns:List Int) (w:()):Int:=((l.zip ns).map fun p=>(w.count p.1:Int) * p.2).sum
noncomputable def zx (k:Nat) (l:()) (ns:List Int) (w:()):Int:=if k = 2 then Jt l ns w else (w.length:Int)
noncomputable def ya (k:Nat) (w:()):():=if k = 1 then w.reverse else w
def vT (K:PySem.W.Frag):Sp:=fun vs H Q _=>∃ (x C dx:Addr) (l:()),vs = [.ref x,.str (tx l)] /\ kO l = true /\ Cls K C /\ NoAttr K C "letters" /\ H x = some (.ins C dx []) /\ Q .non (upd H x (.ins C dx [("letters",.str (tx l))]))
theorem ur:sQz 2 ["self", "letters"] xb:=by nofun
theorem xT {f:Addr} {fd:FuncData} (B:Bt mg)  (F:Fun K "__init__" "Order.__init__" xb f fd) (D_letters_of:(2>>>"letters_of") ["text"] [] (xS C)):(3&&&["self", "letters"]) (vT K):=by
 refine F.ok ur (fun vs H Q E h=>?_) (fun cdv A outer s H vs Q E hr h=>?_)
 ·obtain ⟨x,C,dx,l,rfl,_⟩:=h;rfl
 ·obtain ⟨x,C,dx,l,rfl,hg,hC,hN,hx,q⟩:=h;refine #[_,(zf (QP (pv 0) (clP xe0 D_letters_of hr .nil rfl (za (pv 1) zc)) rfl)),?_];have s16:=yt
  rfl'
  exact #[l,rfl,by have:=of_decide_eq_true hg; lia,fun _=>#[_,_,_,hx,hC,hN,∅,q],fun e=>by rw [hg]at e; cases e]
def uk:Sp:=fun vs H Q _=>∃ (o:Addr) (w:()),vs = [.ref o,.str (tx w)] /\ w.length <= 1000 /\ Q (.int (w.length:Nat)) H
theorem w6:sQz 2 ["self", "word"] yB:=by nofun
theorem xf {f:Addr} {fd:FuncData} (B:Bt mg)  (F:Fun K "weight" "Order.weight" yB f fd)  :(1&&&["self", "word"]) uk:=by
 refine F.ok w6 (fun vs H Q E h=>?_) (fun cdv A outer s H vs Q E hr h=>?_)
 ·obtain ⟨o,w,rfl,_⟩:=h;rfl
 ·obtain ⟨o,w,rfl,hw,q⟩:=h;refine #[_,(zf (zo (zH B.len (pv 1)))),?_];have s16:=yt
  rfl'
  exact #[⋯,q]
def Z3:Sp:=fun vs H Q _=>∃ (o:Addr) (w:()),vs = [.ref o,.str (tx w)] /\ Q (.str (tx w)) H
theorem uO:sQz 2 ["self", "word"] y3:=by nofun
theorem uG {f:Addr} {fd:FuncData} (B:Bt mg)  (F:Fun K "seen" "Order.seen" y3 f fd)  :(1&&&["self", "word"]) Z3:=by
 refine F.ok uO (fun vs H Q E h=>?_) (fun cdv A outer s H vs Q E hr h=>?_)
 ·obtain ⟨o,w,rfl,_⟩:=h;rfl
 ·obtain ⟨o,w,rfl,q⟩:=h;refine #[_,(zf (zo (pv 1))),?_];have s16:=yt
  rfl'
  exact q
def qW:Sp:=fun vs H Q _=>∃ (o:Addr) (w:()),vs = [.ref o,.str (tx w)] /\ w.length <= 1000 /\ Q (.str (tx w.reverse)) H
theorem wa:sQz 2 ["self", "word"] yj:=by nofun
theorem wd {f:Addr} {fd:FuncData} (B:Bt mg)  (F:Fun K "seen" "FromRight.seen" yj f fd)  :(1&&&["self", "word"]) qW:=by
 refine F.ok wa (fun vs H Q E h=>?_) (fun cdv A outer s H vs Q E hr h=>?_)
 ·obtain ⟨o,w,rfl,_⟩:=h;rfl
 ·obtain ⟨o,w,rfl,hw,q⟩:=h;refine #[_,(zf (zo (UQ (pv 1) (JE Je zd)))),?_];have s16:=yt
  repeat (first | rfl' | simp only [xl,zB,zZ,xz,xB,zD])
  exact #[⋯,q]
theorem JQ (l:()) (c e:Nat):StrLaws.At (tx l) (tx [c]) (tx l).length e ↔ l[e]? = some c:=by
 unfold StrLaws.At Builtin.Str.subAt;rw [zL,zL];have h1:[c].length = 1:=rfl;rw [h1,beq_iff_eq]
 have e1:((tx l).cps.extract e (e + 1)).toList =(l.drop e).take 1:=by
  show (l.toArray.extract e (e + 1)).toList = _;simp [List.extract_eq_drop_take]
 have e2:((tx l).cps.extract e (e + 1) =(tx [c]).cps) ↔ (l.drop e).take 1 = [c]:=by
  constructor
  ·intro h;rw [<- e1,h]
  ·intro h;apply Array.toList_inj.mp;rw [e1,h]
 constructor
 ·rintro ⟨h2,h3⟩;have:=e2.mp h3;rw [List.drop_eq_getElem_cons ⋯,List.take_succ_cons,List.take_zero]at this;rw [List.getElem?_eq_getElem ⋯];injection this with h _;rw [h]
 ·intro h;obtain ⟨he,hx⟩:=ae.mp h;refine #[⋯,e2.mpr ?_];rw [List.drop_eq_getElem_cons he,List.take_succ_cons,List.take_zero,hx]
theorem WO {l:()} {c:Nat} (h:c ∈ l):Txt.find (tx l) (tx [c]) =((l.idxOf c:Nat):Int):=by
 have hlt:=List.idxOf_lt_length_of_mem h;have hg:l[l.idxOf c]? = some c:=by rw [List.getElem?_eq_getElem hlt,List.getElem_idxOf]
 rcases PyProof.Rows.find_whole (tx l) (tx [c])with ⟨h1,h2⟩ | ⟨e,h1,h2,h3⟩
 ·exact absurd ((JQ l c _).mpr hg) (h2 _)
 ·have he:=(JQ l c e).mp h2
  have:e = l.idxOf c:=by
   rcases Nat.lt_trichotomy e (l.idxOf c)with q | q | q
   ·have:=List.not_of_lt_findIdx (p:=(· == c)) q;obtain ⟨h4,h5⟩:=ae.mp he;simp [h5]at this
   ·exact q
   ·exact absurd ((JQ l c _).mpr hg) (h3 _ q)
  rw [h1,this]
abbrev MkO (P:Program) (w:World) (K:PySem.W.Frag) (mg:Str -> Option Value) (base:Heap) (C:Addr):Prop:=DMk P w K mg base CX0 3 C ["self", "letters"] (vT K)
abbrev MW (P:Program) (w:World) (K:PySem.W.Frag) (mg:Str -> Option Value) (base:Heap) (C:Addr) (m:Str) (sp:Sp):Prop:=DM P w K mg base CX0 1 C m ["self", "word"] sp
structure TWS (P:Program) (w:World) (K:PySem.W.Frag) (mg:Str -> Option Value) (base:Heap) (CO CR CW:Addr):Prop extends TOrd K mg CO CR CW where
 mO:MkO P w K mg base CO
 mR:MkO P w K mg base CR
 wO:MW P w K mg base CO "weight" uk
 wR:MW P w K mg base CR "weight" uk
 sO:MW P w K mg base CO "seen" Z3
 sR:MW P w K mg base CR "seen" qW
structure OG (l:()) (ns:List Int) (k:Nat):Prop where
 g:kO l = true
 k3:k < 3
 nl:ns.length = l.length
 nb:∀ n ∈ ns,1 <= n /\ n <= 1000000
noncomputable def ZL (l:()) (w:()):List Int:=w.map fun c=>((l.idxOf c:Nat):Int)
noncomputable def z7 (k:Nat) (l:()) (w:()):List Int:=ZL l (ya k w)
def QR (CO CR CW:Addr):Addr -> Prop:=fun C=>C = CO \/ C = CR \/ C = CW
theorem OrdAt.fam {CO CR CW:Addr} {H:Hp} {o:Addr} {k:Nat} {l:()} {ns:List Int} (h:OrdAt CO CR CW H o k l ns):∃ C dx fs,QR CO CR CW C /\ H o = some (.ins C dx fs) /\ (∀ m:Str,m ≠ "letters" -> m ≠ "weights" -> fs.lookup m = none) /\ fs.lookup ("letters" : Str) = some (V.str (tx l)):=by
 have e1:∀ m:Str,m ≠ "letters" -> (m ==("letters" : Str)) = false:=fun m hm=>by simpa using hm
 obtain ⟨dx,⟨h1,h2⟩ | ⟨h1,h2⟩⟩:=h
 ·exact #[_,_,_,.inl rfl,h2,fun m hm _=>by simp [List.lookup,e1 m hm],rfl]
 ·exact #[_,_,_,.inr (.inl rfl),h2,fun m hm _=>by simp [List.lookup,e1 m hm],rfl]
def wS (CO CR CW:Addr):Sp:=fun vs H Q _=>∃ (o:Addr) (k:Nat) (l:()) (ns:List Int) (w:()),vs = [.ref o,.str (tx w)] /\ OrdAt CO CR CW H o k l ns /\ OG l ns k /\ w.length <= 1000 /\ (∀ c ∈ w,c ∈ l) /\ ∀ (p q:Addr) (H':Hp),Same H H' -> H' p = some (.tup [.int (zx k l ns w),.ref q]) -> H' q = some (.lst ((z7 k l w).map V.int)) -> Q (.ref p) H'
theorem XW {H:Hp} {CO CR CW o D:Addr} {k:Nat} {l:()} {ns:List Int} {v:()} {a1:Option V} {Q:VK} (T:TOrd K mg CO CR CW) (ho:OrdAt CO CR CW H o k l ns) (hl:v.length <= 1000) (hm:∀ c ∈ v,c ∈ l) (hD:H D = none) (q:∀ H',Same H H' -> H' D = some (.lst ((ZL l v).map V.int)) -> Q (.ref D) H') :
  CompS (tx v) (yW 0) ve (tBM K "str" zD (UV K (yf 1) "letters") (zM (yf 0) xu)) 1 [0] [!!o,a1] H Q D:=by
 have s16:=yt;refine CompS.by (fun i acc H'=>Same H H' /\ H' D = some (.lst acc) /\ acc =(ZL l (v.take i)).map V.int) #[zg hD,zb,rfl] ?_ ?_
 ·refine nm4 ?_;rintro i c acc H' hc ⟨hs,hH,rfl⟩:_;have hci:=(ae.mp hc).1;have hcl:=hm c (List.mem_of_getElem? hc);obtain ⟨C,dx,fs,hf,ho',_,hlk⟩:=(ho.same hs).fam
  have hC:Cls K C /\ NoAttr K C "letters":=by
   rcases hf with rfl | rfl | rfl
   ·exact #[T.cO,T.lO]
   ·exact #[T.cR,T.lR]
   ·exact #[T.cW,T.lW]
  right;simp only [ve]
  repeat (first | rfl' | simp only [xl,zB,zZ,xz,xB,zD])
  refine #[xq,_,_,_,ho',hC.1,hC.2,_,hlk,trivial,_,rfl,_,WO hcl,hH,by rw [List.length_map]; unfold ZL; rw [List.length_map,List.length_take]; lia,CNx.mk hci #[zA hs hD,zb,?_]];unfold ZL;rw [zR hc,List.map_append,List.map_append];rfl
 ·rintro acc H' ⟨hs,hH,rfl⟩;rw [List.take_length]at hH;exact q H' hs hH
theorem ui:sQz 2 ["self", "word"] yu:=by nofun
theorem xG {f CO CR CW:Addr} {fd:FuncData} (B:Bt mg) (T:TWS P w K mg base CO CR CW) (F:Fun K "rank" "Order.rank" yu f fd)  :(2&&&["self", "word"]) (wS CO CR CW):=by
 refine F.ok ui (fun vs H Q E h=>?_) (fun cdv A outer s H vs Q E hr h=>?_)
 ·obtain ⟨o,k,l,ns,w,rfl,_⟩:=h;rfl
 ·obtain ⟨o,k,l,ns,w,rfl,ho,hG,hw,hm,q⟩:=h;refine #[_,(zf (zo (z5 (za (Ji T.wO T.wR T.wO T.cO T.cR T.cO hr (pv 0) (za (pv 1) zc)) (za (wg (own:=["letter"]) (caps:=["self"]) (ix:=[0]) (tt:=ve) (te:=(tBM K "str" zD (UV K (yf 1) "letters") (zM (yf 0) xu))) rfl (z9 (sc:=ze yu) rfl (by symm) (by symm) (by symm) rfl (by symm) (by symm) rfl) (Zj (Ji T.sO T.sR T.sO T.cO T.cR T.cO hr (pv 0) (za (pv 1) zc))) (fun _ _ _ _ _ _=>zF (i:=0) (show List.Nodup [_,_] by decide) rfl (.inl rfl)) (fun _ _ _ _ _ _=>yT) (fun _ _ _ _ _ _=>(wW PySem.F.plainAttrs_str PySem.F.slot_str_index PySem.F.type_str_index V1 (U6 (pv 1) rfl) (za (pv 0) zc)))) zc))))),?_];have s16:=yt
  have hsl:(ya k w).length <= 1000:=by
   unfold ya;split
   ·rw [List.length_reverse];exact hw
   ·exact hw
  have hsm:∀ c ∈ ya k w,c ∈ l:=fun c hc=>by
   unfold ya at hc;split at hc
   ·exact hm c (ap.mp hc)
   ·exact hm c hc
  have l6:l.length <= 6:=(of_decide_eq_true hG.g).2.1;have fin:∀ H1,Same H H1 -> ∀ D,H1 D = none -> CompS (tx (ya k w)) (yW 0) ve (tBM K "str" zD (UV K (yf 1) "letters") (zM (yf 0) xu)) 1 [0] [!!o,~~~w] H1 (fun x5 H1=>2 <= sizeLine /\ ∀ p,H1 p = none -> Q (.ref p) (upd H1 p (.tup [.int (zx k l ns w),x5]))) D:=fun H1 s1 D hD=>XW T.toTOrd (ho.same s1) hsl hsm hD fun H' s' hH=>#[⋯,fun p hp=>q p D _ (s1.trans (s'.trans (zg hp))) zb (zg hp _ _ hH)]
  repeat (first | rfl' | simp only [xl,zB,zZ,xz,xB,zD])
  obtain ⟨dx',⟨h1,h2⟩ | ⟨h1,h2⟩⟩:=id ho
  ·have e1:zx k l ns w =(w.length:Int):=by unfold zx; rw [if_neg ⋯]
   have e2:ya k w = w:=by unfold ya; rw [if_neg ⋯]
   rw [e1,e2]at fin;exact .inl #[_,_,h2,rfl,o,w,rfl,hw,.inl #[_,_,h2,rfl,o,w,rfl,_,rfl,fin H (Same.refl _)]]
  ·have e1:zx k l ns w =(w.length:Int):=by unfold zx; rw [if_neg ⋯]
   have e2:ya k w = w.reverse:=by unfold ya; rw [if_pos h1]
   rw [e1,e2]at fin;exact .inr (.inl #[_,_,h2,rfl,o,w,rfl,hw,.inr (.inl #[_,_,h2,rfl,o,w,rfl,hw,_,rfl,fin H (Same.refl _)])])
noncomputable def ye (k:Nat) (l:()) (ns:List Int) (u v:()):Bool:=if zx k l ns u = zx k l ns v then ltI (z7 k l u) (z7 k l v)else decide (zx k l ns u < zx k l ns v)
abbrev DR (P:Program) (w:World) (K:PySem.W.Frag) (mg:Str -> Option Value) (base:Heap) (CO CR CW:Addr):Prop:=DMF P w K mg base CX0 2 (QR CO CR CW) "rank" ["self", "word"] (fun _=>wS CO CR CW)
theorem vY {H:Hp} {p q:Addr} {z:Int} {ns:List Int} (hp:H p = some (.tup [.int z,.ref q])) (hq:H q = some (.lst (ns.map V.int))):Is K H (.tup [.int z,.lst (ns.map L3.D.int)]) (.ref p):=by
 simp only [Is,Iss];exact #[p,_,rfl,SqT.of hp,_,_,rfl,rfl,_,_,rfl,#[q,_,rfl,SqL.of hq,Iss.ints ns],rfl]
theorem yM:∀ x:List Int,ltI x x = false
 | []=>rfl
 | a :: x=>by
  rw [ltI,if_pos rfl];exact yM x
theorem Zk (a b:Int) (x y:List Int):ltD (.tup [.int a,.lst (x.map L3.D.int)]) (.tup [.int b,.lst (y.map L3.D.int)]) = if a = b then ltI x y else decide (a < b):=by
 simp only [ltD,xE,eqD,qv,wC];by_cases h:a = b
 ·subst h;by_cases h2:x = y
  ·subst h2;simp [yM]
  ·simp [h2]
 ·simp [h]
def Zz (CO CR CW:Addr):Sp:=fun vs H Q _=>∃ (o:Addr) (k:Nat) (l:()) (ns:List Int) (u v:()),vs = [.ref o,.str (tx u),.str (tx v)] /\ OrdAt CO CR CW H o k l ns /\ OG l ns k /\ u.length <= 1000 /\ v.length <= 1000 /\ (∀ c ∈ u,c ∈ l) /\ (∀ c ∈ v,c ∈ l) /\ ∀ H':Hp,Same H H' -> Q (.bl (ye k l ns u v)) H'
theorem wN:sQz 3 ["self", "one", "other"] yx:=by nofun
theorem yY {f CO CR CW:Addr} {fd:FuncData} (B:Bt mg) (DRk:DR P w K mg base CO CR CW) (F:Fun K "before" "Order.before" yx f fd)  :(3&&&["self", "one", "other"]) (Zz CO CR CW):=by
 refine F.ok wN (fun vs H Q E h=>?_) (fun cdv A outer s H vs Q E hr h=>?_)
 ·obtain ⟨o,k,l,ns,u,v,rfl,_⟩:=h;rfl
 ·obtain ⟨o,k,l,ns,u,v,rfl,ho,hG,hu,hv,hmu,hmv,q⟩:=h;refine #[_,(zf (zo (vJ (UZ (wF hr)) (QC DRk hr (pv 0) (za (pv 1) zc)) (QC DRk hr (pv 0) (za (pv 2) zc)) (zP _)))),?_];have s16:=yt
  repeat (first | rfl' | simp only [xl,zB,zZ,xz,xB,zD])
  obtain ⟨C,dx,fs,hf,ho1,hn,_⟩:=ho.fam;have h1:fs.lookup ("rank" : Str) = none:=hn _ ∅ ∅;refine #[C,hf,dx,fs,ho1,h1,o,k,l,ns,u,rfl,ho,hG,hu,hmu,fun p x H1 s1 hp hx=>#[C,hf,dx,fs,s1 _ _ ho1,h1,o,k,l,ns,v,rfl,ho.same s1,hG,hv,hmv,fun p' x' H2 s2 hp' hx'=>?_]];refine Ug (vY (s2 _ _ hp) (s2 _ _ hx)) (vY hp' hx') (by simp only [dpD,xv,vM]; decide) (by simp only [okD,vo]; exact #[trivial,xI _ _,trivial]) ?_;rw [Zk];exact q H2 (s1.trans s2)
abbrev DB (P:Program) (w:World) (K:PySem.W.Frag) (mg:Str -> Option Value) (base:Heap) (CO CR CW:Addr):Prop:=DMF P w K mg base CX0 3 (QR CO CR CW) "before" ["self", "one", "other"] (fun _=>Zz CO CR CW)
theorem y1:∀ {x y:List Int},x ≠ y -> ltI x y = !ltI y x
 | [],[],h=>absurd rfl h
 | [],_ :: _,_=>rfl
 | _ :: _,[],_=>rfl
 | a :: x,b :: y,h=>by
  rw [ltI,ltI];by_cases e:a = b
  ·rw [if_pos e,if_pos e.symm];exact y1 fun q=>h (by rw [e,q])
  ·rw [if_neg e,if_neg fun q=>e q.symm];by_cases c:a < b
   ·rw [decide_eq_true c,decide_eq_false ⋯];rfl
   ·rw [decide_eq_false c,decide_eq_true ⋯];rfl
theorem qf:∀ {x y z:List Int},ltI x y = true -> ltI y z = true -> ltI x z = true
 | [],[],_,h,_=>by cases h
 | [],_ :: _,[],_,h=>by cases h
 | [],_ :: _,_ :: _,_,_=>rfl
 | _ :: _,[],_,h,_=>by cases h
 | _ :: _,_ :: _,[],_,h=>by cases h
 | a :: x,b :: y,c :: z,h1,h2=>by
  rw [ltI]at h1 h2 ⊢;by_cases e:a = b
  ·subst e;rw [if_pos rfl]at h1;by_cases f:a = c
   ·rw [if_pos f]at h2 ⊢;exact qf h1 h2
   ·rw [if_neg f]at h2 ⊢;exact h2
  ·rw [if_neg e]at h1;have h1':=of_decide_eq_true h1;by_cases f:b = c
   ·subst f;rw [if_neg e];exact h1
   ·rw [if_neg f]at h2;have h2':=of_decide_eq_true h2;rw [if_neg ⋯];exact decide_eq_true ⋯
section
variable {k:Nat} {l:()} {ns:List Int} {t u v:()}
theorem ub:∀ {u v:()},(∀ c ∈ u,c ∈ l) -> (∀ c ∈ v,c ∈ l) -> ZL l u = ZL l v -> u = v
 | [],[],_,_,_=>rfl
 | [],_ :: _,_,_,h=>by cases h
 | _ :: _,[],_,_,h=>by cases h
 | a :: u,b :: v,hu,hv,h=>by
  unfold ZL at h;rw [List.map_cons,List.map_cons]at h;injection h with h1 h2;have h3:l.idxOf a = l.idxOf b:=⋯;have ha:=List.getElem_idxOf (List.idxOf_lt_length_of_mem (hu a List.mem_cons_self));have hb:=List.getElem_idxOf (List.idxOf_lt_length_of_mem (hv b List.mem_cons_self))
  have:a = b:=by
   rw [<- ha,<- hb];simp only [h3]
  rw [this,ub (fun c hc=>hu c (List.mem_cons_of_mem _ hc)) (fun c hc=>hv c (List.mem_cons_of_mem _ hc)) h2]
theorem u8:ye k l ns u u = false:=by
 unfold ye;rw [if_pos rfl,yM]
theorem j8 (hu:∀ c ∈ u,c ∈ l) (hv:∀ c ∈ v,c ∈ l) (h:z7 k l u = z7 k l v):u = v:=by
 unfold z7 ya at h;by_cases e:k = 1
 ·rw [if_pos e,if_pos e]at h;exact List.reverse_inj.mp (ub (fun c hc=>hu c (ap.mp hc)) (fun c hc=>hv c (ap.mp hc)) h)
 ·rw [if_neg e,if_neg e]at h;exact ub hu hv h
theorem wK (hu:∀ c ∈ u,c ∈ l) (hv:∀ c ∈ v,c ∈ l) (h:u ≠ v):ye k l ns u v = !ye k l ns v u:=by
 unfold ye;by_cases e:zx k l ns u = zx k l ns v
 ·rw [if_pos e,if_pos e.symm];exact y1 fun q=>h (j8 hu hv q)
 ·rw [if_neg e,if_neg fun q=>e q.symm];by_cases c:zx k l ns u < zx k l ns v
  ·rw [decide_eq_true c,decide_eq_false ⋯];rfl
  ·rw [decide_eq_false c,decide_eq_true ⋯];rfl
end
noncomputable def stJ (l:()) (ps:List zE) (q j:Nat):Bool:=((ps[j]?).map fun p=>zq l (q:Int) p.1).getD false
theorem vq {l:()} {ps:List zE} {q j:Nat} {p:zE} (h:ps[j]? = some p):stJ l ps q j = zq l (q:Int) p.1:=by
 unfold stJ;rw [h];rfl
theorem xo {l:()} {ps:List zE} {q j:Nat} (h:stJ l ps q j = true):j < ps.length /\ ∃ p,ps[j]? = some p /\ zq l (q:Int) p.1 = true:=by
 unfold stJ at h
 cases e:ps[j]? with
 | none=>rw [e]at h; cases h
 | some p =>
  rw [e]at h;exact #[(ae.mp e).1,p,rfl,h]
noncomputable def va (l:()) (ps:List zE) (q i:Nat):List (Nat × Nat):=((List.range i).filter (stJ l ps q)).map fun j=>(j,q)
noncomputable def yz (l:()) (ps:List zE) (k:Nat):List (Nat × Nat):=(List.range k).flatMap fun q=>va l ps q ps.length
theorem kQ (l:()) (ps:List zE) (q i:Nat):va l ps q (i + 1) = va l ps q i ++ (if stJ l ps q i = true then [(i,q)]else []):=by
 unfold va;rw [List.range_succ,List.filter_append,List.map_append];congr 1;by_cases h:stJ l ps q i = true
 ·rw [if_pos h,List.filter_cons_of_pos h];rfl
 ·rw [if_neg h,List.filter_cons_of_neg h];rfl
theorem vw (l:()) (ps:List zE) (k:Nat):yz l ps (k + 1) = yz l ps k ++ va l ps k ps.length:=by
 unfold yz;rw [List.range_succ,List.flatMap_append];simp
theorem Yh (l:()) (ps:List zE) (q i:Nat):(va l ps q i).length <= i:=by
 unfold va;rw [List.length_map];have:=List.length_filter_le (stJ l ps q) (List.range i);rw [List.length_range]at this;exact this
theorem Zu (l:()) (ps:List zE):∀ k,(yz l ps k).length <= k * ps.length
 | 0=>by simp [yz]
 | k + 1=>by
  rw [vw,List.length_append,Nat.succ_mul];have:=Zu l ps k;have:=Yh l ps k ps.length;lia
theorem usesN_mem {l:()} {ps:List zE} {q i:Nat} {u:Nat × Nat}:u ∈ va l ps q i ↔ u.2 = q /\ u.1 < i /\ stJ l ps q u.1 = true:=by
 unfold va;rw [List.mem_map];constructor
 ·rintro ⟨j,hj,rfl⟩;rw [List.mem_filter,List.mem_range]at hj;exact #[rfl,hj.1,hj.2]
 ·rintro ⟨h1,h2,h3⟩;exact #[u.1,al.mpr #[aj.mpr h2,h3],by rw [<- h1]]
theorem usesK_mem {l:()} {ps:List zE} {k:Nat} {u:Nat × Nat}:u ∈ yz l ps k ↔ u.2 < k /\ stJ l ps u.2 u.1 = true:=by
 unfold yz;rw [List.mem_flatMap];constructor
 ·rintro ⟨q,hq,hu⟩;obtain ⟨h1,h2,h3⟩:=usesN_mem.mp hu;rw [List.mem_range]at hq;rw [h1];exact #[hq,h3]
 ·rintro ⟨h1,h2⟩;exact #[u.2,aj.mpr h1,usesN_mem.mpr #[rfl,(xo h2).1,h2]]
def uLt (a b:Nat × Nat):Prop:=a.2 < b.2 \/ (a.2 = b.2 /\ a.1 < b.1)
theorem wj (l:()) (ps:List zE) (q:Nat):∀ i,(va l ps q i).Pairwise uLt
 | 0=>by simp [va]
 | i + 1=>by
  rw [kQ];refine ar.mpr #[wj l ps q i,?_,fun a ha b hb=>?_]
  ·split
   ·exact List.pairwise_singleton _ _
   ·exact List.Pairwise.nil
  ·obtain ⟨h1,h2,_⟩:=usesN_mem.mp ha;split at hb
   ·rw [ag.mp hb];exact .inr #[h1,h2]
   ·cases hb
theorem y4 (l:()) (ps:List zE):∀ k,(yz l ps k).Pairwise uLt
 | 0=>by simp [yz]
 | k + 1=>by
  rw [vw];refine ar.mpr #[y4 l ps k,wj l ps k _,fun a ha b hb=>?_];have h1:=(usesK_mem.mp ha).1;have h2:=(usesN_mem.mp hb).1;exact .inl ⋯
def FirstN (l:()) (ps:List zE) (lo hi n:Nat) (r:Option (Nat × Nat)):Prop :=
 (r = none /\ ∀ j q,j < n -> lo <= q -> q < hi -> stJ l ps q j = false) \/
 ∃ n0 q0,r = some (n0,q0) /\ n0 < n /\ lo <= q0 /\ q0 < hi /\ stJ l ps q0 n0 = true /\ ∀ j q,j < n -> lo <= q -> stJ l ps q j = true -> q0 < q \/ (q0 = q /\ n0 <= j)
theorem FirstN.uniq {l:()} {ps:List zE} {lo hi n:Nat} {r r':Option (Nat × Nat)} (h:FirstN l ps lo hi n r) (h':FirstN l ps lo hi n r'):r = r':=by
 rcases h with ⟨rfl,h⟩ | ⟨n0,q0,rfl,a1,a2,a3,a4,a5⟩
 ·rcases h' with ⟨rfl,_⟩ | ⟨n0,q0,rfl,a1,a2,a3,a4,a5⟩
  ·rfl
  ·rw [h n0 q0 a1 a2 a3]at a4;cases a4
 ·rcases h' with ⟨rfl,h⟩ | ⟨n1,q1,rfl,b1,b2,b3,b4,b5⟩
  ·rw [h n0 q0 a1 a2 a3]at a4;cases a4
  ·have x1:=a5 n1 q1 b1 b2 b4;have x2:=b5 n0 q0 a1 a2 a4;have e1:q0 = q1:=⋯;have e2:n0 = n1:=⋯;rw [e1,e2]
theorem kr {l:()} {ps:List zE} {r:Option (Nat × Nat)} (h:FirstN l ps 0 l.length ps.length r):r =(yz l ps l.length).head?:=by
 have hs:=y4 l ps l.length;refine h.uniq ?_
 cases e:yz l ps l.length with
 | nil =>
  refine .inl #[rfl,fun j q _ _ hq=>?_]
  cases hb:stJ l ps q j with
  | false=>rfl
  | true =>
   have:(j,q) ∈ yz l ps l.length:=usesK_mem.mpr #[hq,hb];rw [e]at this;cases this
 | cons u us =>
  rw [e]at hs;have hu:u ∈ yz l ps l.length:=by rw [e]; exact List.mem_cons_self
  obtain ⟨h1,h2⟩:=usesK_mem.mp hu;refine .inr #[u.1,u.2,rfl,(xo h2).1,Nat.zero_le _,h1,h2,fun j q hj _ hb=>?_];by_cases hq:q < l.length
  ·have:(j,q) ∈ yz l ps l.length:=usesK_mem.mpr #[hq,hb];rw [e]at this;rcases ac.mp this with e2 | e2
   ·rw [<- e2];exact .inr #[rfl,Nat.le_refl _]
   ·rcases (ay.mp hs).1 _ e2 with h | ⟨h,h'⟩
    ·exact .inl h
    ·exact .inr #[h,Nat.le_of_lt h']
  ·exact .inl ⋯
theorem vb {l p:()} {q:Nat} (hp:p ≠ []) (h:zq l (q:Int) p = true):q < l.length:=by
 obtain ⟨h0,h1,_⟩:=of_decide_eq_true h;have:0 < p.length:=aq.mpr hp;lia
theorem FirstN.keep {l:()} {ps:List zE} {lo hi n:Nat} {r:Option (Nat × Nat)} {p:zE} (h:FirstN l ps lo hi n r) (hp:ps[n]? = some p) (hn:∀ q:Nat,lo <= q -> q < (r.map Prod.snd).getD hi -> zq l (q:Int) p.1 = false):FirstN l ps lo hi (n + 1) r:=by
 rcases h with ⟨rfl,h⟩ | ⟨n0,q0,rfl,a1,a2,a3,a4,a5⟩
 ·refine .inl #[rfl,fun j q hj h1 h2=>?_];by_cases e:j < n
  ·exact h j q e h1 h2
  ·have:j = n:=⋯;subst this;rw [vq hp];exact hn q h1 h2
 ·refine .inr #[n0,q0,rfl,⋯,a2,a3,a4,fun j q hj h1 h2=>?_];by_cases e:j < n
  ·exact a5 j q e h1 h2
  ·have:j = n:=⋯;subst this;rw [vq hp]at h2;by_cases hq:q < q0
   ·rw [hn q h1 hq]at h2;cases h2
   ·lia
theorem FirstN.take {l:()} {ps:List zE} {lo hi n k:Nat} {r:Option (Nat × Nat)} {p:zE} (h:FirstN l ps lo hi n r) (hp:ps[n]? = some p) (h1:lo <= k) (h2:k < (r.map Prod.snd).getD hi) (h3:zq l (k:Int) p.1 = true) (hn:∀ q:Nat,lo <= q -> q < k -> zq l (q:Int) p.1 = false):FirstN l ps lo hi (n + 1) (some (n,k)):=by
 have hk:k < hi /\ ∀ j q,j < n -> lo <= q -> stJ l ps q j = true -> k < q:=by
  rcases h with ⟨rfl,h⟩ | ⟨n0,q0,rfl,a1,a2,a3,a4,a5⟩
  ·refine #[h2,fun j q hj hl hb=>?_];by_cases hq:q < hi
   ·rw [h j q hj hl hq]at hb;cases hb
   ·have h2':k < hi:=h2;lia
  ·have h2':k < q0:=h2;refine #[⋯,fun j q hj hl hb=>?_];have:=a5 j q hj hl hb;lia
 refine .inr #[n,k,rfl,⋯,h1,hk.1,by rw [vq hp]; exact h3,fun j q hj hl hb=>?_];by_cases e:j < n
 ·exact .inl (hk.2 j q e hl hb)
 ·have:j = n:=⋯;subst this;rw [vq hp]at hb;by_cases hq:q < k
  ·rw [hn q hl hq]at hb;cases hb
  ·lia
theorem FirstN.window {l:()} {ps:List zE} {lo mid hi n:Nat} {r:Option (Nat × Nat)} (h0:FirstN l ps lo mid n none) (hm:lo <= mid) (h:FirstN l ps mid hi n r):FirstN l ps lo hi n r:=by
 have h0':∀ j q,j < n -> lo <= q -> q < mid -> stJ l ps q j = false:=by
  rcases h0 with ⟨_,h⟩ | ⟨_,_,h,_⟩
  ·exact h
  ·cases h
 rcases h with ⟨rfl,h⟩ | ⟨n0,q0,rfl,a1,a2,a3,a4,a5⟩
 ·refine .inl #[rfl,fun j q hj h1 h2=>?_];by_cases e:q < mid
  ·exact h0' j q hj h1 e
  ·exact h j q hj ⋯ h2
 ·refine .inr #[n0,q0,rfl,a1,⋯,a3,a4,fun j q hj h1 h2=>?_];by_cases e:q < mid
  ·rw [h0' j q hj h1 e]at h2;cases h2
  ·exact a5 j q hj ⋯ h2
def NeL (ps:List zE):Prop:=∀ p ∈ ps,p.1 ≠ []
theorem FirstN.toEnd {l:()} {ps:List zE} {lo hi n:Nat} {r:Option (Nat × Nat)} (hN:NeL ps) (h:FirstN l ps lo hi n r) (hl:r = none -> l.length <= hi):FirstN l ps lo l.length n r:=by
 have hlt:∀ j q,stJ l ps q j = true -> q < l.length:=fun j q hb=>by
  obtain ⟨_,p,hp,hs⟩:=xo hb;exact vb (hN p (List.mem_of_getElem? hp)) hs
 rcases h with ⟨rfl,h⟩ | ⟨n0,q0,rfl,a1,a2,a3,a4,a5⟩
 ·exact .inl #[rfl,fun j q hj h1 h2=>h j q hj h1 (by have:=hl rfl; lia)]
 ·exact .inr #[n0,q0,rfl,a1,a2,hlt _ _ a4,a4,a5]
noncomputable def zC (l:()) (ps:List zE):Option (Nat × Nat):=(yz l ps l.length).head?
theorem jU {l:()} {ps:List zE} {r:Option (Nat × Nat)} (h:FirstN l ps 0 l.length ps.length r):r = zC l ps:=kr h
theorem jy (l:()) (ps:List zE) (hN:NeL ps):FirstN l ps 0 l.length ps.length (zC l ps):=by
 have hs:=y4 l ps l.length;unfold zC
 cases e:yz l ps l.length with
 | nil =>
  refine .inl #[rfl,fun j q _ _ hq=>?_]
  cases hb:stJ l ps q j with
  | false=>rfl
  | true =>
   have:(j,q) ∈ yz l ps l.length:=usesK_mem.mpr #[hq,hb];rw [e]at this;cases this
 | cons u us =>
  rw [e]at hs;have hu:u ∈ yz l ps l.length:=by rw [e]; exact List.mem_cons_self
  obtain ⟨h1,h2⟩:=usesK_mem.mp hu;refine .inr #[u.1,u.2,rfl,(xo h2).1,Nat.zero_le _,h1,h2,fun j q hj _ hb=>?_]
  have hq:q < l.length:=by
   obtain ⟨_,p,hp,hs⟩:=xo hb;exact vb (hN p (List.mem_of_getElem? hp)) hs
  have:(j,q) ∈ yz l ps l.length:=usesK_mem.mpr #[hq,hb];rw [e]at this;rcases ac.mp this with e2 | e2
  ·rw [<- e2];exact .inr #[rfl,Nat.le_refl _]
  ·rcases (ay.mp hs).1 _ e2 with h | ⟨h,h'⟩
   ·exact .inl h
   ·exact .inr #[h,Nat.le_of_lt h']
noncomputable def jB (ps:List zE) (n:Nat):zE:=ps.getD n ([],[])
theorem xQ {ps:List zE} {n:Nat} {p:zE} (h:ps[n]? = some p):jB ps n = p:=by
 unfold jB;rw [List.getD_eq_getElem?_getD,h];rfl
noncomputable def kT (l:()) (ps:List zE) (u:Nat × Nat):():=kX l (u.2:Int) (jB ps u.1).1 (jB ps u.1).2
noncomputable def V6 (ps:List zE) (l:()):():=((zC l ps).map (kT l ps)).getD l
noncomputable def wAt (ps:List zE) (l:()):Nat -> ()
 | 0=>l
 | j + 1=>V6 ps (wAt ps l j)
noncomputable def sAt (ps:List zE) (l:()) (j:Nat):List (Nat × Nat):=(List.range j).map fun i=>(zC (wAt ps l i) ps).getD (0,0)
theorem Wa (ps:List zE) (l:()) (j:Nat):sAt ps l (j + 1) = sAt ps l j ++ [(zC (wAt ps l j) ps).getD (0,0)]:=by
 unfold sAt;rw [List.range_succ,List.map_append];rfl
theorem qN (ps:List zE) (l:()) (j:Nat):(sAt ps l j).length = j:=by
 unfold sAt;rw [List.length_map,List.length_range]
theorem ww {ps:List zE} {l:()} {j:Nat} {u:Nat × Nat} (h:zC (wAt ps l j) ps = some u):wAt ps l (j + 1) = kT (wAt ps l j) ps u:=by
 show V6 ps (wAt ps l j) = _;unfold V6;rw [h];rfl
def WL (ps:List zE) (l:()) (j:Nat):Prop:=∀ i,i < j -> zC (wAt ps l i) ps ≠ none
theorem X6 {ps:List zE} {l:()} {i j:Nat} (h1:WL ps l i) (h2:zC (wAt ps l i) ps = none) (h3:WL ps l j) (h4:zC (wAt ps l j) ps = none):i = j:=by
 rcases Nat.lt_trichotomy i j with h | h | h
 ·exact absurd h2 (h3 i h)
 ·exact h
 ·exact absurd h4 (h1 j h)
theorem kC {l:()} {ps:List zE} {n q M lo:Nat} (h:FirstN l ps 0 l.length ps.length (some (n,q))) (hN:NeL ps) (hM:∀ p ∈ ps,p.1.length <= M) (hlo:lo = 0 \/ lo + M <= q + 1):FirstN (kT l ps (n,q)) ps 0 lo ps.length none:=by
 refine .inl #[rfl,fun j x hj _ hx=>?_];rcases h with ⟨h,_⟩ | ⟨n0,q0,e,a1,a2,a3,a4,a5⟩
 ·cases h
 ·injection e with e;injection e with e1 e2;subst e1 e2
  cases hb:stJ (kT l ps (n,q)) ps x j with
  | false=>rfl
  | true =>
   obtain ⟨_,p,hp,hs⟩:=xo hb;have hpm:=hM p (List.mem_of_getElem? hp);have hpn:=aq.mpr (hN p (List.mem_of_getElem? hp));have hxq:x + p.1.length <= q:=⋯;obtain ⟨s0,s1,s2⟩:=of_decide_eq_true hs;rw [Int.toNat_natCast]at s2;obtain ⟨_,p2,hp2,hs2⟩:=xo a4;obtain ⟨t0,t1,t2⟩:=of_decide_eq_true hs2
   have e4:(kT l ps (n,q)).take q = l.take q:=by
    unfold kT kX;rw [Int.toNat_natCast,List.append_assoc,List.take_append_of_le_length (by rw [List.length_take]; lia),List.take_take,Nat.min_self]
   have e5:∀ z:(),((z.take q).drop x).take p.1.length =(z.drop x).take p.1.length:=fun z=>by
    rw [List.drop_take,List.take_take];congr 1;lia
   have s3:(l.drop x).take p.1.length = p.1:=by rw [<- e5,<- e4,e5,s2]
   have:stJ l ps x j = true:=by
    rw [vq hp];exact decide_eq_true #[⋯,⋯,by rw [Int.toNat_natCast]; exact s3]
   have:=a5 j x hj (Nat.zero_le _) this;lia
theorem FirstN.lower {l:()} {ps:List zE} {lo hi n:Nat} (h:FirstN l ps 0 hi n none) (hl:lo <= hi):FirstN l ps 0 lo n none:=by
 rcases h with ⟨_,h⟩ | ⟨_,_,h,_⟩
 ·exact .inl #[rfl,fun j q hj h1 h2=>h j q hj h1 ⋯]
 ·cases h
theorem zal (a b c:Nat):min a b + (b - (a + c)) <= b:=⋯
theorem X3 {l:()} {ps:List zE} {n q m:Nat} (h:FirstN l ps 0 l.length ps.length (some (n,q))) (hm:∀ p ∈ ps,p.2.length <= m):(kT l ps (n,q)).length <= l.length + m:=by
 rcases h with ⟨h,_⟩ | ⟨n0,q0,e,a1,a2,a3,a4,a5⟩
 ·cases h
 ·injection e with e;injection e with e1 e2;subst e1 e2;obtain ⟨_,p,hp,hs⟩:=xo a4;have:=hm p (List.mem_of_getElem? hp);have er:=xQ hp;unfold kT kX;simp only [List.length_append,List.length_take,List.length_drop,er];rw [Nat.add_right_comm];exact Nat.add_le_add (zal _ _ _) this
theorem uQ {ps:List zE} {l:()} {m:Nat} (hN:NeL ps) (hm:∀ p ∈ ps,p.2.length <= m):∀ j,(wAt ps l j).length <= l.length + j * m
 | 0=>by simp [wAt]
 | j + 1=>by
  have ih:=uQ (l:=l) hN hm j;have hf:=jy (wAt ps l j) ps hN;rw [Nat.succ_mul]
  cases e:zC (wAt ps l j) ps with
  | none =>
   show (V6 ps (wAt ps l j)).length <= _;unfold V6;rw [e];show (wAt ps l j).length <= _;lia
  | some u =>
   rw [ww e];rw [e]at hf;obtain ⟨a,b⟩:=u;have:=X3 hf hm;lia
def UseAt (H:Hp) (r:Option (Nat × Nat)) (v:V):Prop:=(r = none /\ v = .non) \/ ∃ (n q:Nat) (p:Addr),r = some (n,q) /\ v = .ref p /\ H p = some (.tup [.int (n:Nat),.int (q:Nat)])
theorem UseAt.same {H H':Hp} {r:Option (Nat × Nat)} {v:V} (h:UseAt H r v) (s:Same H H'):UseAt H' r v:=by
 rcases h with h | ⟨n,q,p,h1,h2,h3⟩
 ·exact .inl h
 ·exact .inr #[n,q,p,h1,h2,s _ _ h3]
theorem ZY {l p:()} {lo hi:Int} {H:Hp} {Q:VK} (h0:0 <= lo) (h1:0 <= hi) (h:∀ r:Int,((r = -1 /\ ∀ q:Nat,lo <= q -> (q:Int) + p.length <= hi -> zq l q p = false) \/ ∃ k:Nat,r = k /\ lo <= k /\ (k:Int) + p.length <= hi /\ zq l k p = true /\ ∀ q:Nat,lo <= q -> q < k -> zq l q p = false) -> Q (.int r) H):WQ (.str (tx l)) [.str (tx p),.int lo,.int hi] H Q:=by
 refine #[l,p,lo,hi,rfl,rfl,h0,h1,fun r hr=>h r ?_]
 have no:∀ q:Nat,((l.drop q).take p.length ≠ p \/ ¬ q + p.length <= l.length) -> zq l q p = false:=fun q hq=>decide_eq_false fun ⟨_,b,c⟩=>by
  rcases hq with hq | hq
  ·exact hq c
  ·lia
 rcases hr with ⟨rfl,hn⟩ | ⟨k,rfl,k1,k2,k3,k4,hn⟩
 ·refine .inl #[rfl,fun q q1 q2=>no q ?_];by_cases e:q + p.length <= l.length
  ·exact .inl (hn q q1 q2 e)
  ·exact .inr e
 ·exact .inr #[k,rfl,k1,k2,decide_eq_true #[⋯,⋯,k4],fun q q1 q2=>no q (.inl (hn q q1 q2))]
def x0 (K:PySem.W.Frag):Sp:=fun vs H Q _=>∃ (a:Addr) (l:()) (ps:List zE) (st en:Nat),vs = [.ref a,.str (tx l),.int (st:Nat),.int (en:Nat)] /\ LsA K H a (ps.map dR) /\ NeL ps /\ (∀ p ∈ ps,p.1.length <= 1000) /\ ∀ (r:Option (Nat × Nat)) (v:V) (H':Hp),Same H H' -> UseAt H' r v -> FirstN l ps st en ps.length r -> Q v H'
theorem jb {a:Addr} {l:()} {ps:List zE} {st en:Nat} {s e:Int} {H:Hp} {Q:VK} {E:XK} (hs:s =(st:Nat)) (he:e =(en:Nat)) (hA:LsA K H a (ps.map dR)) (hN:NeL ps) (hP:∀ p ∈ ps,p.1.length <= 1000) (q:∀ (r:Option (Nat × Nat)) (v:V) (H':Hp),Same H H' -> UseAt H' r v -> FirstN l ps st en ps.length r -> Q v H'):x0 K [.ref a,.str (tx l),.int s,.int e] H Q E:=by
 subst hs he;exact #[a,l,ps,st,en,rfl,hA,hN,hP,q]
theorem sc_first_within:sQz 4 ["rules", "word", "start", "end", "found", "number", "rule", "place"] yy:=by nofun
theorem wY {f:Addr} {fd:FuncData} (B:Bt mg)  (F:("first_within"^^^yy))  :(1&&&["rules", "word", "start", "end"]) (x0 K):=by
 refine F.ok sc_first_within (fun vs H Q E h=>?_) (fun cdv A outer s H vs Q E hr h=>?_)
 ·obtain ⟨a,l,ps,st,en,rfl,_⟩:=h;rfl
 ·obtain ⟨a,l,ps,st,en,rfl,hA,hN,hP,q⟩:=h
  refine #[_,(zj (zw 4 sc_first_within.nd vF)
   (zj (yH PassesOwn.never rfl (Wp rfl B.enum (za (pv 0) zc)) (Qg (n:=2) rfl (j0 (zF (i:=5) sc_first_within.nd rfl (.inl rfl)) (j0 (zF (i:=6) sc_first_within.nd rfl (.inl rfl)) VW)))
    (zy (zw 7 sc_first_within.nd (wW PySem.F.plainAttrs_str PySem.F.slot_str_find PySem.F.type_str_find Vn (pv 1) (za (zp ix_tup (pv 6) zd) (za (pv 2) (za (zr z8 (zr vD (pv 3) zd) (zH B.len (zp ix_tup (pv 6) zd))) zc)))))
    (zf (yb (zK op_ge' (pv 7) zd (zP _))
     (zy (zw 4 sc_first_within.nd (z5 (za (pv 5) (za (pv 7) zc))))
     (zf (zw 3 sc_first_within.nd (pv 7))))
     zu))))
   (zf (zo (pv 4))))),?_]
  have s16:=yt;obtain ⟨xs,hX,hI⟩:=id hA;have hxl:=hI.len;rw [List.length_map]at hxl;have s16:=yt;refine zl (fun σ H'=>H' = H /\ σ = [!!a,~~~l,-~~~st,-~~~en,some (.non),none,none,none]) ?_ ?_
  ·rfl'
  rintro σ H1 ⟨rfl,rfl⟩:_;right;refine zl (fun σ H'=>Same H1 H' /\ ∃ (r:Option (Nat × Nat)) (v:V) (v3 v5 v6 v7:Option V),UseAt H' r v /\ FirstN l ps st en ps.length r /\ σ = [!!a,~~~l,-~~~st,v3,some (v),v5,v6,v7]) ?_ ?_
  ·rfl'
   refine #[#[_,SqL.of hX],ForEL.by (xs:=xs) (fun i σ H'=>Same H1 H' /\ ∃ (r:Option (Nat × Nat)) (v:V) (v5 v6 v7:Option V),UseAt H' r v /\ FirstN l ps st en i r /\ σ = [!!a,~~~l,-~~~st,some (.int (((r.map Prod.snd).getD en:Nat):Int)),some (v),v5,v6,v7]) #[Same.refl _,none,.non,none,none,none,.inl #[rfl,rfl],.inl #[rfl,fun j q h=>absurd h (Nat.not_lt_zero j)],rfl] (fun i σ H' _ h=>SqL.of (h.1 _ _ hX)) ?_ ?_]
   ·rintro i y σ H' p hy ⟨hs,r,v,v5,v6,v7,hu,hF,rfl⟩ hpn;obtain ⟨rl,pr,hri,rfl,hqr⟩:=hI.getR hy;have hm:=List.mem_of_getElem? hri;have hne:=aq.mpr (hN rl hm);have hrl:=hP rl hm;have s2:=hs.trans (zg (o:=.tup [.int (i:Nat),.ref pr]) hpn);have hq2:=zm s2 hqr;have hu2:=hu.same (zg (o:=.tup [.int (i:Nat),.ref pr]) hpn)
    rfl'
    refine #[_,SqT.of zb,rfl,_,_,rfl,_,_,rfl,rfl,_,rfl,_,hq2,_,rfl,_,rfl,_,hq2,_,rfl,_,#[by rw [zL]; lia,rfl],ZY ⋯ (by rw [zL]; lia) fun z hz=>#[z,rfl,?_]];rw [zL]at hz;rcases hz with ⟨rfl,hn⟩ | ⟨k,rfl,k1,k2,k3,hn⟩
    ·rw [if_neg ∅];exact #[s2,r,v,hu2,hF.keep hri fun q q1 q2=>hn q ⋯ ⋯,rfl,rfl]
    ·rw [if_pos ⋯];refine #[⋯,fun p2 hp2=>#[s2.trans (zg hp2),some (i,k),.ref p2,.inr #[i,k,p2,rfl,rfl,zb],hF.take hri ⋯ ⋯ k3 fun q q1 q2=>hn q ⋯ q2,rfl,rfl]]
   ·rintro σ H' ⟨hs,r,v,v5,v6,v7,hu,hF,rfl⟩;rw [hxl]at hF;exact #[hs,r,v,hu,hF,_,_,_,_,rfl]
  rintro σ H2 ⟨s2,r,v,v3,v5,v6,v7,hu,hF,rfl⟩:_;right
  rfl'
  exact q r v H2 s2 hu hF
structure KW (mg:Str -> Option Value):Prop where
 g:∃ t,mg "WINDOW" = some (.int 128 t)
def uh (K:PySem.W.Frag):Sp:=fun vs H Q _=>∃ (a:Addr) (l:()) (ps:List zE) (st:Nat),vs = [.ref a,.str (tx l),.int (st:Nat)] /\ LsA K H a (ps.map dR) /\ NeL ps /\ (∀ p ∈ ps,p.1.length <= 1000) /\ l.length <= 100000 /\ ∀ (r:Option (Nat × Nat)) (v:V) (H':Hp),Same H H' -> UseAt H' r v -> FirstN l ps st l.length ps.length r -> Q v H'
theorem qI {a:Addr} {l:()} {ps:List zE} {st:Nat} {s:Int} {H:Hp} {Q:VK} {E:XK} (hs:s =(st:Nat)) (hA:LsA K H a (ps.map dR)) (hN:NeL ps) (hP:∀ p ∈ ps,p.1.length <= 1000) (hl:l.length <= 100000) (q:∀ (r:Option (Nat × Nat)) (v:V) (H':Hp),Same H H' -> UseAt H' r v -> FirstN l ps st l.length ps.length r -> Q v H'):uh K [.ref a,.str (tx l),.int s] H Q E:=by
 subst hs;exact #[a,l,ps,st,rfl,hA,hN,hP,hl,q]
theorem sc_first_from:sQz 3 ["rules", "word", "start", "size", "found"] yZ:=by nofun
theorem uI {f:Addr} {fd:FuncData} (B:Bt mg) (T:KW mg) (F:("first_from"^^^yZ)) (D_first_within:(1<<<"first_within") ["rules", "word", "start", "end"] [] (x0 K)):(2&&&["rules", "word", "start"]) (uh K):=by
 obtain ⟨t8,g8⟩:=T.g;refine F.ok sc_first_from (fun vs H Q E h=>?_) (fun cdv A outer s H vs Q E hr h=>?_)
 ·obtain ⟨a,l,ps,st,rfl,_⟩:=h;rfl
 ·obtain ⟨a,l,ps,st,rfl,hA,hN,hP,hl,q⟩:=h
  refine #[_,(zj (zw 3 sc_first_from.nd (xx (v:=.int 128) rfl g8 #[t8,rfl]))
   (zj (jQ PassesOwn.never (zK V7 (pv 2) (zH B.len (pv 1)) (zP _))
    (zy (zw 4 sc_first_from.nd (cl0 D_first_within hr .nil rfl (za (pv 0) (za (pv 1) (za (pv 2) (za (zr z8 (pv 2) (pv 3)) zc))))))
    (zy (yb (zK op_notN' (pv 4) vF (zP _))
     (zf (zo (pv 4)))
     zu)
    (zy (zw 2 sc_first_from.nd (zr z8 (pv 2) (pv 3)))
    (zf (zw 3 sc_first_from.nd (zr qA (pv 3) zd)))))))
   (zf (zo vF)))),?_]
  have s16:=yt;have s16:=yt;refine zl (fun σ H'=>H' = H /\ σ = [!!a,~~~l,-~~~st,~~~!128,none]) ?_ ?_
  ·rfl'
  rintro σ H1 ⟨rfl,rfl⟩:_;right;refine zl (fun σ H'=>Same H1 H' /\ FirstN l ps st l.length ps.length none) ?_ ?_
  ·unfold YW;refine #[fun m σ H'=>∃ (s z:Nat) (v4:Option V),m = l.length - s /\ st <= s /\ 1 <= z /\ Same H1 H' /\ FirstN l ps st s ps.length none /\ σ = [!!a,~~~l,-~~~s,-~~~z,v4],#[_,st,128,none,rfl,Nat.le_refl _,∅,Same.refl _,.inl #[rfl,fun j q _ h1 h2=>by lia],rfl],?_];rintro m σ H' ⟨s,z,v4,rfl,hs,hz,sm,hF,rfl⟩
   rfl'
   refine #[⋯,xC (fun hlt=>?_) fun hge=>#[sm,hF.toEnd hN fun _=>by lia]];refine #[fun σ' H''=>∃ v4:Option V,Same H1 H'' /\ FirstN l ps st (s + z) ps.length none /\ σ' = [!!a,~~~l,some (.int ((s + z:Nat):Int)),some (.int ((z * 2:Nat):Int)),v4],fun σ' H'' ⟨v4,a1,a2,a3⟩=>#[l.length - (s + z),⋯,s + z,rfl,⋯,z * 2,⋯,a1,a2,v4,a3],?_];refine jb (en:=s + z) rfl ⋯ (hA.same sm) hN hP fun r v H2 s2 hu hF2=>?_;rcases hu with ⟨rfl,rfl⟩ | ⟨n,qq,p,rfl,rfl,hp⟩
   ·rw [if_neg (fun h=>h rfl)];exact #[.inr #[∅,∅],some .non,sm.trans s2,hF.window hs hF2,by push_cast; rfl]
   ·rw [if_pos (by intro h; cases h)];exact q _ _ H2 (sm.trans s2) (.inr #[n,qq,p,rfl,rfl,hp]) ((hF.window hs hF2).toEnd hN (fun e=>by cases e))
  rintro σ H2 ⟨s2,hF⟩:_;right
  rfl'
  exact q none .non H2 s2 (.inl #[rfl,rfl]) hF
theorem LsA.pushT {H:Hp} {D p:Addr} {ds es:List L3.D} {xs vs:List V} (h1:H D = some (.lst xs)) (h2:Iss K H ds xs) (hp:H p = none) (hv:Iss K H es vs) (f:zS ds) (fe:zS es):LsA K (upd (upd H p (.tup vs)) D (.lst (xs ++ [.ref p]))) D (ds ++ [.tup es]):=by
 have e:(upd H p (.tup vs)) D = some (.lst xs):=zg hp _ _ h1;exact LsA.snoc e (Iss.same (zg hp) _ _ h2) f (by simp only [y2]; exact fe) (Is.tup hp hv)
structure Jn (K:PySem.W.Frag) (mg:Str -> Option Value) (C:Addr):Prop where
 xi:XI K C
 ini:PySem.W.findIn K (.ref C) "__init__" = some (some (.builtin "ValueError.__init__"))
 g:mg "TooFar" = some (.ref C)
noncomputable def dG (u:Nat × Nat):L3.D:=.tup [.int (u.1:Nat),.int (u.2:Nat),.bl true]
theorem Uo (u:Nat × Nat):y2 (dG u):=by simp only [dG,y2,zS,and_self]
theorem XV (us:List (Nat × Nat)):zS (us.map dG):=xU fun d h=>by obtain ⟨r,_,rfl⟩:=aa.mp h; exact Uo r
theorem Ju {H:Hp} {n q:Nat}:Iss K H [.int (n:Nat),.int (q:Nat),.bl true] [.int (n:Nat),.int (q:Nat),.bl true]:=by
 simp only [Iss,Is];exact #[_,_,rfl,rfl,_,_,rfl,rfl,_,_,rfl,rfl,rfl]
structure Rd (ps:List zE) (l:()) (J:Nat):Prop where
 live:WL ps l J
 len:∀ j,j <= J -> (wAt ps l j).length <= 10000
 most:J <= 10000
def xY (K:PySem.W.Frag) (CF:Addr):Sp:=fun vs H Q E=>∃ (a:Addr) (l:()) (ps:List zE) (m:Int) (J:Nat),vs = [.ref a,.str (tx l),.int m] /\ LsA K H a (ps.map dR) /\ NeL ps /\ ps.length <= 100 /\ (∀ p ∈ ps,p.1.length <= 1000 /\ p.2.length <= 1000) /\ Rd ps l J /\
 ((zC (wAt ps l J) ps = none /\ (J:Int) <= m /\ ∀ (p S:Addr) (H':Hp),Same H H' -> H' p = some (.tup [.ref S,.str (tx (wAt ps l J))]) -> LsA K H' S ((sAt ps l J).map dG) -> H S = none -> Q (.ref p) H') \/
  (zC (wAt ps l J) ps ≠ none /\ (J:Int) = m /\ ∀ H',Same H H' -> E (.ref CF) none H'))
theorem Zy {a:Addr} {ps:List zE} {σ:L2.St} {H:Hp} {Q:VK} {D:Addr} (hA:LsA K H a (ps.map dR)) (hP:∀ p ∈ ps,p.1.length <= 1000) (hpl:ps.length <= 100) (hD:H D = none) (q:∀ H',Same H H' -> H' D = some (.lst ((ps.map fun p=>(p.1.length:Int)).map V.int)) -> Q (.ref D) H') :
  CompL K a (yW 0) ve (tCB (X2 K) (zM (tOp (vj K) (yf 0) (tC (.int 0))) xu)) 1 [] σ H Q D:=by
 have s16:=yt;obtain ⟨xs,hX,hI⟩:=hA;have hxl:=hI.len;rw [List.length_map]at hxl;refine CompL.by (xs:=xs) (fun i acc H'=>Same H H' /\ H' D = some (.lst acc) /\ acc =((ps.take i).map fun p=>(p.1.length:Int)).map V.int) #[zg hD,zb,rfl] (fun i acc H' _ h=>SqL.of (h.1 _ _ hX)) ?_ ?_
 ·refine nm4 ?_;rintro i x acc H' hx ⟨hs,hH,rfl⟩:_;have hil:=(ae.mp hx).1;obtain ⟨r,pr,hri,rfl,hqr⟩:=hI.getR hx;have hm:=hP r (List.mem_of_getElem? hri);right;simp only [ve]
  rfl'
  refine #[xq,_,zm hs hqr,_,rfl,_,#[by rw [zL]; lia,rfl],hH,by rw [List.length_map,List.length_map,List.length_take]; lia,CNx.mk hil #[zA hs hD,zb,?_]];rw [zR hri,List.map_append,List.map_append,zL];rfl
 ·rintro acc H' ⟨hs,hH,rfl⟩;rw [hxl,List.take_length]at hH;exact q H' hs hH
theorem K5 {H:Hp} {rs:List zE} {xs:List V} {i:Nat} {r:zE} (hI:Iss K H (rs.map dR) xs) (hi:rs[i]? = some r):∃ p,atI xs (i:Int) = some (.ref p) /\ SqT K H p [.str (tx r.1),.str (tx r.2)]:=by
 have hl:=hI.len;rw [List.length_map]at hl;have hil:=(ae.mp hi).1;obtain ⟨v,a1,b1⟩:=vI (xs:=xs) (i:=(i:Int)) ⋯ ⋯;obtain ⟨r',p,h1,rfl,h3⟩:=hI.getR (j:=i) b1;rw [hi]at h1;cases h1;exact #[p,a1,h3]
theorem sc_gone:sQz 3 ["rules", "word", "most", "longest", "steps", "use", "number", "place"] xn:=by nofun
theorem V2 {f CU CF:Addr} {fd:FuncData} {dV:Value} (B:Bt mg) (T:Jn K mg CF) (TU:DNU P w K mg base CU) (F:FunD K "gone" "gone" xn dV f fd) (D_first_from:(2<<<"first_from") ["rules", "word", "start"] [] (uh K)) (D_put:(3>>>"put") ["word", "place", "old", "new"] [] (W7 CU)):(4|||["rules", "word", "most"]) (xY K CF):=by
 refine FunD.okX F sc_gone (fun vs H Q E h=>?_) (fun cdv A outer s H vs Q E hr hx h=>?_)
 ·obtain ⟨a,l,ps,m,J,rfl,_⟩:=h;rfl
 ·obtain ⟨a,l,ps,m,J,rfl,hA,hN,hpl,hP,hR,hq⟩:=h
  refine #[_,(zj (zw 3 sc_gone.nd (Yx (Qr rfl) rfl B.max uH (za (wg (own:=["rule"]) (caps:=[]) (ix:=[]) (tt:=ve) (te:=(tCB (X2 K) (zM (tOp (vj K) (yf 0) (tC (.int 0))) xu))) rfl (z9 (sc:=ze xn) rfl (by symm) (by symm) (by symm) rfl (by symm) (by symm) rfl) (yi (pv 0)) (fun _ _ _ _ _ _=>zF (i:=0) (show List.Nodup [_] by decide) rfl (.inl rfl)) (fun _ _ _ _ _ _=>yT) (fun _ _ _ _ _ _=>(zH B.len (zp ix_tup (pv 0) zd)))) zc) (jo zd Zh)))
   (zj (zw 4 sc_gone.nd (wk zc))
   (zj (zw 5 sc_gone.nd (cl0 D_first_from hr .nil rfl (za (pv 0) (za (pv 1) (za zd zc)))))
   (zj (jQ PassesOwn.leaving (zK op_notN' (pv 5) vF (zP _))
    (zj (yb (zK op_ge' (zH B.len (pv 4)) (pv 2) (zP _))
     (zf (ym hx rfl T.xi.toXC T.ini rfl T.g (za yv zc)))
     zu)
    (zj (zw 6 sc_gone.nd (zp ix_tup (pv 5) zd))
    (zj (zw 7 sc_gone.nd (zp ix_tup (pv 5) zd))
    (zj (zw 1 sc_gone.nd (clP hx D_put hr .nil rfl (za (pv 1) (za (pv 7) (za (zp ix_tup (zp ix_list (pv 0) (pv 6)) zd) (za (zp ix_tup (zp ix_list (pv 0) (pv 6)) zd) zc))))))
    (zj (yQ (wW PySem.F.plainAttrs_list PySem.F.slot_list_append PySem.F.type_list_append xg (pv 4) (za (z5 (za (pv 6) (za (pv 7) (za xm zc)))) zc)))
    (zf (zw 5 sc_gone.nd (cl0 D_first_from hr .nil rfl (za (pv 0) (za (pv 1) (za (wu (Ve rfl) rfl B.max uH (za zd (za (zr z8 (zr vD (pv 7) (pv 3)) zd) zc))) zc))))))))))))
   (zf (zo (z5 (za (pv 4) (za (pv 1) zc))))))))),?_]
  have s16:=yt;have s16:=yt;refine zl (fun σ H'=>Same H H' /\ ∃ M:Int,(∀ p ∈ ps,(p.1.length:Int) <= M) /\ σ = [!!a,~~~l,~~~!m,~~~!M,none,none,none,none]) ?_ ?_
  ·rfl'
   simp only [KY]
   rfl'
   obtain ⟨xs,hX,hI⟩:=id hA;exact #[#[_,SqL.of hX],fun D hD=>Zy hA (fun p hp=>(hP p hp).1) hpl hD fun H' s' hH=>#[D,_,0,rfl,rfl,SqL.of hH,fun z _ hz=>#[s',z,fun p hp=>hz _ (aa.mpr #[p,hp,rfl]),rfl]]]
  rintro σ H1 ⟨s1,M,hM,rfl⟩:_;right;refine zl (fun σ H'=>Same H H' /\ ∃ S:Addr,H S = none /\ H' S = some (.lst []) /\ σ = [!!a,~~~l,~~~!m,~~~!M,!!S,none,none,none]) ?_ ?_
  ·rfl'
   exact #[⋯,fun p hp=>#[s1.trans (zg hp),p,s1.free hp,zb,rfl]]
  rintro σ H2 ⟨s2,S,hSn,hS,rfl⟩:_;right;refine zl (fun σ H'=>Same H H' /\ H' S = some (.lst []) /\ ∃ uv:V,UseAt H' (zC l ps) uv /\ σ = [!!a,~~~l,~~~!m,~~~!M,!!S,some (uv),none,none]) ?_ ?_
  ·rfl'
   exact qI (st:=0) rfl (hA.same s2) hN (fun p hp=>(hP p hp).1) (by have:=hR.len 0 (Nat.zero_le _); exact Nat.le_trans this ∅) fun r v H' s' hu hF=>#[s2.trans s',s' _ _ hS,(by rw [jU hF]at hu; exact hu)]
  rintro σ H3 ⟨s3,hS3,uv,hu,rfl⟩:_;right;refine zl (fun σ H'=>Same H H' /\ zC (wAt ps l J) ps = none /\ LsA K H' S ((sAt ps l J).map dG) /\ ∃ v5 v6 v7,σ = [!!a,some (.str (tx (wAt ps l J))),~~~!m,~~~!M,!!S,v5,v6,v7]) ?_ ?_
  ·unfold YW;refine #[fun k σ H'=>∃ (j:Nat) (uv:V) (v6 v7:Option V),k = J - j /\ j <= J /\ Same H H' /\ LsA K H' S ((sAt ps l j).map dG) /\ UseAt H' (zC (wAt ps l j) ps) uv /\ σ = [!!a,some (.str (tx (wAt ps l j))),~~~!m,~~~!M,!!S,some (uv),v6,v7],#[_,0,uv,none,none,rfl,Nat.zero_le _,s3,#[[],hS3,by simp only [sAt,List.range_zero,List.map_nil,Iss]],hu,rfl],?_];rintro k σ H' ⟨j,uv,v6,v7,rfl,hj,hs,hL,hu,rfl⟩;have hlj:=hR.len j hj;have hRm:=hR.most;obtain ⟨xs,hX,hI⟩:=id hA
   rfl'
   refine xC (fun hne=>?_) fun hne=>?_
   ·rcases hu with ⟨_,h⟩ | ⟨n,q0,p,hf,rfl,hp⟩
    ·exact absurd h hne
    have hF:=jy (wAt ps l j) ps hN;rw [hf]at hF
    have hjJ:j < J \/ (j = J /\ (J:Int) = m /\ ∀ H',Same H H' -> E (.ref CF) none H'):=by
     by_cases e:j = J
     ·subst e;rcases hq with ⟨h,_⟩ | ⟨_,h1,h2⟩
      ·rw [hf]at h;cases h
      ·exact .inr #[rfl,h1,h2]
     ·exact .inl ⋯
    have hJm:(J:Int) <= m:=by
     rcases hq with ⟨_,h,_⟩ | ⟨_,h,_⟩ <;> lia
    obtain ⟨rl,hrl,hst⟩:∃ rl,ps[n]? = some rl /\ zq (wAt ps l j) (q0:Int) rl.1 = true:=by
     rcases hF with ⟨h,_⟩ | ⟨n0,q1,e,_,_,_,a4,_⟩
     ·cases h
     ·cases e;exact (xo a4).2
    have hlp:=hP rl (List.mem_of_getElem? hrl);have hw:=ww hf;obtain ⟨pr,hai,hqr⟩:=K5 hI hrl;refine #[fun σ' H''=>∃ (uv:V) (v6 v7:Option V),j < J /\ Same H H'' /\ LsA K H'' S ((sAt ps l (j + 1)).map dG) /\ UseAt H'' (zC (wAt ps l (j + 1)) ps) uv /\ σ' = [!!a,some (.str (tx (wAt ps l (j + 1)))),~~~!m,~~~!M,!!S,some (uv),v6,v7],fun σ' H'' ⟨uv,v6,v7,a0,a1,a2,a3,a4⟩=>#[J - (j + 1),⋯,j + 1,rfl,⋯,a1,a2,uv,a3,v6,v7,a4],?_];obtain ⟨ys,hY,hJ2⟩:=id hL;have hyl:=hJ2.len;rw [List.length_map,qN]at hyl;refine zl (fun σ' H''=>H'' = H' /\ j < J /\ σ' = [!!a,some (.str (tx (wAt ps l j))),~~~!m,~~~!M,!!S,!!p,v6,v7]) ?_ ?_
    ·rfl'
     refine #[_,.inl #[_,SqL.of hY,rfl],xC (fun hge=>?_) fun hge=>?_]
     ·rcases hjJ with h | ⟨_,_,h⟩
      ·lia
      ·exact #[⋯,h _ hs]
     ·rcases hjJ with h | ⟨e,h,_⟩
      ·exact h
      ·lia
    rintro σ' G1 ⟨rfl,hlt,rfl⟩:_;right;refine zl (fun σ' H''=>H'' = G1 /\ σ' = [!!a,some (.str (tx (wAt ps l j))),~~~!m,~~~!M,!!S,!!p,-~~~n,v7]) ?_ ?_
    ·rfl'
     exact #[_,SqT.of hp,rfl]
    rintro σ' G2 ⟨rfl,rfl⟩:_;right;refine zl (fun σ' H''=>H'' = G2 /\ σ' = [!!a,some (.str (tx (wAt ps l j))),~~~!m,~~~!M,!!S,!!p,-~~~n,-~~~q0]) ?_ ?_
    ·rfl'
     exact #[_,SqT.of hp,rfl]
    rintro σ' G3 ⟨rfl,rfl⟩:_;right;refine zl (fun σ' H''=>H'' = G3 /\ σ' = [!!a,some (.str (tx (wAt ps l (j + 1)))),~~~!m,~~~!M,!!S,!!p,-~~~n,-~~~q0]) ?_ ?_
    ·rfl'
     have hq2:=zm hs hqr;exact #[_,SqL.of (hs _ _ hX),_,hai,_,rfl,_,hq2,_,rfl,_,SqL.of (hs _ _ hX),_,hai,_,rfl,_,hq2,_,rfl,wAt ps l j,rl.1,rl.2,(q0:Nat),rfl,hlj,by have:=hlp.1; lia,by have:=hlp.2; lia,fun _=>#[rfl,by rw [hw]; unfold kT; rw [xQ hrl]],fun h=>by rw [hst]at h; cases h]
    rintro σ' G4 ⟨rfl,rfl⟩:_;right;refine zl (fun σ' H''=>Same H H'' /\ LsA K H'' S ((sAt ps l (j + 1)).map dG) /\ σ' = [!!a,some (.str (tx (wAt ps l (j + 1)))),~~~!m,~~~!M,!!S,!!p,-~~~n,-~~~q0]) ?_ ?_
    ·rfl'
     refine #[.inl #[_,SqL.of hY],⋯,fun t ht=>#[_,zg ht _ _ hY,⋯,zA (hs.trans (zg ht)) hSn,?_]];rw [Wa,hf,List.map_append];exact LsA.pushT hY hJ2 ht Ju (XV _) (by simp only [zS,y2,and_self])
    rintro σ' G5 ⟨s5,hL5,rfl⟩:_;have hl1:=hR.len (j + 1) hlt;have hM0:=hM rl (List.mem_of_getElem? hrl);right
    rfl'
    refine qI (st:=(if (q0:Int) - M + 1 > 0 then (q0:Int) - M + 1 else 0).toNat) (by split <;> lia) (hA.same s5) hN (fun p hp=>(hP p hp).1) (Nat.le_trans hl1 ∅) fun r v H' s' hu hF2=>#[hlt,s5.trans s',hL5.same s',?_];have hb:=kC (M:=M.toNat) (lo:=(if (q0:Int) - M + 1 > 0 then (q0:Int) - M + 1 else 0).toNat) hF hN (fun p hp=>by have:=hM p hp; lia) (by split <;> lia);rw [<- hw]at hb;rw [jU (hb.window (Nat.zero_le _) hF2)]at hu;exact hu
   ·have hv:uv = .non:=Decidable.not_not.mp hne
    have hf:zC (wAt ps l j) ps = none:=by
     rcases hu with ⟨h,_⟩ | ⟨_,_,_,_,h,_⟩
     ·exact h
     ·rw [hv]at h;cases h
    have e:j = J:=by
     rcases Nat.lt_or_ge j J with h | h
     ·exact absurd hf (hR.live j h)
     ·lia
    subst e;exact #[hs,hf,hL,rfl]
  rintro σ H4 ⟨s4,hF,hL,v5,v6,v7,rfl⟩:_;right
  rfl'
  rcases hq with ⟨_,_,hq⟩ | ⟨h,_⟩
  ·exact #[⋯,fun p hp=>hq p S _ (s4.trans (zg hp)) zb (hL.same (zg hp)) hSn]
  ·exact absurd hF h
noncomputable abbrev Stp:=Int × Int × Bool
noncomputable def dSt (t:Stp):D:=.tup [.int t.1,.int t.2.1,.bl t.2.2]
noncomputable def sdl (r:zE) (f:Bool):zE:=if f = true then r else (r.2,r.1)
noncomputable def qD (ps:List zE) (w:()) (t:Stp):Option (()) :=
 if 0 <= t.1 /\ t.1 < ps.length then (if zq w t.2.1 (sdl (ps.getD t.1.toNat ([],[])) t.2.2).1 = true then some (kX w t.2.1 (sdl (ps.getD t.1.toNat ([],[])) t.2.2).1 (sdl (ps.getD t.1.toNat ([],[])) t.2.2).2)else none)else none
theorem Xn {H:Hp} {D p:Addr} {ds es:List L3.D} {xs vs:List V} (h1:H D = some (.lst xs)) (h2:Iss K H ds xs) (hp:H p = none) (hv:Iss K H es vs) (f:zS ds) (fe:zS es):LsA K (upd (upd H p (.tup vs)) D (.lst (xs ++ [.ref p]))) D (ds ++ [.tup es]):=by
 have e:(upd H p (.tup vs)) D = some (.lst xs):=zg hp _ _ h1;exact LsA.snoc e (Iss.same (zg hp) _ _ h2) f (by simp only [y2]; exact fe) (Is.tup hp hv)
theorem J8 {H:Hp} {l m:()}:Iss K H [dS l,dS m] [.str (tx l),.str (tx m)]:=by
 simp only [Iss,Is];exact #[_,_,rfl,rfl,_,_,rfl,rfl,rfl]
theorem WS {H:Hp} {t:Stp} {v:V} (h:Is K H (dSt t) v):∃ p,v = .ref p /\ SqT K H p [.int t.1,.int t.2.1,.bl t.2.2]:=by
 simp only [dSt,Is,Iss]at h;obtain ⟨a,xs,e,hs,v1,r1,rfl,rfl,v2,r2,rfl,rfl,v3,r3,rfl,rfl,rfl⟩:=h;exact #[a,e,hs]
theorem Qo {H:Hp} {p:Addr} {t:Stp} (h:SqT K H p [.int t.1,.int t.2.1,.bl t.2.2]):Is K H (dSt t) (.ref p):=by
 simp only [dSt,Is,Iss];exact #[p,_,rfl,h,_,_,rfl,rfl,_,_,rfl,rfl,_,_,rfl,rfl,rfl]
theorem W9 {H:Hp} {i j:Int} {b:Bool}:Iss K H [.int i,.int j,.bl b] [.int i,.int j,.bl b]:=by
 simp only [Iss,Is];exact #[_,_,rfl,rfl,_,_,rfl,rfl,_,_,rfl,rfl,rfl]
theorem xK (rs:List Stp):zS (rs.map dSt):=xU fun d h=>by obtain ⟨r,_,rfl⟩:=aa.mp h; simp only [dSt,y2,zS,and_self]
theorem VB (rs:List Stp):xv (rs.map dSt) <= 1:=uz fun d h=>by obtain ⟨r,_,rfl⟩:=aa.mp h; simp only [dSt,dpD,xv]; lia
theorem wt {H:Hp} {rs:List Stp} {vs:List V} {j:Nat} {v:V} (h:Iss K H (rs.map dSt) vs) (q:vs[j]? = some v):∃ r p,rs[j]? = some r /\ v = .ref p /\ SqT K H p [.int r.1,.int r.2.1,.bl r.2.2]:=by
 obtain ⟨d,e,i⟩:=h.get q;rw [List.getElem?_map]at e;obtain ⟨r,hr,rfl⟩:=ak.mp e;obtain ⟨p,e1,e2⟩:=WS i;exact #[r,p,hr,e1,e2]
theorem kD {ps:List zE} {w:()} {t:Stp} (h:¬ (0 <= t.1 /\ t.1 < ps.length)):qD ps w t = none:=if_neg h
theorem jE {ps:List zE} {w:()} {t:Stp} (h:0 <= t.1 /\ t.1 < ps.length):qD ps w t = if zq w t.2.1 (sdl (ps.getD t.1.toNat ([],[])) t.2.2).1 = true then some (kX w t.2.1 (sdl (ps.getD t.1.toNat ([],[])) t.2.2).1 (sdl (ps.getD t.1.toNat ([],[])) t.2.2).2)else none:=if_pos h
def Ch (rs:List zE) (ws:List (())) (ss:List Stp):Prop:=ws.length = ss.length + 1 /\ ∀ i s,ss[i]? = some s -> ∃ w w',ws[i]? = some w /\ ws[i + 1]? = some w' /\ qD rs w s = some w'
noncomputable def bk (s:Stp):Stp:=(s.1,s.2.1,!s.2.2)
noncomputable def yR (ss:List Stp):List Stp:=ss.reverse.map bk
noncomputable def mvL (ss:List Stp) (z:Int):List Stp:=ss.map fun s=>(s.1,s.2.1 + z,s.2.2)
theorem jX {a w b:()} {k:Nat} (h:k <= w.length):(a ++ w ++ b).drop (a.length + k) = w.drop k ++ b:=by
 rw [List.append_assoc,<- List.drop_drop,List.drop_left,List.drop_append_of_le_length h]
theorem vQ {a w b o:()} {k:Int} (h:zq w k o = true):zq (a ++ w ++ b) (k + (a.length:Int)) o = true:=by
 obtain ⟨_,_,h0,h1⟩:=xO h;unfold zq at h ⊢;rw [decide_eq_true_eq]at h ⊢;obtain ⟨_,_,h2⟩:=h;refine #[⋯,by simp only [List.length_append]; lia,?_];rw [show (k + (a.length:Int)).toNat = a.length + k.toNat by lia,jX ⋯,List.take_append_of_le_length (by rw [List.length_drop]; lia),h2]
theorem km {a w b o n:()} {k:Int} (h:zq w k o = true):kX (a ++ w ++ b) (k + (a.length:Int)) o n = a ++ kX w k o n ++ b:=by
 obtain ⟨_,_,h0,h1⟩:=xO h;unfold kX;rw [show (k + (a.length:Int)).toNat = a.length + k.toNat by lia]
 have e1:(a ++ w ++ b).take (a.length + k.toNat) = a ++ w.take k.toNat:=by
  rw [List.append_assoc,List.take_length_add_append,List.take_append_of_le_length ⋯]
 have e2:(a ++ w ++ b).drop (a.length + k.toNat + o.length) = w.drop (k.toNat + o.length) ++ b:=by
  rw [Nat.add_assoc];exact jX ⋯
 rw [e1,e2];simp [List.append_assoc]
theorem qg {rs:List zE} {w w':()} {s:Stp} (a b:()) (h:qD rs w s = some w'):qD rs (a ++ w ++ b) (s.1,s.2.1 + (a.length:Int),s.2.2) = some (a ++ w' ++ b):=by
 by_cases hb:0 <= s.1 /\ s.1 < rs.length
 ·rw [jE hb]at h;rw [jE (by exact hb)];simp only;generalize sdl (rs.getD s.1.toNat ([],[])) s.2.2 = r at *;by_cases hs:zq w s.2.1 r.1 = true
  ·rw [if_pos hs]at h;cases h;rw [if_pos (vQ hs),km hs]
  ·rw [if_neg hs]at h;cases h
 ·rw [kD hb]at h;cases h
theorem Ch.within {rs:List zE} {ws:List (())} {ss:List Stp} (a b:()) (h:Ch rs ws ss):Ch rs (ws.map fun w=>a ++ w ++ b) (mvL ss (a.length:Int)):=by
 obtain ⟨hl,hs⟩:=h;refine #[by simp [mvL,hl],fun i s hi=>?_];unfold mvL at hi;rw [List.getElem?_map]at hi;obtain ⟨s0,h0,rfl⟩:=ak.mp hi;obtain ⟨w,w',e1,e2,e3⟩:=hs _ _ h0;exact #[a ++ w ++ b,a ++ w' ++ b,by rw [List.getElem?_map,e1]; rfl,by rw [List.getElem?_map,e2]; rfl,qg a b e3]
theorem uw {H:Hp} {D p:Addr} {ds es:List L3.D} {xs vs:List V} (h1:H D = some (.lst xs)) (h2:Iss K H ds xs) (hp:H p = none) (hv:Iss K H es vs) (f:zS ds) (fe:zS es):Iss K (upd (upd H p (.tup vs)) D (.lst (xs ++ [.ref p]))) (ds ++ [.tup es]) (xs ++ [.ref p]):=by
 obtain ⟨ys,hy1,hy2⟩:=Xn h1 h2 hp hv f fe;rw [zb]at hy1;cases hy1;exact hy2
def vh (K:PySem.W.Frag):Sp:=fun vs H Q _=>∃ (t:Addr) (ss:List Stp),vs = [.ref t] /\ Is K H (.lst (ss.map dSt)) (.ref t) /\ ss.length <= 1000 /\ ∀ (D:Addr) (H':Hp),H D = none -> Same H H' -> LsA K H' D ((yR ss).map dSt) -> Q (.ref D) H'
theorem uu {t:Addr} {ss:List Stp} {H:Hp} {Q:VK} {E:XK} (h1:Is K H (.lst (ss.map dSt)) (.ref t)) (h2:ss.length <= 1000) (h:∀ (D:Addr) (H':Hp),H D = none -> Same H H' -> LsA K H' D ((yR ss).map dSt) -> Q (.ref D) H'):vh K [.ref t] H Q E:=#[t,ss,rfl,h1,h2,h]
theorem Ue {ss:List Stp} {i:Nat} {s:Stp} (h:ss.reverse[i]? = some s):(yR ss).take (i + 1) =(yR ss).take i ++ [bk s]:=zR (by unfold yR; rw [List.getElem?_map,h]; rfl)
theorem Vz:sQz 1 ["steps"] j4:=by nofun
theorem UR {f:Addr} {fd:FuncData} (B:Bt mg)  (F:("back"^^^j4))  :(1&&&["steps"]) (vh K):=by
 refine F.ok Vz (fun vs H Q E h=>?_) (fun cdv A outer s H vs Q E hr h=>?_)
 ·obtain ⟨t,ss,rfl,_⟩:=h;rfl
 ·obtain ⟨t,ss,rfl,hT,hsl,q⟩:=h;refine #[_,(zf (zo (wg (own:=["step"]) (caps:=[]) (ix:=[]) (tt:=ve) (te:=(Xt (zM (tOp (vj K) (yf 0) (tC (.int 0))) (zM (tOp (vj K) (yf 0) (tC (.int 1))) (zM (ZQ (tOp (vj K) (yf 0) (tC (.int 2)))) xu))))) rfl (z9 (sc:=ze j4) rfl (by symm) (by symm) (by symm) rfl (by symm) (by symm) rfl) (QA rfl B.rev (za (pv 0) zc)) (fun _ _ _ _ _ _=>zF (i:=0) (show List.Nodup [_] by decide) rfl (.inl rfl)) (fun _ _ _ _ _ _=>yT) (fun _ _ _ _ _ _=>(z5 (za (zp ix_tup (pv 0) zd) (za (zp ix_tup (pv 0) zd) (za (WU (zp ix_tup (pv 0) zd)) zc)))))))),?_];have s16:=yt
  rfl'
  simp only [Is]at hT;obtain ⟨_,ts,e,hTs,hJ⟩:=hT;cases e;have htl:=hJ.len;rw [List.length_map]at htl;have hbl:(yR ss).length = ss.length:=by simp [yR]
  refine #[ts,hTs,fun D hD=>CompV.by (xs:=ts) (fun i acc H'=>Same H H' /\ H' D = some (.lst acc) /\ Iss K H' (((yR ss).take i).map dSt) acc) #[zg hD,zb,by simp only [List.take_zero,List.map_nil,Iss]] (fun i acc H' _ h=>h.1.seq hTs) ?_ ?_]
  ·refine nm4 ?_;rintro i x acc H' hx ⟨hs,hH,hA⟩:_;have hi:i < ts.length:=by have:=(ae.mp hx).1; simpa using this
   rw [List.getElem?_reverse hi]at hx;obtain ⟨s,ps,hsi,rfl,hqs⟩:=wt hJ hx;have hsr:ss.reverse[i]? = some s:=by rw [List.getElem?_reverse ⋯,<- hsi,htl]
   have hal:=hA.len;rw [List.length_map,List.length_take]at hal;right;simp only [ve]
   rfl'
   refine #[xq,_,zm hs hqs,_,rfl,_,zm hs hqs,_,rfl,_,zm hs hqs,_,rfl,_,rfl,⋯,fun p hp=>#[zg hp _ _ hH,⋯,CNx.mk hi #[zA (hs.trans (zg hp)) hD,zb,?_]]];rw [Ue hsr,List.map_append];exact uw hH hA hp W9 (xK _) (by simp only [zS,y2,and_self])
  ·rintro acc H' ⟨hs,hH,hA⟩;rw [htl,<- hbl,List.take_length]at hA;exact q D H' hD hs #[acc,hH,hA]
def vW (K:PySem.W.Frag):Sp:=fun vs H Q _=>∃ (t:Addr) (ss:List Stp) (z:Int),vs = [.ref t,.int z] /\ Is K H (.lst (ss.map dSt)) (.ref t) /\ ss.length <= 1000 /\ ∀ (D:Addr) (H':Hp),H D = none -> Same H H' -> LsA K H' D ((mvL ss z).map dSt) -> Q (.ref D) H'
theorem uZ {t:Addr} {ss:List Stp} {z:Int} {H:Hp} {Q:VK} {E:XK} (h1:Is K H (.lst (ss.map dSt)) (.ref t)) (h2:ss.length <= 1000) (h:∀ (D:Addr) (H':Hp),H D = none -> Same H H' -> LsA K H' D ((mvL ss z).map dSt) -> Q (.ref D) H'):vW K [.ref t,.int z] H Q E:=#[t,ss,z,rfl,h1,h2,h]
theorem XY:sQz 2 ["steps", "size"] uj:=by nofun
theorem Xv {f:Addr} {fd:FuncData} (B:Bt mg)  (F:("moved"^^^uj))  :(1&&&["steps", "size"]) (vW K):=by
 refine F.ok XY (fun vs H Q E h=>?_) (fun cdv A outer s H vs Q E hr h=>?_)
 ·obtain ⟨t,ss,z,rfl,_⟩:=h;rfl
 ·obtain ⟨t,ss,z,rfl,hT,hsl,q⟩:=h;refine #[_,(zf (zo (wg (own:=["step"]) (caps:=["size"]) (ix:=[1]) (tt:=ve) (te:=(Xt (zM (tOp (vj K) (yf 0) (tC (.int 0))) (zM (tOp ZO (tOp (vj K) (yf 0) (tC (.int 1))) (yf 1)) (zM (tOp (vj K) (yf 0) (tC (.int 2))) xu))))) rfl (z9 (sc:=ze uj) rfl (by symm) (by symm) (by symm) rfl (by symm) (by symm) rfl) (yi (pv 0)) (fun _ _ _ _ _ _=>zF (i:=0) (show List.Nodup [_,_] by decide) rfl (.inl rfl)) (fun _ _ _ _ _ _=>yT) (fun _ _ _ _ _ _=>(z5 (za (zp ix_tup (pv 0) zd) (za (zr VE (zp ix_tup (pv 0) zd) (pv 1)) (za (zp ix_tup (pv 0) zd) zc)))))))),?_];have s16:=yt
  rfl'
  simp only [Is]at hT;obtain ⟨_,ts,e,hTs,hJ⟩:=hT;cases e;have htl:=hJ.len;rw [List.length_map]at htl;have hbl:(mvL ss z).length = ss.length:=by simp [mvL]
  refine #[#[ts,hTs],fun D hD=>CompL.by (xs:=ts) (fun i acc H'=>Same H H' /\ H' D = some (.lst acc) /\ Iss K H' (((mvL ss z).take i).map dSt) acc) #[zg hD,zb,by simp only [List.take_zero,List.map_nil,Iss]] (fun i acc H' _ h=>h.1.seq hTs) ?_ ?_]
  ·refine nm4 ?_;rintro i x acc H' hx ⟨hs,hH,hA⟩:_;have hi:=(ae.mp hx).1;obtain ⟨s,ps,hsi,rfl,hqs⟩:=wt hJ hx;have hm:(mvL ss z)[i]? = some (s.1,s.2.1 + z,s.2.2):=by unfold mvL; rw [List.getElem?_map,hsi]; rfl
   have hal:=hA.len;rw [List.length_map,List.length_take]at hal;right;simp only [ve]
   rfl'
   refine #[xq,_,zm hs hqs,_,rfl,_,zm hs hqs,_,rfl,_,zm hs hqs,_,rfl,⋯,fun p hp=>#[zg hp _ _ hH,⋯,CNx.mk hi #[zA (hs.trans (zg hp)) hD,zb,?_]]];rw [zR hm,List.map_append];exact uw hH hA hp W9 (xK _) (by simp only [zS,y2,and_self])
  ·rintro acc H' ⟨hs,hH,hA⟩;rw [htl,<- hbl,List.take_length]at hA;exact q D H' hD hs #[acc,hH,hA]
noncomputable abbrev Ent:=() × () × List Stp
noncomputable def dE (e:Ent):L3.D:=.tup [dS e.1,dS e.2.1,.lst (e.2.2.map dSt)]
noncomputable def WI (es:List Ent) (u:Stp):List Stp:=mvL (if u.2.2 = true then (es.getD u.1.toNat ([],[],[])).2.2 else yR (es.getD u.1.toNat ([],[],[])).2.2) u.2.1
noncomputable def byL (es:List Ent) (us:List Stp):List Stp:=us.flatMap (WI es)
theorem U9 {H:Hp} {e:Ent} {v:V} (h:Is K H (dE e) v):∃ p s,v = .ref p /\ SqT K H p [.str (tx e.1),.str (tx e.2.1),.ref s] /\ Is K H (.lst (e.2.2.map dSt)) (.ref s):=by
 simp only [dE,Is,Iss]at h;obtain ⟨a,xs,e0,hs,v1,r1,rfl,rfl,v2,r2,rfl,rfl,v3,r3,rfl,⟨s,zs,rfl,h1,h2⟩,rfl⟩:=h;refine #[a,s,e0,hs,?_];simp only [Is];exact #[s,zs,rfl,h1,h2]
theorem zah {H:Hp} {es:List Ent} {xs:List V} {i:Int} (hI:Iss K H (es.map dE) xs) (h0:0 <= i) (hi:i < es.length):∃ p s,atI xs i = some (.ref p) /\ es[i.toNat]? = some (es.getD i.toNat ([],[],[])) /\ SqT K H p [.str (tx (es.getD i.toNat ([],[],[])).1),.str (tx (es.getD i.toNat ([],[],[])).2.1),.ref s] /\ Is K H (.lst ((es.getD i.toNat ([],[],[])).2.2.map dSt)) (.ref s):=by
 have hl:=hI.len;rw [List.length_map]at hl;obtain ⟨v,a1,b1⟩:=vI (xs:=xs) (i:=i) h0 ⋯;obtain ⟨d,e,ix⟩:=hI.get b1;rw [List.getElem?_map]at e;obtain ⟨r,hr,rfl⟩:=ak.mp e;have e:es.getD i.toNat ([],[],[]) = r:=by rw [List.getD_eq_getElem?_getD,hr]; rfl
 rw [e];obtain ⟨p,s,rfl,h2,h3⟩:=U9 ix;exact #[p,s,a1,hr,h2,h3]
theorem Zx (ss:List Stp) (z:Int):(mvL ss z).length = ss.length:=by simp [mvL]
theorem xj (ss:List Stp):(yR ss).length = ss.length:=by simp [yR]
def V3 (K:PySem.W.Frag):Sp:=fun vs H Q _=>∃ (a t:Addr) (es:List Ent) (us:List Stp),vs = [.ref a,.ref t] /\ Is K H (.lst (es.map dE)) (.ref a) /\ Is K H (.lst (us.map dSt)) (.ref t) /\ us.length <= 100 /\ (∀ e ∈ es,e.2.2.length <= 600) /\ (∀ u ∈ us,0 <= u.1 /\ u.1 < es.length) /\ ∀ (D:Addr) (H':Hp),H D = none -> Same H H' -> LsA K H' D ((byL es us).map dSt) -> Q (.ref D) H'
theorem sc_by_pacts:sQz 2 ["entries", "steps", "chain", "step", "own"] wb:=by nofun
theorem qQ {f:Addr} {fd:FuncData} (B:Bt mg)  (F:("by_pacts"^^^wb)) (D_moved:(1<<<"moved") ["steps", "size"] [] (vW K)) (D_back:(1<<<"back") ["steps"] [] (vh K)):(2&&&["entries", "steps"]) (V3 K):=by
 refine F.ok sc_by_pacts (fun vs H Q E h=>?_) (fun cdv A outer s H vs Q E hr h=>?_)
 ·obtain ⟨a,t,es,us,rfl,_⟩:=h;rfl
 ·obtain ⟨a,t,es,us,rfl,hE,hU,hul,hel,hub,q⟩:=h
  refine #[_,(zj (zw 2 sc_by_pacts.nd (wk zc))
   (zj (yH PassesOwn.never rfl (yi (pv 1)) (zF (i:=3) sc_by_pacts.nd rfl (.inl rfl))
    (zj (zw 4 sc_by_pacts.nd (zp ix_tup (zp ix_list (pv 0) (zp ix_tup (pv 3) zd)) zd))
    (zf (yQ (wW PySem.F.plainAttrs_list PySem.F.slot_list_extend PySem.F.type_list_extend Zb (pv 2) (za (cl0 D_moved hr .nil rfl (za (XZ (xA (zp ix_tup (pv 3) zd) (fun _=>rfl)) (pv 4) (cl0 D_back hr .nil rfl (za (pv 4) zc))) (za (zp ix_tup (pv 3) zd) zc))) zc))))))
   (zf (zo (pv 2))))),?_]
  have s16:=yt;have hE':=hE;have hU':=hU;simp only [Is]at hE' hU';obtain ⟨_,xs,e,hX,hI⟩:=hE';cases e;obtain ⟨_,ts,e,hTs,hJ⟩:=hU';cases e;have htl:=hJ.len;rw [List.length_map]at htl;refine zl (fun σ H'=>∃ D,H D = none /\ Same H H' /\ H' D = some (.lst []) /\ σ = [!!a,!!t,!!D,none,none]) ?_ ?_
  ·rfl'
   exact #[⋯,fun p hp=>#[p,hp,zg hp,zb,rfl]]
  rintro σ H1 ⟨D,hD,s1,hD1,rfl⟩:_;right;refine zl (fun σ H'=>Same H H' /\ LsA K H' D ((byL es us).map dSt) /\ ∃ v3 v4,σ = [!!a,!!t,!!D,v3,v4]) ?_ ?_
  ·rfl'
   refine #[#[_,s1.seq hTs],ForL.by (xs:=ts) (fun i σ H'=>Same H H' /\ LsA K H' D ((byL es (us.take i)).map dSt) /\ (byL es (us.take i)).length <= i * 600 /\ ∃ v3 v4,σ = [!!a,!!t,!!D,v3,v4]) #[s1,#[[],hD1,by simp only [List.take_zero,byL,List.flatMap_nil,List.map_nil,Iss]],by simp [byL],_,_,rfl] (fun i σ H' _ h=>h.1.seq hTs) ?_ ?_]
   ·refine nm4 ?_;rintro i x σ H' hx ⟨hs,hL,hl,v3,v4,rfl⟩:_;obtain ⟨u,pu,hui,rfl,hqu⟩:=wt hJ hx;have hil:=(ae.mp hui).1;obtain ⟨u0,u1⟩:=hub u (List.mem_of_getElem? hui);obtain ⟨pe,se,g1,g2,g3,g4⟩:=zah hI u0 u1;have hle:=hel _ (List.mem_of_getElem? g2)
    have hby:byL es (us.take (i + 1)) = byL es (us.take i) ++ WI es u:=by
     unfold byL;rw [zR hui,List.flatMap_append];simp
    right;simp only [yW,List.set_cons_succ,List.set_cons_zero];refine zl (fun σ H''=>H'' = H' /\ σ = [!!a,!!t,!!D,!!pu,!!se]) ?_ ?_
    ·rfl'
     exact #[_,zm hs hqu,_,rfl,_,rfl,_,hs.seq hX,_,g1,_,rfl,_,zm hs g3,rfl]
    rintro σ G ⟨rfl,rfl⟩:_;obtain ⟨zs,hZ,hZI⟩:=id hL;have hzl:=hZI.len;rw [List.length_map]at hzl;have hse:=Is.same hs _ _ g4
    have fin:∀ (ws:List Stp) (M:Addr) (G2:Hp),WI es u = ws -> ws.length <= 600 -> Same G G2 -> LsA K G2 M (ws.map dSt) -> Za (V.ref D) [V.ref M] G2 fun x H1=>Same H H1 /\ LsA K H1 D ((byL es (us.take (i + 1))).map dSt) /\ (byL es (us.take (i + 1))).length <=(i + 1) * 600:=fun ws M G2 ew hwl sg hM=>by
     obtain ⟨ys,hY,hYI⟩:=hM;have hyl:=hYI.len;rw [List.length_map]at hyl;have hZ2:=sg _ _ hZ;refine #[D,M,zs,ys,rfl,rfl,hZ2,hY,⋯,zA (hs.trans sg) hD,#[_,zb,?_],?_]
     ·rw [hby,ew,List.map_append];exact Iss.append (Iss.updL hZ2 _ _ (xK _) (Iss.same sg _ _ hZI)) (Iss.updL hZ2 _ _ (xK _) hYI)
     ·rw [hby,ew,List.length_append];lia
    right
    rfl'
    refine #[.inl #[_,SqL.of hZ],_,zm hs hqu,_,rfl,_,rfl,xC (fun hf=>#[_,zm hs hqu,_,rfl,uZ hse ⋯ fun M G2 _ sg hM=>fin _ M G2 (by unfold WI; rw [if_pos hf]) (by rw [Zx]; lia) sg hM]) fun hf=>uu hse ⋯ fun M0 G1 _ sg0 hM0=>#[_,zm (hs.trans sg0) hqu,_,rfl,uZ hM0.is (by rw [xj]; lia) fun M G2 _ sg hM=>fin _ M G2 (by unfold WI; rw [if_neg hf]) (by rw [Zx,xj]; lia) (sg0.trans sg) hM]]
   ·rintro σ H' ⟨hs,hL,hl,v3,v4,rfl⟩;rw [htl,List.take_length]at hL;exact #[hs,hL,_,_,rfl]
  rintro σ H2 ⟨s2,hL2,v3,v4,rfl⟩:_;right
  rfl'
  exact q D H2 hD s2 hL2
noncomputable def zh (es:List Ent):List zE:=es.map fun e=>(e.1,e.2.1)
noncomputable def hide (D:Addr) (H:Hp):Hp:=fun b=>if b = D then none else H b
theorem zt {D b:Addr} {H:Hp} (h:b ≠ D):hide D H b = H b:=by unfold hide; rw [if_neg h]
theorem zQ {D:Addr} {H:Hp}:hide D H D = none:=by unfold hide; rw [if_pos rfl]
theorem hide_same {D:Addr} {H:Hp}:Same (hide D H) H:=fun b o e=>by
 by_cases hb:b = D
 ·rw [hb,zQ]at e; cases e
 ·rw [zt hb]at e; exact e
theorem w8 {D:Addr} {H H':Hp} (hD:H D = none) (s:Same H H'):Same H (hide D H'):=fun b o e=>by
 have hb:b ≠ D:=fun z=>by rw [z,hD]at e; cases e
 rw [zt hb];exact s _ _ e
theorem zJ {D:Addr} {H H':Hp} (s:Same H H'):Same (hide D H) (hide D H'):=fun b o e=>by
 by_cases hb:b = D
 ·rw [hb,zQ]at e; cases e
 ·rw [zt hb]at e ⊢; exact s _ _ e
theorem yS {D:Addr} {H:Hp} {o:HO}:Same (hide D H) (hide D (upd H D o)):=fun b o' e=>by
 by_cases hb:b = D
 ·rw [hb,zQ]at e; cases e
 ·rw [zt hb]at e ⊢; rw [zk hb]; exact e
theorem Yv {D a:Addr} {H:Hp} {xs ys:List V} (hD:H D = some (.lst ys)) (h:SqT K H a xs):SqT K (hide D H) a xs:=by
 rcases h with (h | ⟨o,h⟩) | h
 ·exact .inl (.inl (by rw [zt (fun e=>by rw [e,hD]at h; cases h)]; exact h))
 ·exact .inl (.inr #[o,by rw [zt (fun e=>by rw [e,hD]at h; cases h)]; exact h])
 ·exact .inr h
theorem ud {D:Addr} {H:Hp} {ys:List V} (hD:H D = some (.lst ys)):∀ (ss:List Stp) (vs:List V),Iss K H (ss.map dSt) vs -> Iss K (hide D H) (ss.map dSt) vs
 | [],vs,h=>by simp only [List.map_nil,Iss]at h ⊢; exact h
 | s :: ss,vs,h=>by
  simp only [List.map_cons,Iss]at h ⊢;obtain ⟨v,r,rfl,h1,h2⟩:=h;obtain ⟨p,rfl,h3⟩:=WS h1;exact #[_,r,rfl,Qo (Yv hD h3),ud hD ss r h2]
theorem Jx {H:Hp} {p s:Addr} {e:Ent} (h1:SqT K H p [.str (tx e.1),.str (tx e.2.1),.ref s]) (h2:Is K H (.lst (e.2.2.map dSt)) (.ref s)):Is K H (dE e) (.ref p):=by
 simp only [dE,Is,Iss];simp only [Is]at h2;exact #[p,_,rfl,h1,_,_,rfl,rfl,_,_,rfl,rfl,_,_,rfl,h2,rfl]
theorem j5 {H:Hp} {es:List Ent} {vs:List V} {j:Nat} {v:V} (h:Iss K H (es.map dE) vs) (q:vs[j]? = some v):∃ e p s,es[j]? = some e /\ v = .ref p /\ SqT K H p [.str (tx e.1),.str (tx e.2.1),.ref s] /\ Is K H (.lst (e.2.2.map dSt)) (.ref s):=by
 obtain ⟨d,e,i⟩:=h.get q;rw [List.getElem?_map]at e;obtain ⟨r,hr,rfl⟩:=ak.mp e;obtain ⟨p,s,e1,e2,e3⟩:=U9 i;exact #[r,p,s,hr,e1,e2,e3]
def EnA (K:PySem.W.Frag) (H:Hp) (e:Ent) (v:V):Prop:=∃ p s,v = .ref p /\ SqT K H p [.str (tx e.1),.str (tx e.2.1),.ref s] /\ LsA K H s (e.2.2.map dSt)
def EnsA (K:PySem.W.Frag) (H:Hp):List Ent -> List V -> Prop
 | [],vs=>vs = []
 | e :: es,vs=>∃ v r,vs = v :: r /\ EnA K H e v /\ EnsA K H es r
def EnsL (K:PySem.W.Frag) (H:Hp) (a:Addr) (es:List Ent):Prop:=∃ xs,SqL K H a xs /\ EnsA K H es xs
def EnsM (K:PySem.W.Frag) (H:Hp) (a:Addr) (es:List Ent):Prop:=∃ xs,H a = some (.lst xs) /\ EnsA K H es xs
theorem EnA.is {H:Hp} {e:Ent} {v:V} (h:EnA K H e v):Is K H (dE e) v:=by
 obtain ⟨p,s,rfl,h1,h2⟩:=h;exact Jx h1 h2.is
theorem EnA.same {H H':Hp} {e:Ent} {v:V} (h:EnA K H e v) (q:Same H H'):EnA K H' e v:=by
 obtain ⟨p,s,e0,h1,h2⟩:=h;exact #[p,s,e0,zm q h1,h2.same q]
theorem EnsA.iss {H:Hp}:∀ {es:List Ent} {vs:List V},EnsA K H es vs -> Iss K H (es.map dE) vs
 | [],vs,h=>by simp only [EnsA]at h; simp only [List.map_nil,Iss]; exact h
 | e :: es,vs,h=>by
  simp only [EnsA]at h;obtain ⟨v,r,rfl,h1,h2⟩:=h;simp only [List.map_cons,Iss];exact #[v,r,rfl,h1.is,h2.iss]
theorem EnsA.len {H:Hp} {es:List Ent} {vs:List V} (h:EnsA K H es vs):vs.length = es.length:=by
 have:=h.iss.len;rw [List.length_map]at this;exact this
theorem EnsA.same {H H':Hp} (q:Same H H'):∀ {es:List Ent} {vs:List V},EnsA K H es vs -> EnsA K H' es vs
 | [],vs,h=>by simp only [EnsA]at h ⊢; exact h
 | e :: es,vs,h=>by
  simp only [EnsA]at h ⊢;obtain ⟨v,r,e0,h1,h2⟩:=h;exact #[v,r,e0,h1.same q,h2.same q]
theorem EnsA.snoc {H:Hp} {e:Ent} {v:V} (hv:EnA K H e v):∀ {es:List Ent} {vs:List V},EnsA K H es vs -> EnsA K H (es ++ [e]) (vs ++ [v])
 | [],vs,h=>by
  simp only [EnsA]at h;subst h;simp only [List.nil_append,EnsA];exact #[v,[],rfl,hv,rfl]
 | e' :: es,vs,h=>by
  simp only [EnsA]at h;obtain ⟨x,r,rfl,hx,hr⟩:=h;simp only [List.cons_append,EnsA];exact #[x,r ++ [v],rfl,hx,hr.snoc hv]
theorem EnsA.get {H:Hp}:∀ {es:List Ent} {vs:List V} {j:Nat} {v:V},EnsA K H es vs -> vs[j]? = some v -> ∃ e p s,es[j]? = some e /\ v = .ref p /\ SqT K H p [.str (tx e.1),.str (tx e.2.1),.ref s] /\ LsA K H s (e.2.2.map dSt)
 | [],vs,j,v,h,q=>by
  simp only [EnsA]at h;subst h;simp at q
 | e :: es,vs,0,v,h,q=>by
  simp only [EnsA]at h;obtain ⟨x,r,rfl,⟨p,s,rfl,h1,h2⟩,_⟩:=h;cases q;exact #[e,p,s,rfl,rfl,h1,h2]
 | e :: es,vs,j + 1,v,h,q=>by
  simp only [EnsA]at h;obtain ⟨x,r,rfl,_,hr⟩:=h;exact hr.get (j:=j) (by simpa using q)
theorem EnsL.is {H:Hp} {a:Addr} {es:List Ent} (h:EnsL K H a es):Is K H (.lst (es.map dE)) (.ref a):=by
 obtain ⟨xs,h1,h2⟩:=h;simp only [Is];exact #[a,xs,rfl,h1,h2.iss]
theorem EnsM.l {H:Hp} {a:Addr} {es:List Ent} (h:EnsM K H a es):EnsL K H a es:=by
 obtain ⟨xs,h1,h2⟩:=h;exact #[xs,SqL.of h1,h2]
theorem EnsM.same {H H':Hp} {a:Addr} {es:List Ent} (h:EnsM K H a es) (q:Same H H'):EnsM K H' a es:=by
 obtain ⟨xs,h1,h2⟩:=h;exact #[xs,q _ _ h1,h2.same q]
theorem EnA.new {D p s:Addr} {H:Hp} {e:Ent} {ys:List V} (hD:H D = some (.lst ys)) (hp:H p = some (.tup [.str (tx e.1),.str (tx e.2.1),.ref s])) (hs:LsA K H s (e.2.2.map dSt)) (hsD:s ≠ D):EnA K (hide D H) e (.ref p):=by
 obtain ⟨zs,hz,hi⟩:=hs;have hpD:p ≠ D:=fun z=>by rw [z,hD]at hp; cases hp
 exact #[p,s,rfl,SqT.of (by rw [zt hpD]; exact hp),zs,by rw [zt hsD]; exact hz,ud hD _ _ hi]
theorem qH (es:List Ent):(zh es).length = es.length:=by unfold zh; rw [List.length_map]
def wx (K:PySem.W.Frag):Sp:=fun vs H Q _=>∃ (a:Addr) (es:List Ent),vs = [.ref a] /\ Is K H (.lst (es.map dE)) (.ref a) /\ es.length <= 1000 /\ ∀ (D:Addr) (H':Hp),H D = none -> Same H H' -> LsA K H' D ((zh es).map dR) -> Q (.ref D) H'
theorem wG {a:Addr} {es:List Ent} {H:Hp} {Q:VK} {E:XK} (h1:Is K H (.lst (es.map dE)) (.ref a)) (h2:es.length <= 1000) (h:∀ (D:Addr) (H':Hp),H D = none -> Same H H' -> LsA K H' D ((zh es).map dR) -> Q (.ref D) H'):wx K [.ref a] H Q E:=#[a,es,rfl,h1,h2,h]
theorem qY:sQz 1 ["entries"] xh:=by nofun
theorem qT {f:Addr} {fd:FuncData} (B:Bt mg)  (F:("pairs_of"^^^xh))  :(1&&&["entries"]) (wx K):=by
 refine F.ok qY (fun vs H Q E h=>?_) (fun cdv A outer s H vs Q E hr h=>?_)
 ·obtain ⟨a,es,rfl,_⟩:=h;rfl
 ·obtain ⟨a,es,rfl,hA,hl,q⟩:=h;refine #[_,(zf (zo (wg (own:=["entry"]) (caps:=[]) (ix:=[]) (tt:=ve) (te:=(Xt (zM (tOp (vj K) (yf 0) (tC (.int 0))) (zM (tOp (vj K) (yf 0) (tC (.int 1))) xu)))) rfl (z9 (sc:=ze xh) rfl (by symm) (by symm) (by symm) rfl (by symm) (by symm) rfl) (yi (pv 0)) (fun _ _ _ _ _ _=>zF (i:=0) (show List.Nodup [_] by decide) rfl (.inl rfl)) (fun _ _ _ _ _ _=>yT) (fun _ _ _ _ _ _=>(z5 (za (zp ix_tup (pv 0) zd) (za (zp ix_tup (pv 0) zd) zc))))))),?_];have s16:=yt
  rfl'
  simp only [Is]at hA;obtain ⟨_,xs,e,hX,hI⟩:=hA;cases e;have hxl:=hI.len;rw [List.length_map]at hxl;have hpl:=qH es;refine #[#[xs,hX],fun D hD=>CompL.by (xs:=xs) (fun i acc H'=>Same H H' /\ H' D = some (.lst acc) /\ Iss K H' (((zh es).take i).map dR) acc) #[zg hD,zb,by simp only [List.take_zero,List.map_nil,Iss]] (fun i acc H' _ h=>h.1.seq hX) ?_ ?_]
  ·refine nm4 ?_;rintro i x acc H' hx ⟨hs,hH,hA⟩:_;have hi:=(ae.mp hx).1;obtain ⟨e,pe,se,hei,rfl,hqe,_⟩:=j5 hI hx;have hm:(zh es)[i]? = some (e.1,e.2.1):=by unfold zh; rw [List.getElem?_map,hei]; rfl
   have hal:=hA.len;rw [List.length_map,List.length_take]at hal;right;simp only [ve]
   rfl'
   refine #[xq,_,zm hs hqe,_,rfl,_,zm hs hqe,_,rfl,⋯,fun p hp=>#[zg hp _ _ hH,⋯,CNx.mk hi #[zA (hs.trans (zg hp)) hD,zb,?_]]];rw [zR hm,List.map_append];exact uw hH hA hp J8 (Xi _) (by simp only [zS,y2,and_self])
  ·rintro acc H' ⟨hs,hH,hA⟩;rw [hxl,<- hpl,List.take_length]at hA;exact q D H' hD hs #[acc,hH,hA]
noncomputable def zU (k:Nat) (l:()) (ns:List Int) (e:Ent):Ent:=if ye k l ns e.2.1 e.1 = true then e else (e.2.1,e.1,yR e.2.2)
structure EB (l:()) (e:Ent):Prop where
 a:e.1.length <= 60
 b:e.2.1.length <= 60
 s:e.2.2.length <= 600
 ma:∀ c ∈ e.1,c ∈ l
 mb:∀ c ∈ e.2.1,c ∈ l
theorem EB.rule {k:Nat} {l:()} {ns:List Int} {e:Ent} (h:EB l e):EB l (zU k l ns e):=by
 unfold zU;split
 ·exact h
 ·exact #[h.b,h.a,by rw [xj]; exact h.s,h.mb,h.ma]
def y6 (K:PySem.W.Frag) (CO CR CW:Addr):Sp:=fun vs H Q _=>∃ (o p s:Addr) (k:Nat) (l:()) (ns:List Int) (e:Ent),vs = [.ref o,.ref p] /\ OrdAt CO CR CW H o k l ns /\ OG l ns k /\ SqT K H p [.str (tx e.1),.str (tx e.2.1),.ref s] /\ Is K H (.lst (e.2.2.map dSt)) (.ref s) /\ EB l e /\
 (zU k l ns e = e -> ∀ H',Same H H' -> Q (.ref p) H') /\
 (∀ (p' s':Addr) (H':Hp),Same H H' -> H s' = none -> H' p' = some (.tup [.str (tx (zU k l ns e).1),.str (tx (zU k l ns e).2.1),.ref s']) -> LsA K H' s' ((zU k l ns e).2.2.map dSt) -> Q (.ref p') H')
theorem vB {CO CR CW o p s:Addr} {k:Nat} {l:()} {ns:List Int} {e:Ent} {H:Hp} {Q:VK} {E:XK} (h1:OrdAt CO CR CW H o k l ns) (h2:OG l ns k) (h3:SqT K H p [.str (tx e.1),.str (tx e.2.1),.ref s]) (h4:Is K H (.lst (e.2.2.map dSt)) (.ref s)) (h5:EB l e)
  (h6:zU k l ns e = e -> ∀ H',Same H H' -> Q (.ref p) H') (h7:∀ (p' s':Addr) (H':Hp),Same H H' -> H s' = none -> H' p' = some (.tup [.str (tx (zU k l ns e).1),.str (tx (zU k l ns e).2.1),.ref s']) -> LsA K H' s' ((zU k l ns e).2.2.map dSt) -> Q (.ref p') H'):y6 K CO CR CW [.ref o,.ref p] H Q E :=
 #[o,p,s,k,l,ns,e,rfl,h1,h2,h3,h4,h5,h6,h7]
theorem kq:sQz 2 ["order", "entry"] vf:=by nofun
theorem kG {f CO CR CW:Addr} {fd:FuncData} (B:Bt mg) (DBk:DB P w K mg base CO CR CW) (F:("as_rule"^^^vf)) (D_back:(1<<<"back") ["steps"] [] (vh K)):(4&&&["order", "entry"]) (y6 K CO CR CW):=by
 refine F.ok kq (fun vs H Q E h=>?_) (fun cdv A outer s H vs Q E hr h=>?_)
 ·obtain ⟨o,p,s,k,l,ns,e,rfl,_⟩:=h;rfl
 ·obtain ⟨o,p,s,k,l,ns,e,rfl,ho,hG,hp,hs,hE,q1,q2⟩:=h
  refine #[_,(zy (yb (xA (QC DBk hr (pv 0) (za (zp ix_tup (pv 1) zd) (za (zp ix_tup (pv 1) zd) zc))) (fun _=>rfl))
    (zf (zo (pv 1)))
    zu)
   (zf (zo (z5 (za (zp ix_tup (pv 1) zd) (za (zp ix_tup (pv 1) zd) (za (cl0 D_back hr .nil rfl (za (zp ix_tup (pv 1) zd) zc)) zc))))))),?_]
  have s16:=yt
  repeat (first | rfl' | simp only [xl,zB,zZ,xz,xB,zD])
  obtain ⟨C,dx,fs,hf,ho1,hn,_⟩:=ho.fam;have h1:fs.lookup ("before" : Str) = none:=hn _ ∅ ∅;refine #[C,hf,dx,fs,ho1,h1,_,hp,_,rfl,_,hp,_,rfl,o,k,l,ns,e.2.1,e.1,rfl,ho,hG,by have:=hE.b; lia,by have:=hE.a; lia,hE.mb,hE.ma,fun H1 s1=>#[_,rfl,xC (fun h=>?_) fun h=>?_]]
  ·exact q1 (by unfold zU; rw [if_pos h]) H1 s1
  ·have er:zU k l ns e =(e.2.1,e.1,yR e.2.2):=by unfold zU; rw [if_neg h]
   rw [er]at q2;have hp1:=zm s1 hp;refine #[_,hp1,_,rfl,_,hp1,_,rfl,_,hp1,_,rfl,uu (Is.same s1 _ _ hs) (by have:=hE.s; lia) fun D H2 hD s2 hL=>#[⋯,fun t ht=>?_]];exact q2 t D _ (s1.trans (s2.trans (zg ht))) (s1.free hD) zb (hL.same (zg ht))
theorem jt {l:()} {ns:List Int} {w:()} (hb:∀ n ∈ ns,1 <= n /\ n <= 1000000):0 <= Jt l ns w:=by
 unfold Jt
 have key:∀ xs:List Int,(∀ x ∈ xs,0 <= x) -> 0 <= xs.sum:=by
  intro xs
  induction xs with
  | nil=>intro _; simp
  | cons x xs ih =>
   intro h;rw [List.sum_cons];have h1:=h x List.mem_cons_self;have h2:=ih fun y hy=>h y (List.mem_cons_of_mem _ hy);lia
 refine key _ fun x hx=>?_;obtain ⟨p,hp,rfl⟩:=aa.mp hx;have h1:=(hb p.2 (List.of_mem_zip (show (p.1,p.2) ∈ l.zip ns from hp)).2).1;exact Int.mul_nonneg ⋯ ⋯
theorem Ub {k:Nat} {l:()} {ns:List Int} {u v:()} (hb:∀ n ∈ ns,1 <= n /\ n <= 1000000) (h:ye k l ns u v = true):v ≠ []:=by
 intro e;subst e
 have h0:zx k l ns [] = 0:=by
  unfold zx;split
  ·unfold Jt
   have z:∀ xs:List (Nat × Int),(xs.map fun p=>(([]:()).count p.1:Int) * p.2).sum = 0:=by
    intro xs
    induction xs with
    | nil=>rfl
    | cons x xs ih=>rw [List.map_cons,List.sum_cons,ih]; simp
   exact z _
  ·rfl
 have h1:0 <= zx k l ns u:=by
  unfold zx;split
  ·exact jt hb
  ·lia
 have h2:z7 k l [] = []:=by
  unfold z7 ya;split <;> rfl
 unfold ye at h;rw [h0,h2]at h;split at h
 ·cases hr:z7 k l u with
  | nil=>rw [hr]at h; cases h
  | cons a r=>rw [hr]at h; cases h
 ·have:=of_decide_eq_true h;lia
theorem Zm {k:Nat} {l:()} {ns:List Int} {e:Ent} (hE:EB l e) (hne:e.1 ≠ e.2.1):ye k l ns (zU k l ns e).2.1 (zU k l ns e).1 = true:=by
 unfold zU;by_cases h:ye k l ns e.2.1 e.1 = true
 ·rw [if_pos h];exact h
 ·rw [if_neg h];have:=wK (k:=k) (ns:=ns) hE.ma hE.mb hne;show ye k l ns e.1 e.2.1 = true;rw [this];simpa using h
noncomputable def zY (k:Nat) (l:()) (ns:List Int) (es:List Ent):List Ent:=(es.filter fun e=>!decide (e.1 = e.2.1)).map (zU k l ns)
theorem Z2 (k:Nat) (l:()) (ns:List Int) (es fs:List Ent):zY k l ns (es ++ fs) = zY k l ns es ++ zY k l ns fs:=by
 unfold zY;rw [List.filter_append,List.map_append]
theorem xX (k:Nat) (l:()) (ns:List Int) (es:List Ent):(zY k l ns es).length <= es.length:=by
 unfold zY;rw [List.length_map];exact List.length_filter_le _ _
noncomputable def yD (k:Nat) (l:()) (ns:List Int) (a b:Ent):Bool:=if a.1 = b.1 then ye k l ns a.2.1 b.2.1 else ye k l ns a.1 b.1
structure Lined (k:Nat) (l:()) (ns:List Int) (es zs:List Ent):Prop where
 perm:zs.Perm (zY k l ns es)
 srt:zs.Pairwise fun a b=>yD k l ns b a = false
 is:zs = L3.srt (yD k l ns) ([],[],[]) (zY k l ns es)
structure EndsAt (ps:List zE) (w:()) (i:Nat):Prop where
 live:WL ps w i
 end_:zC (wAt ps w i) ps = none
 most:i <= 40
theorem UK (ps:List zE) (w:()):(∃ i,EndsAt ps w i) \/ (WL ps w 40 /\ zC (wAt ps w 40) ps ≠ none):=by
 have key:∀ n,n <= 41 -> (∃ i,EndsAt ps w i) \/ WL ps w n:=by
  intro n
  induction n with
  | zero=>intro _; exact .inr fun i h=>absurd h (Nat.not_lt_zero i)
  | succ n ih =>
   intro hn;rcases ih ⋯ with h | h
   ·exact .inl h
   ·cases e:zC (wAt ps w n) ps with
    | none=>exact .inl #[n,h,e,⋯]
    | some u =>
     refine .inr fun i hi=>?_;by_cases hin:i = n
     ·rw [hin,e];intro z;cases z
     ·exact h i ⋯
 rcases key 41 (Nat.le_refl _)with h | h
 ·exact .inl h
 ·exact .inr #[fun i hi=>h i ⋯,h 40 ∅]
theorem EndsAt.uniq {ps:List zE} {w:()} {i j:Nat} (h1:EndsAt ps w i) (h2:EndsAt ps w j):i = j:=X6 h1.live h1.end_ h2.live h2.end_
noncomputable def stS (us:List (Nat × Nat)):List Stp:=us.map fun u=>((u.1:Int),(u.2:Int),true)
noncomputable def yq (bs:List Ent) (e:Ent) (i j:Nat):Ent:=(wAt (zh bs) e.1 i,wAt (zh bs) e.2.1 j,byL bs (yR (stS (sAt (zh bs) e.1 i))) ++ e.2.2 ++ byL bs (stS (sAt (zh bs) e.2.1 j)))
def ku (e:Ent):Prop:=240 < e.2.2.length \/ 60 < e.1.length \/ 60 < e.2.1.length
inductive yJ (k:Nat) (l:()) (ns:List Int):List Ent -> List Ent -> Option (List Ent) -> Prop where
 | nil (bs:List Ent):yJ k l ns bs [] (some bs)
 | same {bs es:List Ent} {e:Ent} {i j:Nat} {r:Option (List Ent)} (h1:EndsAt (zh bs) e.1 i) (h2:EndsAt (zh bs) e.2.1 j) (h3:wAt (zh bs) e.1 i = wAt (zh bs) e.2.1 j) (h4:yJ k l ns bs es r):yJ k l ns bs (e :: es) r
 | new {bs es:List Ent} {e:Ent} {i j:Nat} {r:Option (List Ent)} (h1:EndsAt (zh bs) e.1 i) (h2:EndsAt (zh bs) e.2.1 j) (h3:wAt (zh bs) e.1 i ≠ wAt (zh bs) e.2.1 j) (h4:¬ ku (yq bs e i j)) (h5:yJ k l ns (bs ++ [zU k l ns (yq bs e i j)]) es r):yJ k l ns bs (e :: es) r
 | far {bs es:List Ent} {e:Ent} {i j:Nat} (h1:EndsAt (zh bs) e.1 i) (h2:EndsAt (zh bs) e.2.1 j) (h3:wAt (zh bs) e.1 i ≠ wAt (zh bs) e.2.1 j) (h4:ku (yq bs e i j)):yJ k l ns bs (e :: es) none
 | stuck {bs es:List Ent} {e:Ent} (h:(∀ i,¬ EndsAt (zh bs) e.1 i) \/ (∀ j,¬ EndsAt (zh bs) e.2.1 j)):yJ k l ns bs (e :: es) none
inductive Y2 (k:Nat) (l:()) (ns:List Int):Nat -> List Ent -> Option (List Ent) -> Prop where
 | out (es:List Ent):Y2 k l ns 0 es none
 | bad {n:Nat} {es zs:List Ent} (h1:Lined k l ns es zs) (h2:yJ k l ns [] zs none):Y2 k l ns (n + 1) es none
 | done {n:Nat} {es zs bs:List Ent} (h1:Lined k l ns es zs) (h2:yJ k l ns [] zs (some bs)) (h3:zh bs = zh zs):Y2 k l ns (n + 1) es (some bs)
 | more {n:Nat} {es zs bs:List Ent} {r:Option (List Ent)} (h1:Lined k l ns es zs) (h2:yJ k l ns [] zs (some bs)) (h3:zh bs ≠ zh zs) (h4:Y2 k l ns n bs r):Y2 k l ns (n + 1) es r
theorem yw {ps:List zE} {w:()} {u:Nat × Nat} (h:zC w ps = some u):∃ p,ps[u.1]? = some p /\ zq w (u.2:Int) p.1 = true:=by
 have hm:u ∈ yz w ps w.length:=List.mem_of_mem_head? (by unfold zC at h; rw [h]; rfl);exact (xo (usesK_mem.mp hm).2).2
theorem qV {ps:List zE} {l w:()} (hw:∀ c ∈ w,c ∈ l) (hp:∀ p ∈ ps,∀ c ∈ p.2,c ∈ l):∀ j,∀ c ∈ wAt ps w j,c ∈ l
 | 0=>hw
 | j + 1=>by
  have ih:=qV hw hp j
  cases e:zC (wAt ps w j) ps with
  | none =>
   show ∀ c ∈ V6 ps (wAt ps w j),c ∈ l;unfold V6;rw [e];exact ih
  | some u =>
   obtain ⟨p,h1,h2⟩:=yw e;rw [ww e];unfold kT kX;rw [xQ h1];intro c hc;rcases af.mp hc with hc | hc
   ·rcases af.mp hc with hc | hc
    ·exact ih c (List.mem_of_mem_take hc)
    ·exact hp p (List.mem_of_getElem? h1) c hc
   ·exact ih c (List.mem_of_mem_drop hc)
def Within (p w:()):Prop:=∃ a b:(),w = a ++ p ++ b
theorem Zv {w p:()} {q:Nat} (h:zq w (q:Int) p = true):Within p w:=by
 obtain ⟨e,_⟩:=xO h;exact #[_,_,e.symm]
theorem Z1 {w p:()} (h:Within p w):∃ q:Nat,zq w (q:Int) p = true:=by
 obtain ⟨a,b,rfl⟩:=h;refine #[a.length,?_];unfold zq;refine decide_eq_true #[⋯,by simp only [List.length_append]; lia,?_];rw [Int.toNat_natCast,List.append_assoc,List.drop_left,List.take_left]
theorem VD {ps:List zE} {w:()} (hN:NeL ps) (h:zC w ps = none):∀ p ∈ ps,¬ Within p.1 w:=fun p hp hw=>by
 obtain ⟨q,hq⟩:=Z1 hw;obtain ⟨j,hj⟩:=av.mp hp;have hlt:=vb (hN p hp) hq;have hs:stJ w ps q j = true:=by rw [vq hj]; exact hq
 have:(j,q) ∈ yz w ps w.length:=usesK_mem.mpr #[hlt,hs];unfold zC at h;rw [List.head?_eq_none_iff]at h;rw [h]at this;cases this
structure RL (k:Nat) (l:()) (ns:List Int) (bs:List Ent):Prop where
 e:∀ e ∈ bs,EB l e
 lt:∀ e ∈ bs,ye k l ns e.2.1 e.1 = true
theorem RL.pairs {k:Nat} {l:()} {ns:List Int} {bs:List Ent} (h:RL k l ns bs):∀ p ∈ zh bs,ye k l ns p.2 p.1 = true /\ (∀ c ∈ p.1,c ∈ l) /\ ∀ c ∈ p.2,c ∈ l:=fun p hp=>by
 unfold zh at hp;obtain ⟨e,he,rfl⟩:=aa.mp hp;exact #[h.lt e he,(h.e e he).ma,(h.e e he).mb]
noncomputable def rankF:KeyFam (Int × List Int):=#[fun r=>[.int r.1,.lst (r.2.map L3.D.int)],fun a b=>if a.1 = b.1 then ltI a.2 b.2 else decide (a.1 < b.1),true,(0,[])]
theorem jz {x y:List Int} (h:ltI x y = true):ltI y x = false:=by
 by_cases e:x = y
 ·subst e;rw [yM]at h;cases h
 ·have:=y1 e;rw [h]at this;simpa using this.symm
theorem Yl {x y z:List Int} (h1:ltI y x = false) (h2:ltI z y = false):ltI z x = false:=by
 cases h:ltI z x with
 | false=>rfl
 | true =>
  by_cases e:y = x
  ·subst e;rw [h2]at h;cases h
  ·have h3:=y1 e;rw [h1]at h3;have h4:ltI x y = true:=by simpa using h3.symm
   rw [qf h h4]at h2;cases h2
theorem rankF_ok:rankF.Ok where
 w:=#[fun a b h=>by
   simp only [rankF]at h ⊢;by_cases e:a.1 = b.1
   ·rw [if_pos e]at h;rw [if_pos e.symm];exact jz h
   ·rw [if_neg e]at h;rw [if_neg (fun z=>e z.symm)];have:=of_decide_eq_true h;exact decide_eq_false ⋯,
  fun a b c h1 h2=>by
   simp only [rankF]at h1 h2 ⊢;by_cases e:b.1 = a.1
   ·rw [if_pos e]at h1;rw [e]at h2;by_cases f:c.1 = a.1
    ·rw [if_pos f]at h2 ⊢;exact Yl h1 h2
    ·rw [if_neg f]at h2 ⊢;exact h2
   ·rw [if_neg e]at h1;have h1':=of_decide_eq_false h1;by_cases f:c.1 = b.1
    ·rw [if_neg ⋯];exact decide_eq_false ⋯
    ·rw [if_neg f]at h2;have h2':=of_decide_eq_false h2;rw [if_neg ⋯]
     exact decide_eq_false ⋯]
 eq:=fun a b=>by
  have:=Zk a.1 b.1 a.2 b.2;simp only [ltD]at this;exact this
 ok:=fun a b=>by simp only [rankF,vo,okD]; exact #[trivial,xI _ _,trivial]
 dp:=fun a=>by simp only [rankF,dpD,xv,vM]; decide
 sh:=fun a=>#[_,_,rfl,.inl #[rfl,_,rfl]]
noncomputable def US (k:Nat) (l:()) (ns:List Int) (w:()):Int × List Int:=(zx k l ns w,z7 k l w)
theorem v0 {H:Hp} {d:L3.D} {v:V}:∀ {ds:List L3.D} {vs:List V},Iss K H ds vs -> Is K H d v -> Iss K H (ds ++ [d]) (vs ++ [v])
 | [],vs,h,hv=>by
  simp only [Iss]at h;subst h;simp only [List.nil_append,Iss];exact #[v,[],rfl,hv,rfl]
 | e :: ds,vs,h,hv=>by
  simp only [Iss]at h;obtain ⟨x,r,rfl,hx,hr⟩:=h;simp only [List.cons_append,Iss];exact #[x,r ++ [v],rfl,hx,v0 hr hv]
theorem OrdAt.samT {T CO CR CW:Addr} {H H':Hp} {ps:Array Value} {o:Addr} {k:Nat} {l:()} {ns:List Int} (h:OrdAt CO CR CW H o k l ns) (s:SamT T H H') (hT:H T = some (.tbl ps)):OrdAt CO CR CW H' o k l ns:=by
 obtain ⟨dx,⟨h1,h2⟩ | ⟨h1,h2⟩⟩:=h
 ·exact #[dx,.inl #[h1,s.at hT h2 fun _ z=>by cases z]]
 ·exact #[dx,.inr #[h1,s.at hT h2 fun _ z=>by cases z]]
theorem EnsA.samT {T:Addr} {H H':Hp} {ps:Array Value} (s:SamT T H H') (hT:H T = some (.tbl ps)):∀ {es:List Ent} {vs:List V},EnsA K H es vs -> EnsA K H' es vs
 | [],vs,h=>by simp only [EnsA]at h ⊢; exact h
 | e :: es,vs,h=>by
  simp only [EnsA]at h ⊢;obtain ⟨v,r,e0,⟨p,s',e1,h1,h2⟩,h3⟩:=h;exact #[v,r,e0,#[p,s',e1,s.seqT hT h1,h2.samT s hT],EnsA.samT s hT h3]
theorem qS {a b:Int × List Int} (h:a ≠ b):rankF.lt a b = !rankF.lt b a:=by
 simp only [rankF];by_cases e:a.1 = b.1
 ·rw [if_pos e,if_pos e.symm];exact y1 fun q=>h (Prod.ext e q)
 ·rw [if_neg e,if_neg fun q=>e q.symm];by_cases c:a.1 < b.1
  ·rw [decide_eq_true c,decide_eq_false ⋯];rfl
  ·rw [decide_eq_false c,decide_eq_true ⋯];rfl
theorem ZW (a b:Int × List Int):eqD (.tup (rankF.dec a)) (.tup (rankF.dec b)) = decide (a = b):=by
 obtain ⟨a1,a2⟩:=a;obtain ⟨b1,b2⟩:=b;simp only [rankF,eqD,xJ,qv];by_cases h:a1 = b1
 ·by_cases h2:a2 = b2
  ·simp [h,h2]
  ·simp [h,h2]
 ·simp [h]
theorem jI (a b:Int × List Int):ltD (.tup (rankF.dec a)) (.tup (rankF.dec b)) = rankF.lt a b:=by
 simp only [ltD];exact rankF_ok.eq a b
theorem uX (a:Int × List Int):rankF.lt a a = false:=by
 simp only [rankF];rw [if_pos trivial];exact yM _
noncomputable def pairF:KeyFam ((Int × List Int) × (Int × List Int)):=#[fun r=>[.tup (rankF.dec r.1),.tup (rankF.dec r.2)],fun a b=>if a.1 = b.1 then rankF.lt a.2 b.2 else rankF.lt a.1 b.1,false,((0,[]),(0,[]))]
theorem wy (a b:(Int × List Int) × (Int × List Int)):pairF.lt a b = if a.1 = b.1 then rankF.lt a.2 b.2 else rankF.lt a.1 b.1:=rfl
theorem pairF_ok:pairF.Ok where
 w:=#[fun a b h=>by
   rw [wy]at h ⊢;by_cases e:a.1 = b.1
   ·rw [if_pos e]at h;rw [if_pos e.symm];exact rankF_ok.w.asym _ _ h
   ·rw [if_neg e]at h;rw [if_neg fun q=>e q.symm];exact rankF_ok.w.asym _ _ h,
  fun a b c h1 h2=>by
   rw [wy]at h1 h2 ⊢;by_cases e:b.1 = a.1
   ·rw [if_pos e]at h1;rw [e]at h2;by_cases f:c.1 = a.1
    ·rw [if_pos f]at h2 ⊢;exact rankF_ok.w.ntr _ _ _ h1 h2
    ·rw [if_neg f]at h2 ⊢;exact h2
   ·rw [if_neg e]at h1;by_cases g:c.1 = b.1
    ·rw [g,if_neg e];exact h1
    ·rw [if_neg g]at h2;by_cases f:c.1 = a.1
     ·rw [f]at h2;have:=qS (a:=b.1) (b:=a.1) e;rw [h1,h2]at this;cases this
     ·rw [if_neg f]
      exact rankF_ok.w.ntr _ _ _ h1 h2]
 eq:=fun a b=>by
  show xE [.tup (rankF.dec a.1),.tup (rankF.dec a.2)] [.tup (rankF.dec b.1),.tup (rankF.dec b.2)] = _;rw [wy,xE,ZW,xE,ZW,jI,jI,xE];by_cases e:a.1 = b.1
  ·rw [if_pos (decide_eq_true e),if_pos e];by_cases f:a.2 = b.2
   ·rw [if_pos (decide_eq_true f),f,uX]
   ·rw [if_neg (by simpa using f)]
  ·rw [if_neg (by simpa using e),if_neg e]
 ok:=fun a b=>by
  show vo [.tup (rankF.dec a.1),.tup (rankF.dec a.2)] [.tup (rankF.dec b.1),.tup (rankF.dec b.2)];simp only [vo,okD];exact #[rankF_ok.ok _ _,rankF_ok.ok _ _,trivial]
 dp:=fun a=>by simp only [pairF,rankF,dpD,xv,vM]; decide
 sh:=fun a=>#[_,_,rfl,.inr #[rfl,_,rfl]]
noncomputable def rkE (k:Nat) (l:()) (ns:List Int) (e:Ent):(Int × List Int) × (Int × List Int):=(US k l ns e.1,US k l ns e.2.1)
theorem QK {k:Nat} {l:()} {ns:List Int} {u v:()} (hu:∀ c ∈ u,c ∈ l) (hv:∀ c ∈ v,c ∈ l):US k l ns u = US k l ns v ↔ u = v :=
 #[fun h=>j8 hu hv (Prod.ext_iff.mp h).2,fun h=>by rw [h]]
theorem vg {k:Nat} {l:()} {ns:List Int} {a b:Ent} (ha:EB l a) (hb:EB l b):pairF.lt (rkE k l ns a) (rkE k l ns b) = yD k l ns a b:=by
 rw [wy];unfold yD;have h:(rkE k l ns a).1 =(rkE k l ns b).1 ↔ a.1 = b.1:=QK ha.ma hb.ma;by_cases e:a.1 = b.1
 ·rw [if_pos (h.mpr e),if_pos e];rfl
 ·rw [if_neg fun q=>e (h.mp q),if_neg e];rfl
theorem Zd {H:Hp}:∀ {es:List Ent} {vs:List V},EnsA K H es vs -> ∀ t ∈ es.zip vs,EnA K H t.1 t.2
 | [],_,_,t,ht=>by simp at ht
 | e :: es,vs,h,t,ht=>by
  simp only [EnsA]at h;obtain ⟨v,r,rfl,h1,h2⟩:=h;rw [List.zip_cons_cons]at ht;rcases ac.mp ht with rfl | ht
  ·exact h1
  ·exact Zd h2 t ht
theorem Wv {H:Hp}:∀ {ts:List (Ent × V)},(∀ t ∈ ts,EnA K H t.1 t.2) -> EnsA K H (ts.map (·.1)) (ts.map (·.2))
 | [],_=>by simp only [List.map_nil,EnsA]
 | t :: ts,h=>by
  simp only [List.map_cons,EnsA];exact #[_,_,rfl,h t List.mem_cons_self,Wv fun u hu=>h u (List.mem_cons_of_mem _ hu)]
theorem jf {H:Hp} {k:Nat} {l:()} {ns:List Int} {es:List Ent} {vs:List V} {ys:List (((Int × List Int) × (Int × List Int)) × V)} {d:((Int × List Int) × (Int × List Int)) × V} (hI:EnsA K H es vs) (hE:∀ e ∈ es,EB l e) (h1:ys = srt (fun p q=>pairF.lt p.1 q.1) d ((es.map (rkE k l ns)).zip vs)) :
  ∃ zs:List Ent,zs.Perm es /\ zs.Pairwise (fun a b=>yD k l ns b a = false) /\ zs = srt (yD k l ns) ([],[],[]) es /\ EnsA K H zs (ys.map (·.2)):=by
 have hl:=hI.len
 have e0:(es.map (rkE k l ns)).zip vs =(es.zip vs).map fun t=>(rkE k l ns t.1,t.2):=by
  rw [List.zip_map_left];rfl
 have W0:WkO fun (p q:((Int × List Int) × (Int × List Int)) × V)=>pairF.lt p.1 q.1:=#[fun a b=>pairF_ok.w.asym _ _,fun a b c=>pairF_ok.w.ntr _ _ _];have W1:WkO fun (p q:Ent × V)=>pairF.lt (rkE k l ns p.1) (rkE k l ns q.1):=#[fun a b=>pairF_ok.w.asym _ _,fun a b c=>pairF_ok.w.ntr _ _ _];have W2:WkO fun (p q:Ent)=>pairF.lt (rkE k l ns p) (rkE k l ns q):=#[fun a b=>pairF_ok.w.asym _ _,fun a b c=>pairF_ok.w.ntr _ _ _];rw [e0,jA W0 (d':=(fun t:Ent × V=>(rkE k l ns t.1,t.2)) (([],[],[]),.non)) (fun _ _ _ _=>rfl)]at h1
 replace h1:=h1.trans (qX (lt:=fun (p q:((Int × List Int) × (Int × List Int)) × V)=>pairF.lt p.1 q.1) (fun t:Ent × V=>(rkE k l ns t.1,t.2)) (([],[],[]),.non) (es.zip vs))
 obtain ⟨p,h2⟩:=uT W1 (([],[],[]),.non) (es.zip vs)
 have e2:(srt (fun (p q:Ent × V)=>pairF.lt (rkE k l ns p.1) (rkE k l ns q.1)) (([],[],[]),.non) (es.zip vs)).map (·.1) = srt (yD k l ns) ([],[],[]) es:=by
  rw [<- jA W2 (d:=([],[],[])) fun a ha b hb=>vg (hE a ha) (hE b hb)];have:=qX (lt:=fun (p q:Ent)=>pairF.lt (rkE k l ns p) (rkE k l ns q)) (fun t:Ent × V=>t.1) (([],[],[]),.non) (es.zip vs);rw [List.map_fst_zip ⋯]at this;exact this.symm
 generalize srt (fun (p q:Ent × V)=>pairF.lt (rkE k l ns p.1) (rkE k l ns q.1)) (([],[],[]),.non) (es.zip vs) = ts at h1 h2 p e2;have hm:∀ t ∈ ts,t.1 ∈ es:=fun t ht=>(List.of_mem_zip (show (t.1,t.2) ∈ es.zip vs from p.mem_iff.mp ht)).1;refine #[ts.map (·.1),?_,?_,e2,?_]
 ·have:=p.map (·.1);rw [List.map_fst_zip ⋯]at this;exact this
 ·rw [List.pairwise_map];refine h2.imp_of_mem fun {a b} ha hb h=>?_;rw [<- vg (hE _ (hm _ hb)) (hE _ (hm _ ha))];exact h
 ·rw [h1,List.map_map];exact Wv fun t ht=>Zd hI t (p.mem_iff.mp ht)
def tbE (K:PySem.W.Frag) (CO CR CW:Addr):TE:=Xt (zM (zB (QR CO CR CW) "rank" (fun _=>wS CO CR CW) [] E0 (yf 1) (zM (tOp (vj K) (yf 0) (tC (.int 0))) xu)) (zM (zB (QR CO CR CW) "rank" (fun _=>wS CO CR CW) [] E0 (yf 1) (zM (tOp (vj K) (yf 0) (tC (.int 1))) xu)) xu))
theorem Qn {CO CR CW o p s:Addr} {k:Nat} {l:()} {ns:List Int} {e:Ent} {H:Hp} {Q:VK} (hG:OG l ns k) (ho:OrdAt CO CR CW H o k l ns) (hE:EB l e) (hp:SqT K H p [.str (tx e.1),.str (tx e.2.1),.ref s]) (q:∀ (t:Addr) (H':Hp),Same H H' -> Is K H' (.tup (pairF.dec (rkE k l ns e))) (.ref t) -> Q (.ref t) H'):tbE K CO CR CW [!!p,!!o] H Q:=by
 have s16:=yt;obtain ⟨C,dx,fs,hf,ho1,hn,_⟩:=ho.fam;have h1:fs.lookup ("rank" : Str) = none:=hn _ ∅ ∅;unfold tbE
 repeat (first | rfl' | simp only [xl,zB,zZ,xz,xB,zD])
 refine #[C,hf,dx,fs,ho1,h1,_,hp,_,rfl,o,k,l,ns,e.1,rfl,ho,hG,by have:=hE.a; lia,hE.ma,fun p1 q1 H1 s1 hp1 hq1=>#[C,hf,dx,fs,s1 _ _ ho1,h1,_,zm s1 hp,_,rfl,o,k,l,ns,e.2.1,rfl,ho.same s1,hG,by have:=hE.b; lia,hE.mb,fun p2 q2 H2 s2 hp2 hq2=>#[⋯,fun t ht=>?_]]];refine q t _ (s1.trans (s2.trans (zg (o:=.tup [.ref p1,.ref p2]) ht))) ?_;show Is K _ (.tup [.tup (rankF.dec (US k l ns e.1)),.tup (rankF.dec (US k l ns e.2.1))]) (.ref t);refine Is.tup ht ?_;simp only [Iss];exact #[_,_,rfl,vY (s2 _ _ hp1) (s2 _ _ hq1),_,_,rfl,vY hp2 hq2,rfl]
theorem Wx {CO CR CW o:Addr} {k:Nat} {l:()} {ns:List Int} {LA:Hp -> Prop} {Qf:List V -> Hp -> Prop} (hG:OG l ns k) (hLA:∀ H H',LA H -> Same H H' -> LA H'):∀ (es:List Ent) (vs acc:List V) (rs:List ((Int × List Int) × (Int × List Int))) (H:Hp),LA H -> OrdAt CO CR CW H o k l ns -> (∀ e ∈ es,EB l e) -> EnsA K H es vs ->
  Iss K H (rs.map fun a=>.tup (pairF.dec a)) acc -> (∀ acc' H',Same H H' -> Iss K H' ((rs ++ es.map (rkE k l ns)).map fun a=>.tup (pairF.dec a)) acc' -> Qf acc' H') -> yo (fun x H Q=>LA H /\ tbE K CO CR CW [some x,!!o] H Q) vs acc H Qf
 | [],vs,acc,rs,H,hL,ho,hw,hV,hI,h=>by
  simp only [EnsA]at hV;subst hV;exact h acc H (Same.refl _) (by simpa using hI)
 | e :: es,vs,acc,rs,H,hL,ho,hw,hV,hI,h=>by
  have s16:=yt;simp only [EnsA]at hV;obtain ⟨v,r,rfl,⟨p,s,rfl,hp,_⟩,hV⟩:=hV;refine #[hL,Qn hG ho (hw e List.mem_cons_self) hp fun t H' s3 hIs=>?_];refine Wx hG hLA es r (acc ++ [.ref t]) (rs ++ [rkE k l ns e]) _ (hLA _ _ hL s3) (ho.same s3) (fun x hx=>hw x (List.mem_cons_of_mem _ hx)) (hV.same s3) ?_ fun acc' H' s' hI'=>h acc' H' (s3.trans s') (by simpa using hI');rw [List.map_append];exact v0 (Iss.same s3 _ _ hI) hIs
noncomputable def U4:Expr -> Pos
 | .Lambda _ _ _ p=>p
 | _=>default
noncomputable def zag:List Stmt -> Pos
 | _ :: .Return (some (.Call _ _ (k :: _) _)) _ :: _=>U4 k.value
 | _=>default
noncomputable def lp:Pos:=zag (zO zW)
noncomputable def lq:Str:="in_order.<locals>.<lambda>"
def uf (K:PySem.W.Frag) (CO CR CW T:Addr):Sp:=fun vs H Q _=>∃ (o a:Addr) (k:Nat) (l:()) (ns:List Int) (es:List Ent),vs = [.ref o,.ref a] /\ OrdAt CO CR CW H o k l ns /\ OG l ns k /\ EnsL K H a es /\ es.length < 64 /\ (∀ e ∈ es,EB l e) /\ TabOk H T lp lq /\
 ∀ (D:Addr) (zs:List Ent) (H':Hp),SamT T H H' -> qL T lp H H' -> TabOk H' T lp lq -> H D = none -> Lined k l ns es zs -> EnsM K H' D zs -> Q (.ref D) H'
theorem YH {CO CR CW T o a:Addr} {k:Nat} {l:()} {ns:List Int} {es:List Ent} {H:Hp} {Q:VK} {E:XK} (h1:OrdAt CO CR CW H o k l ns) (h2:OG l ns k) (h3:EnsL K H a es) (h4:es.length < 64) (h5:∀ e ∈ es,EB l e) (h6:TabOk H T lp lq)
  (h:∀ (D:Addr) (zs:List Ent) (H':Hp),SamT T H H' -> qL T lp H H' -> TabOk H' T lp lq -> H D = none -> Lined k l ns es zs -> EnsM K H' D zs -> Q (.ref D) H'):uf K CO CR CW T [.ref o,.ref a] H Q E:=#[o,a,k,l,ns,es,rfl,h1,h2,h3,h4,h5,h6,h]
abbrev Z6 (mg:Str -> Option Value):Prop:=mg "sorted" = none
theorem sc_in_order:sQz 2 ["order", "entries", "unlike"] zW:=by nofun
theorem jm {f CO CR CW CC TB:Addr} {fd:FuncData} (B:Bt mg) (DRk:DR P w K mg base CO CR CW) (hsorted:Z6 mg) (hCd:PySem.W.CodeHd base CC TB) (hBt:base.BuiltinsAt mg TB) (hgT:mainGlobals ≠ TB) (F:("in_order"^^^zW)) (HC:fd.code = .ref CC) (D_as_rule:(4<<<"as_rule") ["order", "entry"] [] (y6 K CO CR CW)):(6&&&["order", "entries"]) (uf K CO CR CW TB):=by
 refine YA F HC sc_in_order (fun vs H Q E h=>?_) (fun A outer s H vs Q E hr h=>?_)
 ·obtain ⟨o,a,k,l,ns,es,rfl,_⟩:=h;rfl
 ·obtain ⟨o,a,k,l,ns,es,rfl,ho,hG,hA,hz,hE,hTab,q⟩:=h
  refine #[_,(zj (ZX (i:=2) sc_in_order.nd rfl (.inl rfl) (.inl rfl) (own:=["entry"]) (caps:=["order"]) (ix:=[0]) (tt:=(tBl (tOp rNe (tOp (vj K) (yf 0) (tC (.int 0))) (tOp (vj K) (yf 0) (tC (.int 1)))))) (te:=(qJ (y6 K CO CR CW) [] E0 (zM (yf 1) (zM (yf 0) xu)))) rfl (z9 (sc:=ze zW) rfl (by symm) (by symm) (by symm) rfl (by symm) (by symm) rfl) (yi (pv 1)) (fun _ _ _ _ _ _=>zF (i:=0) (show List.Nodup [_,_] by decide) rfl (.inl rfl)) (fun _ _ _ _ _ _=>(VR (zK Vm (zp ix_tup (pv 0) zd) (zp ix_tup (pv 0) zd) (zP _)))) (fun _ _ _ _ _ _=>(cl0 D_as_rule hr .nil rfl (za (pv 1) (za (pv 0) zc)))))
   (zf (zo (YU (k:=2) (p:="entry") (y:="order") (iy:=0) (c:=s⁻¹ + 1) (tb:=tbE K CO CR CW) pairF_ok #[rfl,rfl,rfl,∅,rfl,rfl,∅,∅] (hr.mono ∅) rfl hsorted PyProof.Rows.boot_sorted (za (pv 2) zc) rfl hCd hBt hgT rfl rfl (by intro _ _ _ _; exact rfl) rfl rfl rfl (fun s H f cv hr'=>z5 (za (QC DRk hr' (pv 1) (za (zp ix_tup (pv 0) zd) zc)) (za (QC DRk hr' (pv 1) (za (zp ix_tup (pv 0) zd) zc)) zc))))))),?_]
  have s16:=yt;obtain ⟨xs,hX,hI⟩:=id hA;have hxl:=hI.len
  have hEr:∀ e ∈ zY k l ns es,EB l e:=fun e he=>by
   unfold zY at he;obtain ⟨y,hy,rfl⟩:=aa.mp he;exact (hE y (al.mp hy).1).rule
  have hrl:=xX k l ns es;refine zl (fun σ H'=>Same H H' /\ ∃ (D0:Addr) (acc:List V),H D0 = none /\ H' D0 = some (.lst acc) /\ EnsA K (hide D0 H') (zY k l ns es) acc /\ σ = [!!o,!!a,!!D0]) ?_ ?_
  ·repeat (first | rfl' | simp only [xl,zB,zZ,xz,xB,zD])
   refine #[#[xs,hX],fun D hD=>CompL.by (xs:=xs) (fun i acc H'=>Same H H' /\ H' D = some (.lst acc) /\ EnsA K (hide D H') (zY k l ns (es.take i)) acc) #[zg hD,zb,by simp only [List.take_zero,zY,List.filter_nil,List.map_nil,EnsA]] (fun i acc H' _ h=>h.1.seq hX) ?_ ?_]
   ·refine nm4 ?_;rintro i x acc H' hx ⟨hs,hH,hA⟩:_;have hi:=(ae.mp hx).1;obtain ⟨e,pe,se,hei,rfl,hqe,hse⟩:=hI.get hx;have hEe:=hE e (List.mem_of_getElem? hei);have hal:=hA.len;have hal2:=xX k l ns (es.take i);rw [List.length_take]at hal2;have hq1:=zm hs hqe
    have hraw:zY k l ns (es.take (i + 1)) = zY k l ns (es.take i) ++ if e.1 = e.2.1 then []else [zU k l ns e]:=by
     rw [zR hei,Z2];congr 1;unfold zY;by_cases hne:e.1 = e.2.1
     ·rw [if_pos hne,List.filter_cons_of_neg (by simp [hne])];rfl
     ·rw [if_neg hne,List.filter_cons_of_pos (by simp [hne])];rfl
    right
    repeat (first | rfl' | simp only [xl,zB,zZ,xz,xB,zD])
    refine #[xq,_,hq1,_,rfl,_,hq1,_,rfl,rfl,xC (fun hne=>?_) fun heq=>?_]
    ·have hne':¬ e.1 = e.2.1:=fun z=>hne (by rw [z]);rw [if_neg hne']at hraw
     have fin:∀ (v:V) (H2:Hp),Same H' H2 -> EnA K (hide D H2) (zU k l ns e) v -> H2 D = some (.lst acc) /\ acc.length < sizeLine /\ CNx xs.length i (fun i acc H'=>Same H H' /\ H' D = some (.lst acc) /\ EnsA K (hide D H') (zY k l ns (es.take i)) acc) (acc ++ [v]) (upd H2 D (.lst (acc ++ [v]))):=fun v H2 s2 hv=>by
      refine #[s2 _ _ hH,⋯,CNx.mk hi #[zA (hs.trans s2) hD,zb,?_]];rw [hraw];exact (hA.same ((zJ s2).trans yS)).snoc (hv.same yS)
     refine vB (ho.same hs) hG hq1 (hse.same hs).is hEe (fun er H2 s2=>fin _ _ s2 ?_) fun p' s' H2 s2 hsn hp' hL=>fin _ _ s2 ?_
     ·rw [er];exact EnA.same #[pe,se,rfl,hqe,hse] (w8 hD (hs.trans s2))
     ·exact EnA.new (s2 _ _ hH) hp' hL (fun z=>by rw [z,hH]at hsn; cases hsn)
    ·have heq':e.1 = e.2.1:=by
      have:=Classical.not_not.mp heq;injection this with this;exact wL this
     rw [if_pos heq',List.append_nil]at hraw;exact CNx.mk hi #[hs,hH,by rw [hraw]; exact hA]
   ·rintro acc H' ⟨hs,hH,hA⟩;rw [hxl,List.take_length]at hA;exact #[hs,D,hD,acc,hH,hA,rfl]
  rintro σ H1 ⟨s1,D0,acc,hD0,hH1,hI1,rfl⟩:_;have hal:=hI1.len;have hT1:=hTab.same s1;obtain ⟨ps1,hps1,_⟩:=id hT1;right
  repeat (first | rfl' | simp only [xl,zB,zZ,xz,xB,zD])
  unfold YL;refine #[hT1,fun f H2 hf hLA hT2 sT oT=>?_];obtain ⟨ps2,hps2,_⟩:=id hT2;have hI2:=EnsA.samT sT hps1 (hI1.same hide_same);refine #[D0,acc,.ref o,rfl,SqL.of (sT.at hps1 hH1 fun _ z=>by cases z),⋯,rfl,?_];refine Wx hG (fun A A' h1 h2=>LamAt.same h1 h2) (zY k l ns es) acc [] [] H2 hLA ((ho.same s1).samT sT hps1) hEr hI2 (by simp only [List.map_nil,Iss]) fun acc' H3 s3 hI3=>#[(zY k l ns es).map (rkE k l ns),by simpa using hI3,fun ys p1 D hD=>?_];obtain ⟨zs,z1,z2,z4,z3⟩:=jf (hI2.same s3) hEr p1;have sD:=zg (o:=.lst (ys.map (·.2))) hD;refine q D zs _ ((SamT.of s1).trans (sT.trans (SamT.of (s3.trans sD)))) (fun pos' q' h1 h2=>(oT pos' q' h1 (h2.same' s1)).same' (s3.trans sD)) (hT2.same (s3.trans sD)) ?_ #[z1,z2,z4] #[_,zb,z3.same sD];exact ((SamT.of s1).trans (sT.trans (SamT.of s3))).free (s3 _ _ hps2) hD
structure TMo (mg:Str -> Option Value):Prop where
 u:∃ t,mg "MOST_USES" = some (.int 40 t)
 s:∃ t,mg "MOST_STEPS" = some (.int 240 t)
 d:∃ t,mg "MOST_SIDE" = some (.int 60 t)
 p:∃ t,mg "MOST_PASSES" = some (.int 20 t)
structure BG (k:Nat) (l:()) (ns:List Int) (bs:List Ent):Prop where
 n:bs.length < 64
 e:∀ e ∈ bs,EB l e
 lt:∀ e ∈ bs,ye k l ns e.2.1 e.1 = true
theorem BG.ne {k:Nat} {l:()} {ns:List Int} {bs:List Ent} (h:BG k l ns bs) (G:OG l ns k):NeL (zh bs):=fun p hp=>by
 unfold zh at hp;obtain ⟨e,he,rfl⟩:=aa.mp hp;exact Ub G.nb (h.lt e he)
theorem BG.le {k:Nat} {l:()} {ns:List Int} {bs:List Ent} (h:BG k l ns bs):∀ p ∈ zh bs,p.1.length <= 60 /\ p.2.length <= 60:=fun p hp=>by
 unfold zh at hp;obtain ⟨e,he,rfl⟩:=aa.mp hp;exact #[(h.e e he).a,(h.e e he).b]
theorem BG.mem {k:Nat} {l:()} {ns:List Int} {bs:List Ent} (h:BG k l ns bs):∀ p ∈ zh bs,∀ c ∈ p.2,c ∈ l:=fun p hp=>by
 unfold zh at hp;obtain ⟨e,he,rfl⟩:=aa.mp hp;exact (h.e e he).mb
theorem vH {CF a:Addr} {ps:List zE} {w:()} {H:Hp} {Q:VK} {E:XK} (hA:LsA K H a (ps.map dR)) (hN:NeL ps) (hpl:ps.length <= 100) (hP:∀ p ∈ ps,p.1.length <= 60 /\ p.2.length <= 60) (hw:w.length <= 60)
  (h1:∀ (i:Nat) (p S:Addr) (H':Hp),EndsAt ps w i -> Same H H' -> H' p = some (.tup [.ref S,.str (tx (wAt ps w i))]) -> LsA K H' S ((sAt ps w i).map dG) -> H S = none -> Q (.ref p) H') (h2:(∀ i,¬ EndsAt ps w i) -> ∀ H',Same H H' -> E (.ref CF) none H'):xY K CF [.ref a,.str (tx w),.int 40] H Q E:=by
 have hP':∀ p ∈ ps,p.1.length <= 1000 /\ p.2.length <= 1000:=fun p hp=>by
  have:=hP p hp;lia
 have len:∀ j,j <= 40 -> (wAt ps w j).length <= 10000:=fun j hj=>by
  have:=uQ (l:=w) (m:=60) hN (fun p hp=>(hP p hp).2) j;lia
 rcases UK ps w with ⟨i,hi⟩ | ⟨hL,hf⟩
 ·have hm:=hi.most;exact #[a,w,ps,40,i,rfl,hA,hN,hpl,hP',#[hi.live,fun j hj=>len j ⋯,⋯],.inl #[hi.end_,⋯,fun p S H' s' hp hL hS=>h1 i p S H' hi s' hp hL hS]]
 ·refine #[a,w,ps,40,40,rfl,hA,hN,hpl,hP',#[hL,fun j hj=>len j hj,∅],.inr #[hf,rfl,h2 fun i hi=>?_]];have hm:=hi.most;by_cases e:i = 40
  ·subst e;exact hf hi.end_
  ·exact hL i ⋯ hi.end_
theorem Vo (us:List (Nat × Nat)):us.map dG =(stS us).map dSt:=by
 unfold stS;rw [List.map_map];rfl
theorem Yt (us:List (Nat × Nat)):(stS us).length = us.length:=by unfold stS; rw [List.length_map]
theorem Ja {ps:List zE} {w:()} {i:Nat} (h:WL ps w i):∀ u ∈ sAt ps w i,u.1 < ps.length:=fun u hu=>by
 unfold sAt at hu;obtain ⟨j,hj,rfl⟩:=aa.mp hu
 cases e:zC (wAt ps w j) ps with
 | none=>exact absurd e (h j (aj.mp hj))
 | some v =>
  obtain ⟨p,h1,_⟩:=yw e;exact (ae.mp h1).1
theorem Wz {ps:List zE} {w:()} {i:Nat} (h:WL ps w i):∀ u ∈ stS (sAt ps w i),0 <= u.1 /\ u.1 < ps.length:=fun u hu=>by
 unfold stS at hu;obtain ⟨v,hv,rfl⟩:=aa.mp hu;have:=Ja h v hv;show 0 <=(v.1:Int) /\ (v.1:Int) < ps.length;lia
theorem Vg {n:Int} {ss:List Stp} (h:∀ u ∈ ss,0 <= u.1 /\ u.1 < n):∀ u ∈ yR ss,0 <= u.1 /\ u.1 < n:=fun u hu=>by
 unfold yR at hu;obtain ⟨v,hv,rfl⟩:=aa.mp hu;exact h v (ap.mp hv)
theorem Jd {es:List Ent} (h:∀ e ∈ es,e.2.2.length <= 600) (u:Stp):(WI es u).length <= 600:=by
 have hg:(es.getD u.1.toNat ([],[],[])).2.2.length <= 600:=by
  rw [List.getD_eq_getElem?_getD]
  cases e:es[u.1.toNat]? with
  | none=>exact Nat.zero_le _
  | some r=>exact h r (List.mem_of_getElem? e)
 unfold WI;rw [Zx];split
 ·exact hg
 ·rw [xj];exact hg
theorem Uw {es:List Ent} (h:∀ e ∈ es,e.2.2.length <= 600):∀ us:List Stp,(byL es us).length <= us.length * 600
 | []=>by simp [byL]
 | u :: us=>by
  have e:byL es (u :: us) = WI es u ++ byL es us:=by simp [byL]
  have h1:=Jd h u;have h2:=Uw h us;rw [e,List.length_append,List.length_cons,Nat.succ_mul];lia
def jc (K:PySem.W.Frag) (CF:Addr):Sp:=fun vs H Q E=>∃ (a p s:Addr) (k:Nat) (l:()) (ns:List Int) (bs:List Ent) (e:Ent),vs = [.ref a,.ref p] /\ OG l ns k /\ Is K H (.lst (bs.map dE)) (.ref a) /\ BG k l ns bs /\ SqT K H p [.str (tx e.1),.str (tx e.2.1),.ref s] /\ LsA K H s (e.2.2.map dSt) /\ EB l e /\
 (∀ i j H',EndsAt (zh bs) e.1 i -> EndsAt (zh bs) e.2.1 j -> wAt (zh bs) e.1 i = wAt (zh bs) e.2.1 j -> Same H H' -> Q .non H') /\
 (∀ i j p' s' H',EndsAt (zh bs) e.1 i -> EndsAt (zh bs) e.2.1 j -> wAt (zh bs) e.1 i ≠ wAt (zh bs) e.2.1 j -> Same H H' -> H s' = none -> H' p' = some (.tup [.str (tx (yq bs e i j).1),.str (tx (yq bs e i j).2.1),.ref s']) -> LsA K H' s' ((yq bs e i j).2.2.map dSt) -> Q (.ref p') H') /\
 ((∀ i,¬ EndsAt (zh bs) e.1 i) \/ (∀ j,¬ EndsAt (zh bs) e.2.1 j) -> ∀ H',Same H H' -> E (.ref CF) none H')
theorem WF {a t:Addr} {es:List Ent} {us:List Stp} {H:Hp} {Q:VK} {E:XK} (h1:Is K H (.lst (es.map dE)) (.ref a)) (h2:Is K H (.lst (us.map dSt)) (.ref t)) (h3:us.length <= 100) (h4:∀ e ∈ es,e.2.2.length <= 600) (h5:∀ u ∈ us,0 <= u.1 /\ u.1 < es.length) (h:∀ (D:Addr) (H':Hp),H D = none -> Same H H' -> LsA K H' D ((byL es us).map dSt) -> Q (.ref D) H'):V3 K [.ref a,.ref t] H Q E:=#[a,t,es,us,rfl,h1,h2,h3,h4,h5,h]
theorem sc_brought_down:sQz 2 ["entries", "entry", "rules", "one", "other", "steps"] yA:=by nofun
theorem wZ {f CF:Addr} {fd:FuncData} {dt_gone:Tok} (B:Bt mg) (TM:TMo mg) (F:("brought_down"^^^yA)) (D_pairs_of:(1<<<"pairs_of") ["entries"] [] (wx K)) (D_gone:(4>>>"gone") ["rules", "word", "most"] [] (xY K CF)) (DD_gone:(4>>>"gone") ["rules", "word", "most"] [.int 4000 dt_gone] (xY K CF)) (D_by_pacts:(2<<<"by_pacts") ["entries", "steps"] [] (V3 K)) (D_back:(1<<<"back") ["steps"] [] (vh K)):(5|||["entries", "entry"]) (jc K CF):=by
 obtain ⟨t9,g9⟩:=TM.u;refine Fun.okX F sc_brought_down (fun vs H Q E h=>?_) (fun cdv A outer s H vs Q E hr hx h=>?_)
 ·obtain ⟨a,p,s,k,l,ns,bs,e,rfl,_⟩:=h;rfl
 ·obtain ⟨a,p,s,k,l,ns,bs,e,rfl,hG,hA,hB,hp,hs,hE,q1,q2,q3⟩:=h
  refine #[_,(zj (zw 2 sc_brought_down.nd (cl0 D_pairs_of hr .nil rfl (za (pv 0) zc)))
   (zj (zw 3 sc_brought_down.nd (clP hx D_gone hr .nil rfl (za (pv 2) (za (zp ix_tup (pv 1) zd) (za (xx (v:=.int 40) rfl g9 #[t9,rfl]) zc)))))
   (zj (zw 4 sc_brought_down.nd (clP hx D_gone hr .nil rfl (za (pv 2) (za (zp ix_tup (pv 1) zd) (za (xx (v:=.int 40) rfl g9 #[t9,rfl]) zc)))))
   (zj (yb (zK Yn (zp ix_tup (pv 3) zd) (zp ix_tup (pv 4) zd) (zP _))
    (zf (zo vF))
    zu)
   (zj (zw 5 sc_brought_down.nd (zr ZV (zr ZV (cl0 D_by_pacts hr .nil rfl (za (pv 0) (za (cl0 D_back hr .nil rfl (za (zp ix_tup (pv 3) zd) zc)) zc))) (zp ix_tup (pv 1) zd)) (cl0 D_by_pacts hr .nil rfl (za (pv 0) (za (zp ix_tup (pv 4) zd) zc)))))
   (zf (zo (z5 (za (zp ix_tup (pv 3) zd) (za (zp ix_tup (pv 4) zd) (za (pv 5) zc))))))))))),?_]
  have s16:=yt;have hbl:=hB.n;have hN:=hB.ne hG;have hpl:=qH bs;have hst:∀ e ∈ bs,e.2.2.length <= 600:=fun e he=>(hB.e e he).s;have hst3:∀ e ∈ bs,e.2.2.length <= 600:=fun e he=>by have:=hst e he; lia
  refine zl (fun σ H'=>Same H H' /\ ∃ R:Addr,LsA K H' R ((zh bs).map dR) /\ σ = [!!a,!!p,!!R,none,none,none]) ?_ ?_
  ·repeat (first | rfl' | simp only [xl,zB,zZ,xz,xB,zD])
   exact wG hA ⋯ fun D H' _ s' hL=>#[s',D,hL,rfl]
  rintro σ H1 ⟨s1,R,hR,rfl⟩:_;right;refine zl (fun σ H'=>Same H1 H' /\ ∃ (i:Nat),EndsAt (zh bs) e.1 i /\ ∃ p1:Addr,(∃ S1:Addr,H' p1 = some (.tup [.ref S1,.str (tx (wAt (zh bs) e.1 i))]) /\ LsA K H' S1 ((sAt (zh bs) e.1 i).map dG)) /\ σ = [!!a,!!p,!!R,!!p1,none,none]) ?_ ?_
  ·repeat (first | rfl' | simp only [xl,zB,zZ,xz,xB,zD])
   refine #[_,zm s1 hp,_,rfl,vH hR hN ⋯ hB.le hE.a (fun i p1 S1 H' hi s' hp1 hL _=>#[s',i,hi,p1,#[S1,hp1,hL],rfl]) fun hno H' s'=>q3 (.inl hno) H' (s1.trans s')]
  rintro σ H2 ⟨s2,i,hi,p1,⟨S1,hp1,hS1⟩,rfl⟩:_;have s12:=s1.trans s2;right;refine zl (fun σ H'=>Same H2 H' /\ ∃ (j:Nat),EndsAt (zh bs) e.2.1 j /\ ∃ p2:Addr,(∃ S2:Addr,H' p2 = some (.tup [.ref S2,.str (tx (wAt (zh bs) e.2.1 j))]) /\ LsA K H' S2 ((sAt (zh bs) e.2.1 j).map dG)) /\ σ = [!!a,!!p,!!R,!!p1,!!p2,none]) ?_ ?_
  ·repeat (first | rfl' | simp only [xl,zB,zZ,xz,xB,zD])
   refine #[_,zm s12 hp,_,rfl,vH (hR.same s2) hN ⋯ hB.le hE.b (fun j p2 S2 H' hj s' hp2 hL _=>#[s',j,hj,p2,#[S2,hp2,hL],rfl]) fun hno H' s'=>q3 (.inr hno) H' (s12.trans s')]
  rintro σ H3 ⟨s3,j,hj,p2,⟨S2,hp2,hS2⟩,rfl⟩:_;have s13:=s12.trans s3;have hp1':=s3 _ _ hp1;have hS1':=hS1.same s3;right;refine zl (fun σ H'=>H' = H3 /\ wAt (zh bs) e.1 i ≠ wAt (zh bs) e.2.1 j /\ σ = [!!a,!!p,!!R,!!p1,!!p2,none]) ?_ ?_
  ·repeat (first | rfl' | simp only [xl,zB,zZ,xz,xB,zD])
   refine #[_,SqT.of hp1',_,rfl,_,SqT.of hp2,_,rfl,rfl,xC (fun h=>?_) fun h=>?_]
   ·exact q1 i j H3 hi hj (wL (by injection h)) s13
   ·exact fun z=>h (by rw [z])
  rintro σ H4 ⟨rfl,hne,rfl⟩:_;have him:=hi.most;have hjm:=hj.most;have hl1:(stS (sAt (zh bs) e.1 i)).length = i:=by rw [Yt,qN]
  have hl2:(stS (sAt (zh bs) e.2.1 j)).length = j:=by rw [Yt,qN]
  rw [Vo]at hS1' hS2;have hA4:=Is.same s13 _ _ hA;have hb1:=Uw hst (yR (stS (sAt (zh bs) e.1 i)));have hb2:=Uw hst (stS (sAt (zh bs) e.2.1 j));rw [xj,hl1]at hb1;rw [hl2]at hb2;have hes:=hE.s;right;refine zl (fun σ H'=>Same H4 H' /\ ∃ S:Addr,H4 S = none /\ LsA K H' S ((yq bs e i j).2.2.map dSt) /\ σ = [!!a,!!p,!!R,!!p1,!!p2,!!S]) ?_ ?_
  ·repeat (first | rfl' | simp only [xl,zB,zZ,xz,xB,zD])
   refine #[_,SqT.of hp1',_,rfl,uu hS1'.is ⋯ fun B1 G1 _ t1 hB1=>WF (Is.same t1 _ _ hA4) hB1.is (by rw [xj]; lia) hst3 (by rw [<- hpl]; exact Vg (Wz hi.live)) fun C1 G2 hC1n t2 hC1=>?_];have t12:=t1.trans t2;obtain ⟨c1,hc1,ic1⟩:=id hC1;obtain ⟨es0,hs0,is0⟩:=hs.same (s13.trans t12);have lc1:=ic1.len;have ls0:=is0.len;rw [List.length_map]at lc1 ls0;refine #[_,zm (s13.trans t12) hp,_,rfl,C1,rfl,s,rfl,c1,hc1,es0,hs0,⋯,fun M hM=>?_];have t3:=zg (o:=.lst (c1 ++ es0)) hM;have t13:=t12.trans t3;refine #[_,SqT.of (t13 _ _ hp2),_,rfl,WF (Is.same t13 _ _ hA4) (hS2.same t13).is ⋯ hst3 (by rw [<- hpl]; exact Wz hj.live) fun C2 G3 hC2n t4 hC2=>?_];obtain ⟨c2,hc2,ic2⟩:=id hC2;have lc2:=ic2.len;rw [List.length_map]at lc2;refine #[C2,rfl,c1 ++ es0,t4 _ _ zb,c2,hc2,by rw [List.length_append]; lia,fun S hS=>?_];have t5:=zg (o:=.lst (c1 ++ es0 ++ c2)) hS;refine #[t13.trans (t4.trans t5),S,(t13.trans t4).free hS,#[_,zb,?_],rfl];show Iss K _ ((byL bs (yR (stS (sAt (zh bs) e.1 i))) ++ e.2.2 ++ byL bs (stS (sAt (zh bs) e.2.1 j))).map dSt) _;rw [List.map_append,List.map_append];exact Iss.append (Iss.append (Iss.same (t3.trans (t4.trans t5)) _ _ ic1) (Iss.same (t3.trans (t4.trans t5)) _ _ is0)) (Iss.same t5 _ _ ic2)
  rintro σ H5 ⟨s5,S,hSn,hS,rfl⟩:_;right
  repeat (first | rfl' | simp only [xl,zB,zZ,xz,xB,zD])
  refine #[_,SqT.of (s5 _ _ hp1'),_,rfl,_,SqT.of (s5 _ _ hp2),_,rfl,⋯,fun t ht=>?_];have st:=zg (o:=.tup [.str (tx (wAt (zh bs) e.1 i)),.str (tx (wAt (zh bs) e.2.1 j)),.ref S]) ht;exact q2 i j t S _ hi hj hne (s13.trans (s5.trans st)) (s13.free hSn) zb (hS.same st)
def EnF (K:PySem.W.Frag) (H0 H:Hp) (e:Ent) (v:V):Prop:=∃ p s,v = .ref p /\ H p = some (.tup [.str (tx e.1),.str (tx e.2.1),.ref s]) /\ LsA K H s (e.2.2.map dSt) /\ H0 s = none
def EnsF (K:PySem.W.Frag) (H0 H:Hp):List Ent -> List V -> Prop
 | [],vs=>vs = []
 | e :: es,vs=>∃ v r,vs = v :: r /\ EnF K H0 H e v /\ EnsF K H0 H es r
def EnsN (K:PySem.W.Frag) (H0 H:Hp) (a:Addr) (es:List Ent):Prop:=H0 a = none /\ ∃ xs,H a = some (.lst xs) /\ EnsF K H0 (hide a H) es xs
theorem jq {H H':Hp} {p:Addr} (s:Same H H') (h:H' p = none):H p = none:=by
 cases e:H p with
 | none=>rfl
 | some o =>
  rw [s _ _ e]at h;cases h
theorem EnsF.map {H0 H H1 H':Hp} (f:∀ e v,EnF K H0 H e v -> EnF K H1 H' e v):∀ {es:List Ent} {vs:List V},EnsF K H0 H es vs -> EnsF K H1 H' es vs
 | [],vs,h=>by simp only [EnsF]at h ⊢; exact h
 | e :: es,vs,h=>by
  simp only [EnsF]at h ⊢;obtain ⟨v,r,e0,h1,h2⟩:=h;exact #[v,r,e0,f _ _ h1,h2.map f]
theorem EnsF.a {H0 H:Hp}:∀ {es:List Ent} {vs:List V},EnsF K H0 H es vs -> EnsA K H es vs
 | [],vs,h=>by simp only [EnsF]at h; simp only [EnsA]; exact h
 | e :: es,vs,h=>by
  simp only [EnsF]at h;obtain ⟨v,r,e0,⟨p,s,e1,h1,h2,_⟩,h3⟩:=h;simp only [EnsA];exact #[v,r,e0,#[p,s,e1,SqT.of h1,h2],h3.a]
theorem EnsF.snoc {H0 H:Hp} {e:Ent} {v:V} (hv:EnF K H0 H e v):∀ {es:List Ent} {vs:List V},EnsF K H0 H es vs -> EnsF K H0 H (es ++ [e]) (vs ++ [v])
 | [],vs,h=>by
  simp only [EnsF]at h;subst h;simp only [List.nil_append,EnsF];exact #[v,[],rfl,hv,rfl]
 | e' :: es,vs,h=>by
  simp only [EnsF]at h;obtain ⟨x,r,rfl,hx,hr⟩:=h;simp only [List.cons_append,EnsF];exact #[x,r ++ [v],rfl,hx,hr.snoc hv]
theorem EnsF.all {H0 H:Hp}:∀ {es:List Ent} {vs:List V},EnsF K H0 H es vs -> ∀ v ∈ vs,∃ e ∈ es,EnF K H0 H e v
 | [],vs,h,v,hv=>by
  simp only [EnsF]at h;subst h;cases hv
 | e :: es,vs,h,v,hv=>by
  simp only [EnsF]at h;obtain ⟨x,r,rfl,h1,h2⟩:=h;rcases ac.mp hv with rfl | hv
  ·exact #[e,List.mem_cons_self,h1]
  ·obtain ⟨f,hf,g⟩:=h2.all v hv;exact #[f,List.mem_cons_of_mem _ hf,g]
theorem EnF.same {H0 H H':Hp} (q:Same H H') {e:Ent} {v:V} (h:EnF K H0 H e v):EnF K H0 H' e v:=by
 obtain ⟨p,s,e0,h1,h2,h3⟩:=h;exact #[p,s,e0,q _ _ h1,h2.same q,h3]
theorem EnsF.same {H0 H H':Hp} {es:List Ent} {vs:List V} (h:EnsF K H0 H es vs) (q:Same H H'):EnsF K H0 H' es vs:=h.map fun _ _ h=>h.same q
theorem EnF.new {D p s:Addr} {H0 H:Hp} {e:Ent} {ys:List V} (hD:H D = some (.lst ys)) (hp:H p = some (.tup [.str (tx e.1),.str (tx e.2.1),.ref s])) (hs:LsA K H s (e.2.2.map dSt)) (hsD:s ≠ D) (hf:H0 s = none):EnF K H0 (hide D H) e (.ref p):=by
 obtain ⟨zs,hz,hi⟩:=hs;have hpD:p ≠ D:=fun z=>by rw [z,hD]at hp; cases hp
 exact #[p,s,rfl,by rw [zt hpD]; exact hp,#[zs,by rw [zt hsD]; exact hz,ud hD _ _ hi],hf]
theorem EnsN.m {H0 H:Hp} {a:Addr} {es:List Ent} (h:EnsN K H0 H a es):EnsM K H a es:=by
 obtain ⟨_,xs,h1,h2⟩:=h;exact #[xs,h1,h2.a.same hide_same]
theorem EnsN.same {H0 H H':Hp} {a:Addr} {es:List Ent} (h:EnsN K H0 H a es) (q:Same H H'):EnsN K H0 H' a es:=by
 obtain ⟨h0,xs,h1,h2⟩:=h;exact #[h0,xs,q _ _ h1,h2.same (zJ q)]
theorem EnsN.back {H0 H1 H:Hp} {a:Addr} {es:List Ent} (h:EnsN K H0 H a es) (f:∀ b,H0 b = none -> H1 b = none):EnsN K H1 H a es:=by
 obtain ⟨h0,xs,h1,h2⟩:=h;refine #[f _ h0,xs,h1,h2.map fun _ _ h=>?_];obtain ⟨p,s,e0,h1,h2,h3⟩:=h;exact #[p,s,e0,h1,h2,f _ h3]
theorem EnsN.samT {H0 H H':Hp} {a T:Addr} {ps:Array Value} {es:List Ent} (h:EnsN K H0 H a es) (q:SamT T H H') (hT:H T = some (.tbl ps)):EnsN K H0 H' a es:=by
 obtain ⟨h0,xs,h1,h2⟩:=h;have hTa:T ≠ a:=fun z=>by rw [z,h1]at hT; cases hT
 have q':SamT T (hide a H) (hide a H'):=fun b o hb e=>by
  by_cases hba:b = a
  ·rw [hba,zQ]at e;cases e
  ·rw [zt hba]at e ⊢;exact q b o hb e
 refine #[h0,xs,q.at hT h1 (fun _ z=>by cases z),h2.map fun _ _ h=>?_];obtain ⟨p,s,e0,g1,g2,g3⟩:=h;exact #[p,s,e0,q'.at (ps:=ps) (by rw [zt hTa]; exact hT) g1 (fun _ z=>by cases z),g2.samT q' (by rw [zt hTa]; exact hT),g3]
def wI (K:PySem.W.Frag) (CF:Addr):Sp:=fun vs H Q E=>∃ (p s:Addr) (e:Ent),vs = [.ref p] /\ SqT K H p [.str (tx e.1),.str (tx e.2.1),.ref s] /\ Is K H (.lst (e.2.2.map dSt)) (.ref s) /\ e.1.length <= 10000 /\ e.2.1.length <= 10000 /\ (¬ ku e -> Q .non H) /\ (ku e -> E (.ref CF) none H)
theorem ke {CF p s:Addr} {e:Ent} {H:Hp} {Q:VK} {E:XK} (h1:SqT K H p [.str (tx e.1),.str (tx e.2.1),.ref s]) (h2:Is K H (.lst (e.2.2.map dSt)) (.ref s)) (h3:e.1.length <= 10000) (h4:e.2.1.length <= 10000) (h5:¬ ku e -> Q .non H) (h6:ku e -> E (.ref CF) none H):wI K CF [.ref p] H Q E:=#[p,s,e,rfl,h1,h2,h3,h4,h5,h6]
theorem wo:sQz 1 ["entry"] yp:=by nofun
theorem wq {f CF:Addr} {fd:FuncData} (B:Bt mg) (T:Jn K mg CF) (TM:TMo mg) (F:("refuse_beyond"^^^yp))  :(1|||["entry"]) (wI K CF):=by
 obtain ⟨⟨t9,g9⟩,⟨t8,g8⟩⟩:=And.intro TM.s TM.d;refine Fun.okX F wo (fun vs H Q E h=>?_) (fun cdv A outer s H vs Q E hr hx h=>?_)
 ·obtain ⟨p,s,e,rfl,_⟩:=h;rfl
 ·obtain ⟨p,s,e,rfl,hp,hs,ha,hb,q1,q2⟩:=h
  refine #[_,(zj (yb (zK Wc (zH B.len (zp ix_tup (pv 0) zd)) (xx (v:=.int 240) rfl g9 #[t9,rfl]) (zP _))
    (zf (ym hx rfl T.xi.toXC T.ini rfl T.g (za yv zc)))
    zu)
   (zf (yb (zK Wc (wu (Ve rfl) rfl B.max uH (za (zH B.len (zp ix_tup (pv 0) zd)) (za (zH B.len (zp ix_tup (pv 0) zd)) zc))) (xx (v:=.int 60) rfl g8 #[t8,rfl]) (zP _))
    (zf (ym hx rfl T.xi.toXC T.ini rfl T.g (za yv zc)))
    zu))),?_]
  have s16:=yt;simp only [Is]at hs;obtain ⟨_,zs,e0,hZ,hI⟩:=hs;cases e0;have hzl:=hI.len;rw [List.length_map]at hzl;refine zl (fun σ H'=>H' = H /\ e.2.2.length <= 240 /\ σ = [!!p]) ?_ ?_
  ·repeat (first | rfl' | simp only [xl,zB,zZ,xz,xB,zD])
   refine #[_,hp,_,rfl,_,.inl #[_,hZ,rfl],xC (fun h=>#[⋯,q2 (.inl ⋯)]) fun h=>by lia]
  rintro σ H1 ⟨rfl,h1,rfl⟩:_;right
  repeat (first | rfl' | simp only [xl,zB,zZ,xz,xB,zD])
  refine #[_,hp,_,rfl,_,#[by rw [zL]; lia,rfl],_,hp,_,rfl,_,#[by rw [zL]; lia,rfl],?_];rw [zL,zL];refine xC (fun h=>#[⋯,q2 ?_]) fun h=>q1 ?_
  ·unfold ku;split at h <;> lia
  ·unfold ku;split at h <;> lia
theorem Wf {k:Nat} {l:()} {ns:List Int} {bs:List Ent} {e:Ent} {i j:Nat} (hB:BG k l ns bs) (hE:EB l e) (hF:¬ ku (yq bs e i j)):EB l (yq bs e i j):=by
 unfold ku at hF;exact #[⋯,⋯,⋯,qV hE.ma hB.mem i,qV hE.mb hB.mem j]
theorem BG.snoc {k:Nat} {l:()} {ns:List Int} {bs:List Ent} {d:Ent} (h:BG k l ns bs) (hn:bs.length + 1 < 64) (hd:EB l d) (hne:d.1 ≠ d.2.1):BG k l ns (bs ++ [zU k l ns d]):=by
 refine #[by rw [List.length_append]; exact hn,fun e he=>?_,fun e he=>?_]
 ·rcases af.mp he with he | he
  ·exact h.e e he
  ·rw [ag.mp he];exact hd.rule
 ·rcases af.mp he with he | he
  ·exact h.lt e he
  ·rw [ag.mp he];exact Zm hd hne
theorem Xq {CF a p s:Addr} {k:Nat} {l:()} {ns:List Int} {bs:List Ent} {e:Ent} {H:Hp} {Q:VK} {E:XK} (h1:OG l ns k) (h2:Is K H (.lst (bs.map dE)) (.ref a)) (h3:BG k l ns bs) (h4:SqT K H p [.str (tx e.1),.str (tx e.2.1),.ref s]) (h5:LsA K H s (e.2.2.map dSt)) (h6:EB l e)
  (q1:∀ i j H',EndsAt (zh bs) e.1 i -> EndsAt (zh bs) e.2.1 j -> wAt (zh bs) e.1 i = wAt (zh bs) e.2.1 j -> Same H H' -> Q .non H')
  (q2:∀ i j p' s' H',EndsAt (zh bs) e.1 i -> EndsAt (zh bs) e.2.1 j -> wAt (zh bs) e.1 i ≠ wAt (zh bs) e.2.1 j -> Same H H' -> H s' = none -> H' p' = some (.tup [.str (tx (yq bs e i j).1),.str (tx (yq bs e i j).2.1),.ref s']) -> LsA K H' s' ((yq bs e i j).2.2.map dSt) -> Q (.ref p') H')
  (q3:(∀ i,¬ EndsAt (zh bs) e.1 i) \/ (∀ j,¬ EndsAt (zh bs) e.2.1 j) -> ∀ H',Same H H' -> E (.ref CF) none H'):jc K CF [.ref a,.ref p] H Q E:=#[a,p,s,k,l,ns,bs,e,rfl,h1,h2,h3,h4,h5,h6,q1,q2,q3]
theorem XJ {k:Nat} {l:()} {ns:List Int} {bs:List Ent} {e:Ent} {i j:Nat} (hB:BG k l ns bs) (hG:OG l ns k) (hE:EB l e) (hi:i <= 40) (hj:j <= 40):(yq bs e i j).1.length <= 10000 /\ (yq bs e i j).2.1.length <= 10000:=by
 have h1:=uQ (l:=e.1) (m:=60) (hB.ne hG) (fun p hp=>(hB.le p hp).2) i;have h2:=uQ (l:=e.2.1) (m:=60) (hB.ne hG) (fun p hp=>(hB.le p hp).2) j;have h3:=hE.a;have h4:=hE.b;show (wAt (zh bs) e.1 i).length <= 10000 /\ (wAt (zh bs) e.2.1 j).length <= 10000;lia
def uA (K:PySem.W.Frag) (CO CR CW CF:Addr):Sp:=fun vs H Q E=>∃ (o a:Addr) (k:Nat) (l:()) (ns:List Int) (zs:List Ent),vs = [.ref o,.ref a] /\ OrdAt CO CR CW H o k l ns /\ OG l ns k /\ EnsL K H a zs /\ zs.length < 64 /\ (∀ e ∈ zs,EB l e) /\
 (∀ (bs:List Ent) (D:Addr) (H':Hp),yJ k l ns [] zs (some bs) -> BG k l ns bs -> Same H H' -> EnsN K H H' D bs -> Q (.ref D) H') /\ (yJ k l ns [] zs none -> ∀ H',Same H H' -> E (.ref CF) none H')
theorem Yq {CO CR CW CF o a:Addr} {k:Nat} {l:()} {ns:List Int} {zs:List Ent} {H:Hp} {Q:VK} {E:XK} (h1:OrdAt CO CR CW H o k l ns) (h2:OG l ns k) (h3:EnsL K H a zs) (h4:zs.length < 64) (h5:∀ e ∈ zs,EB l e)
  (q1:∀ (bs:List Ent) (D:Addr) (H':Hp),yJ k l ns [] zs (some bs) -> BG k l ns bs -> Same H H' -> EnsN K H H' D bs -> Q (.ref D) H') (q2:yJ k l ns [] zs none -> ∀ H',Same H H' -> E (.ref CF) none H'):uA K CO CR CW CF [.ref o,.ref a] H Q E:=#[o,a,k,l,ns,zs,rfl,h1,h2,h3,h4,h5,q1,q2]
def J9 (K:PySem.W.Frag) (H1 H':Hp) (bs:List Ent) (e:Ent) (v:V):Prop:=∃ i j,EndsAt (zh bs) e.1 i /\ EndsAt (zh bs) e.2.1 j /\ ((wAt (zh bs) e.1 i = wAt (zh bs) e.2.1 j /\ v = .non) \/
 (wAt (zh bs) e.1 i ≠ wAt (zh bs) e.2.1 j /\ ∃ p s:Addr,v = .ref p /\ H1 s = none /\ H' p = some (.tup [.str (tx (yq bs e i j).1),.str (tx (yq bs e i j).2.1),.ref s]) /\ LsA K H' s ((yq bs e i j).2.2.map dSt)))
def JO (K:PySem.W.Frag) (H:Hp) (D:Addr) (k:Nat) (l:()) (ns:List Int) (zs:List Ent) (i:Nat) (H':Hp):Prop:=∃ (bs:List Ent) (acc:List V),Same H H' /\ H' D = some (.lst acc) /\ EnsF K H (hide D H') bs acc /\ BG k l ns bs /\ bs.length <= i /\ ∀ r,yJ k l ns bs (zs.drop i) r -> yJ k l ns [] zs r
theorem sc_built_anew:sQz 2 ["order", "entries", "built", "entry", "lower"] y0:=by nofun
theorem uU {f CO CR CW CF:Addr} {fd:FuncData} (B:Bt mg)  (F:("built_anew"^^^y0)) (D_brought_down:(5>>>"brought_down") ["entries", "entry"] [] (jc K CF)) (D_refuse_beyond:(1>>>"refuse_beyond") ["entry"] [] (wI K CF)) (D_as_rule:(4<<<"as_rule") ["order", "entry"] [] (y6 K CO CR CW)):(6|||["order", "entries"]) (uA K CO CR CW CF):=by
 refine Fun.okX F sc_built_anew (fun vs H Q E h=>?_) (fun cdv A outer s H vs Q E hr hx h=>?_)
 ·obtain ⟨o,a,k,l,ns,zs,rfl,_⟩:=h;rfl
 ·obtain ⟨o,a,k,l,ns,zs,rfl,ho,hG,hA,hz,hE,q1,q2⟩:=h
  refine #[_,(zj (zw 2 sc_built_anew.nd (wk zc))
   (zj (yH PassesOwn.leaving rfl (yi (pv 1)) (zF (i:=3) sc_built_anew.nd rfl (.inl rfl))
    (zj (zw 4 sc_built_anew.nd (clP hx D_brought_down hr .nil rfl (za (pv 2) (za (pv 3) zc))))
    (zf (yb (zK op_notN' (pv 4) vF (zP _))
     (zj (yQ (clP hx D_refuse_beyond hr .nil rfl (za (pv 4) zc)))
     (zf (yQ (wW PySem.F.plainAttrs_list PySem.F.slot_list_append PySem.F.type_list_append xg (pv 2) (za (cl0 D_as_rule hr .nil rfl (za (pv 0) (za (pv 4) zc))) zc)))))
     zu))))
   (zf (zo (pv 2))))),?_]
  have s16:=yt;obtain ⟨xs,hX,hI⟩:=id hA;have hxl:=hI.len;refine zl (fun σ H'=>Same H H' /\ ∃ D:Addr,H D = none /\ H' D = some (.lst []) /\ σ = [!!o,!!a,!!D,none,none]) ?_ ?_
  ·repeat (first | rfl' | simp only [xl,zB,zZ,xz,xB,zD])
   exact #[⋯,fun p hp=>#[zg hp,p,hp,zb,rfl]]
  rintro σ H0 ⟨s0,D,hD,hD0,rfl⟩:_;right;refine zl (fun σ H'=>JO K H D k l ns zs zs.length H' /\ ∃ (v3 v4:Option V),σ = [!!o,!!a,!!D,v3,v4]) ?_ ?_
  ·repeat (first | rfl' | simp only [xl,zB,zZ,xz,xB,zD])
   refine #[#[_,s0.seq hX],ForL.by (xs:=xs) (fun i σ H'=>JO K H D k l ns zs i H' /\ ∃ (v3 v4:Option V),σ = [!!o,!!a,!!D,v3,v4]) #[#[[],[],s0,hD0,by simp only [EnsF],#[∅,fun e he=>(nomatch he),fun e he=>(nomatch he)],Nat.le_refl _,fun r h=>h],none,none,rfl] (fun i σ H' _ ⟨⟨_,_,h,_⟩,_⟩=>h.seq hX) ?_ ?_]
   ·refine nm4 ?_;rintro i x σ H1 hx ⟨⟨bs,acc,s1,hH1,hI1,hB,hbi,hr⟩,v3,v4,rfl⟩:_;have hix:=(ae.mp hx).1;obtain ⟨e,pe,se,hei,rfl,hqe,hse⟩:=hI.get hx;have hEe:=hE e (List.mem_of_getElem? hei)
    have hdrop:zs.drop i = e :: zs.drop (i + 1):=by
     obtain ⟨h1,h2⟩:=ae.mp hei;rw [List.drop_eq_getElem_cons h1,h2]
    rw [hdrop]at hr;have hal:=hI1.a.len;have hbn:=hB.n
    have hIs:Is K H1 (.lst (bs.map dE)) (.ref D):=by
     simp only [Is];exact #[D,acc,rfl,SqL.of hH1,(hI1.a.same hide_same).iss]
    right;simp only [yW,List.set_cons_succ,List.set_cons_zero];refine zl (fun σ H'=>Same H1 H' /\ ∃ v:V,J9 K H1 H' bs e v /\ σ = [!!o,!!a,!!D,!!pe,some (v)]) ?_ ?_
    ·repeat (first | rfl' | simp only [xl,zB,zZ,xz,xB,zD])
     exact Xq hG hIs hB (zm s1 hqe) (hse.same s1) hEe (fun i' j' H' a1 a2 a3 s'=>#[s',i',j',a1,a2,.inl #[a3,rfl]]) (fun i' j' p' s' H' a1 a2 a3 t' a4 a5 a6=>#[t',i',j',a1,a2,.inr #[a3,p',s',rfl,a4,a5,a6]]) fun h H' s'=>q2 (hr _ (.stuck h)) H' (s1.trans s')
    rintro σ H2 ⟨s2,v,⟨i',j',hi',hj',hc⟩,rfl⟩:_;right;rcases hc with ⟨hw,rfl⟩ | ⟨hw,p',s',rfl,hsn,hp',hL'⟩
    ·repeat (first | rfl' | simp only [xl,zB,zZ,xz,xB,zD])
     exact #[bs,acc,s1.trans s2,s2 _ _ hH1,hI1.same (zJ s2),hB,⋯,fun r h=>hr r (.same hi' hj' hw h)]
    ·repeat (first | rfl' | simp only [xl,zB,zZ,xz,xB,zD])
     try rw [if_pos not_false]
     have hdl:=XJ hB hG hEe hi'.most hj'.most;refine zl (fun σ H'=>H' = H2 /\ ¬ ku (yq bs e i' j') /\ σ = [!!o,!!a,!!D,!!pe,!!p']) ?_ ?_
     ·repeat (first | rfl' | simp only [xl,zB,zZ,xz,xB,zD])
      exact ke (SqT.of hp') hL'.is hdl.1 hdl.2 (fun h=>#[rfl,h]) fun h=>q2 (hr _ (.far hi' hj' hw h)) H2 (s1.trans s2)
     rintro σ H3 ⟨rfl,hF,rfl⟩:_;have hEd:=Wf hB hEe hF;have hH3:=s2 _ _ hH1
     have fin:∀ (v:V) (H4:Hp),Same H3 H4 -> EnF K H (hide D H4) (zU k l ns (yq bs e i' j')) v -> JO K H D k l ns zs (i + 1) (upd H4 D (.lst (acc ++ [v]))):=fun v H4 s4 hv=>by
      refine #[bs ++ [zU k l ns (yq bs e i' j')],acc ++ [v],zA (s1.trans (s2.trans s4)) hD,zb,?_,hB.snoc ⋯ hEd hw,by rw [List.length_append]; show bs.length + 1 <= i + 1; lia,fun r h=>hr r (.new hi' hj' hw hF h)];exact (hI1.same ((zJ (s2.trans s4)).trans yS)).snoc (hv.same yS)
     right
     repeat (first | rfl' | simp only [xl,zB,zZ,xz,xB,zD])
     refine #[.inl #[_,SqL.of hH3],vB (ho.same (s1.trans s2)) hG (SqT.of hp') hL'.is hEd (fun er H4 s4=>#[acc,s4 _ _ hH3,⋯,fin _ _ s4 ?_]) fun p2 t2 H4 s4 htn hp2 hL2=>#[acc,s4 _ _ hH3,⋯,fin _ _ s4 ?_]]
     ·rw [er];exact EnF.new (s4 _ _ hH3) (s4 _ _ hp') (hL'.same s4) (fun z=>by rw [z,hH1]at hsn; cases hsn) (jq s1 hsn)
     ·exact EnF.new (s4 _ _ hH3) hp2 hL2 (fun z=>by rw [z,hH3]at htn; cases htn) (jq (s1.trans s2) htn)
   ·rintro σ H' ⟨h,v3,v4,rfl⟩;rw [hxl]at h;exact #[h,_,_,rfl]
  rintro σ H2 ⟨⟨bs,acc,s2,hH2,hI2,hB,hbi,hr⟩,v3,v4,rfl⟩:_;rw [List.drop_length]at hr;right
  repeat (first | rfl' | simp only [xl,zB,zZ,xz,xB,zD])
  exact q1 bs D H2 (hr _ (.nil bs)) hB s2 #[hD,acc,hH2,hI2]
theorem XF (rs ss:List zE):xJ (rs.map dR) (ss.map dR) = decide (rs = ss):=by
 induction rs generalizing ss with
 | nil=>cases ss with
  | nil=>simp [xJ]
  | cons s ss=>simp [xJ]
 | cons r rs ih=>cases ss with
  | nil=>simp [xJ]
  | cons s ss =>
   rw [List.map_cons,List.map_cons,xJ,ih]
   have h:eqD (dR r) (dR s) = decide (r = s):=by
    obtain ⟨a,b⟩:=r;obtain ⟨c,d⟩:=s
    have e1:∀ x y:(),eqD (dS x) (dS y) = decide (x = y):=fun x y=>by
     have:eqD (dS x) (dS y) = decide (tx x = tx y):=by simp only [dS,eqD]; rfl
     rw [this];exact decide_eq_decide.mpr #[wL,fun h=>by rw [h]]
    simp only [dR,eqD,xJ,e1];by_cases h1:a = c <;> by_cases h2:b = d <;> simp [h1,h2]
   rw [h];by_cases h1:r = s <;> by_cases h2:rs = ss <;> simp [h1,h2]
theorem Lined.eb {k:Nat} {l:()} {ns:List Int} {es zs:List Ent} (h:Lined k l ns es zs) (hE:∀ e ∈ es,EB l e):∀ e ∈ zs,EB l e:=fun e he=>by
 have hm:=h.perm.mem_iff.mp he;unfold zY at hm;obtain ⟨y,hy,rfl⟩:=aa.mp hm;exact (hE y (al.mp hy).1).rule
theorem Lined.len {k:Nat} {l:()} {ns:List Int} {es zs:List Ent} (h:Lined k l ns es zs):zs.length <= es.length:=by
 rw [h.perm.length_eq];exact xX k l ns es
def Yb (K:PySem.W.Frag) (CO CR CW T CF:Addr):Sp:=fun vs H Q E=>∃ (o a:Addr) (k:Nat) (l:()) (ns:List Int) (es:List Ent),vs = [.ref o,.ref a] /\ OrdAt CO CR CW H o k l ns /\ OG l ns k /\ EnsL K H a es /\ es.length < 64 /\ (∀ e ∈ es,EB l e) /\ TabOk H T lp lq /\
 (∀ (bs:List Ent) (D:Addr) (H':Hp),Y2 k l ns 20 es (some bs) -> BG k l ns bs -> SamT T H H' -> qL T lp H H' -> TabOk H' T lp lq -> EnsN K H H' D bs -> Q (.ref D) H') /\ (Y2 k l ns 20 es none -> ∀ H',SamT T H H' -> TabOk H' T lp lq -> E (.ref CF) none H')
def KT (K:PySem.W.Frag) (T:Addr) (H:Hp) (k:Nat) (l:()) (ns:List Int) (es:List Ent) (n:Nat) (H':Hp) (b:Addr):Prop:=∃ fs:List Ent,SamT T H H' /\ qL T lp H H' /\ TabOk H' T lp lq /\ (∀ r,Y2 k l ns n fs r -> Y2 k l ns 20 es r) /\ EnsL K H' b fs /\ fs.length < 64 /\ ∀ e ∈ fs,EB l e
theorem sc_thinned:sQz 2 ["order", "entries", "turn", "lined_up"] w9:=by nofun
theorem kE {f CO CR CW TB CF:Addr} {fd:FuncData} (B:Bt mg) (T:Jn K mg CF) (TM:TMo mg) (F:("thinned"^^^w9)) (D_in_order:(6<<<"in_order") ["order", "entries"] [] (uf K CO CR CW TB)) (D_built_anew:(6>>>"built_anew") ["order", "entries"] [] (uA K CO CR CW CF)) (D_pairs_of:(1<<<"pairs_of") ["entries"] [] (wx K)):(7|||["order", "entries"]) (Yb K CO CR CW TB CF):=by
 obtain ⟨t9,g9⟩:=TM.p;refine Fun.okX F sc_thinned (fun vs H Q E h=>?_) (fun cdv A outer s H vs Q E hr hx h=>?_)
 ·obtain ⟨o,a,k,l,ns,es,rfl,_⟩:=h;rfl
 ·obtain ⟨o,a,k,l,ns,es,rfl,ho,hG,hA,hz,hE,hTab,q1,q2⟩:=h
  refine #[_,(zj (yH PassesOwn.leaving rfl (yI rfl B.range (za (xx (v:=.int 20) rfl g9 #[t9,rfl]) zc)) (zF (i:=2) sc_thinned.nd rfl (.inl rfl))
    (zj (zw 3 sc_thinned.nd (cl0 D_in_order hr .nil rfl (za (pv 0) (za (pv 1) zc))))
    (zj (zw 1 sc_thinned.nd (clP hx D_built_anew hr .nil rfl (za (pv 0) (za (pv 3) zc))))
    (zf (yb (zK (W5 (wF hr)) (cl0 D_pairs_of hr .nil rfl (za (pv 1) zc)) (cl0 D_pairs_of hr .nil rfl (za (pv 3) zc)) (zP _))
     (zf (zo (pv 1)))
     zu)))))
   (zf (ym hx rfl T.xi.toXC T.ini rfl T.g (za yv zc)))),?_]
  have s16:=yt;obtain ⟨ps0,hps0,_⟩:=id hTab;refine zl (fun σ H'=>∃ b:Addr,KT K TB H k l ns es 0 H' b) ?_ ?_
  ·repeat (first | rfl' | simp only [xl,zB,zZ,xz,xB,zD])
   refine #[⋯,⋯,ForR.by (fun i σ H'=>∃ (b:Addr) (v2 v3:Option V),KT K TB H k l ns es (20 - i) H' b /\ σ = [!!o,!!b,v2,v3]) #[a,none,none,#[es,SamT.of (Same.refl _),fun _ _ _ h=>h,hTab,fun r h=>h,hA,hz,hE],rfl] ?_ ?_]
   ·refine nm3 ?_;rintro i σ H1 hi ⟨b,v2,v3,⟨fs,s1,o1,hT1,hr,hF,hfl,hFE⟩,rfl⟩:_;have ho1:=ho.samT s1 hps0;have hi20:i < 20:=hi;obtain ⟨n,hn⟩:∃ n,20 - i = n + 1:=#[20 - i - 1,⋯];rw [hn]at hr;right;simp only [yW,List.set_cons_succ,List.set_cons_zero];refine zl (fun σ H'=>SamT TB H1 H' /\ qL TB lp H1 H' /\ TabOk H' TB lp lq /\ ∃ (z:Addr),(∃ zs:List Ent,Lined k l ns fs zs /\ EnsM K H' z zs) /\ ∃ v2,σ = [!!o,!!b,v2,!!z]) ?_ ?_
    ·repeat (first | rfl' | simp only [xl,zB,zZ,xz,xB,zD])
     exact YH ho1 hG hF hfl hFE hT1 fun D zs H' s' o' hT' _ hLn hM=>#[s',o',hT',D,#[zs,hLn,hM],rfl]
    rintro σ H2 ⟨s2,o2,hT2,z,⟨zs,hLn,hZ⟩,v2,rfl⟩:_;have s12:=s1.trans s2;have ho2:=ho.samT s12 hps0;have hzE:=hLn.eb hFE;have hzl:=hLn.len;right;refine zl (fun σ H'=>Same H2 H' /\ ∃ (c:Addr),(∃ bs:List Ent,yJ k l ns [] zs (some bs) /\ BG k l ns bs /\ EnsN K H2 H' c bs) /\ σ = [!!o,!!c,v2,!!z]) ?_ ?_
    ·repeat (first | rfl' | simp only [xl,zB,zZ,xz,xB,zD])
     exact Yq ho2 hG hZ.l ⋯ hzE (fun bs D H' hb hB s' hM=>#[s',D,#[bs,hb,hB,hM],rfl]) fun hb H' s'=>q2 (hr _ (.bad hLn hb)) H' (s12.trans (SamT.of s')) (hT2.same s')
    rintro σ H3 ⟨s3,c,⟨bs,hb,hB,hN⟩,rfl⟩:_;have hM:=hN.m;have hbn:=hB.n;right
    repeat (first | rfl' | simp only [xl,zB,zZ,xz,xB,zD])
    refine wG hM.l.is ⋯ fun P1 H4 _ s4 hP1=>wG ((hZ.same s3).same s4).l.is ⋯ fun P2 H5 _ s5 hP2=>k7 (.inl #[(hP1.same s5).is,hP2.is]) (Nat.lt_of_le_of_lt (Qi _) ∅) ?_;rw [XF];have s45:=s4.trans s5;have s15:=s12.trans (SamT.of (s3.trans s45));have hT5:=hT2.same (s3.trans s45);have o15:qL TB lp H H5:=fun pos' q' h1 h2=>(o2 pos' q' h1 (o1 pos' q' h1 h2)).same' (s3.trans s45);refine #[_,rfl,xC (fun h=>?_) fun h=>?_]
    ·exact q1 bs c H5 (hr _ (.done hLn hb (of_decide_eq_true h))) hB s15 o15 hT5 ((hN.back fun b h=>let #[_,ht,_]:=hT2; s12.free ht h).same s45)
    ·have e:20 - (i + 1) = n:=⋯;rw [e];exact #[bs,s15,o15,hT5,fun r h'=>hr r (.more hLn hb (fun z=>h (decide_eq_true z)) h'),(hM.same s45).l,hbn,hB.e]
   ·rintro σ H' ⟨b,v2,v3,h,rfl⟩;exact #[b,h]
  rintro σ H2 ⟨b,fs,s2,_,hT2,hr,_⟩:_;right
  repeat (first | rfl' | simp only [xl,zB,zZ,xz,xB,zD])
  exact #[⋯,q2 (hr _ (.out fs)) H2 s2 hT2]
def uF (K:PySem.W.Frag):Sp:=fun vs H Q _=>∃ (a:Addr) (ns:List Int) (k:Int),vs = [.ref a,.int k] /\ SqL K H a (ns.map V.int) /\ (∀ z ∈ ns,wM z) /\ 0 <= k /\ ∀ c:Int,wM c -> Q (.int c) H
theorem xk {a:Addr} {ns:List Int} {k:Int} {H:Hp} {Q:VK} {E:XK} (hS:SqL K H a (ns.map V.int)) (hB:∀ z ∈ ns,wM z) (hk:0 <= k) (h:∀ c:Int,wM c -> Q (.int c) H):uF K [.ref a,.int k] H Q E:=#[a,ns,k,rfl,hS,hB,hk,h]
theorem UG:sQz 2 ["_law_script", "_law_k"] ZM:=by nofun
theorem Vy {f:Addr} {fd:FuncData} (B:Bt mg)  (F:("_law_cell"^^^ZM))  :(1&&&["_law_script", "_law_k"]) (uF K):=by
 refine F.ok UG (fun vs H Q E h=>?_) (fun cdv A outer s H vs Q E hr h=>?_)
 ·obtain ⟨a,ns,k,rfl,_⟩:=h;rfl
 ·obtain ⟨a,ns,k,rfl,hS,hB,hk,q⟩:=h
  refine #[_,(zy (yb (zK V7 (pv 1) (zH B.len (pv 0)) (zP _))
    (zf (zo (zp WW (pv 0) (pv 1))))
    zu)
   (zf (zo zd))),?_]
  have s16:=yt
  rfl'
  refine #[_,.inl #[_,hS,rfl],xC (fun c=>?_) (fun c=>q 0 (by unfold wM; decide))];obtain ⟨v,h1,h2⟩:=vI hk c;rw [List.getElem?_map]at h2;obtain ⟨z,hz,rfl⟩:=ak.mp h2;exact .inl #[_,hS,_,h1,q z (hB z (List.mem_of_getElem? hz))]
def wz:Sp:=fun vs H Q _=>∃ (c t:Int),vs = [.int c,.int t] /\ wM c /\ 0 <= t /\ t <= 100 /\ ∀ z:Int,0 <= z -> Q (.int z) H
theorem yE {c t:Int} {H:Hp} {Q:VK} {E:XK} (hc:wM c) (h0:0 <= t) (h1:t <= 100) (q:∀ z:Int,0 <= z -> Q (.int z) H):wz [.int c,.int t] H Q E:=#[c,t,rfl,hc,h0,h1,q]
theorem sc_mixed:sQz 2 ["_law_cell_here", "_law_turn", "_law_number"] qP:=by nofun
theorem Wn {f:Addr} {fd:FuncData} (B:Bt mg)  (F:("_law_mixed"^^^qP))  :(1&&&["_law_cell_here", "_law_turn"]) wz:=by
 refine F.ok sc_mixed (fun vs H Q E h=>?_) (fun cdv A outer s H vs Q E hr h=>?_)
 ·obtain ⟨c,t,rfl,_⟩:=h;rfl
 ·obtain ⟨c,t,rfl,hc,h0,h1,q⟩:=h
  refine #[_,(zy (zw 2 sc_mixed.nd (zr z8 (zr qA (zr Xz (pv 0) (pv 0)) zd) (zr qA (zr qA (pv 0) zd) (zr z8 (pv 1) zd))))
   (zf (zo (zr yN (zr yG (zr z8 (pv 2) (zr qA (pv 1) zd)) zd) zd)))),?_]
  have s16:=yt
  rfl'
  exact #[hc,hc,.inr #[∅,∅],.inr #[∅,∅],.inr #[⋯,⋯],.inr #[∅,∅],∅,#[∅,∅],q _ (Int.ediv_nonneg (Int.emod_nonneg _ ∅) ∅)]
def we:Sp:=fun vs H Q _=>∃ c m:Int,vs = [.int c,.int m] /\ wM c /\ 0 <= m /\ m <= 26 /\ ∀ l:(),(l.length:Int) = m -> l.Nodup -> jh l -> Q (.str (tx l)) H
theorem qO {c m:Int} {H:Hp} {Q:VK} {E:XK} (h:wM c) (h0:0 <= m) (h1:m <= 26) (q:∀ l:(),(l.length:Int) = m -> l.Nodup -> jh l -> Q (.str (tx l)) H):we [.int c,.int m] H Q E:=#[c,m,rfl,h,h0,h1,q]
def KQ (c m:Int) (i:Nat) (σ:L2.St):Prop:=∃ (left found:()) (number:Int) (v5 v6:Option V),found.length = i /\ (found ++ left).Perm alpha /\ σ = [~~~!c,~~~!m,~~~left,~~~!number,~~~found,v5,v6]
theorem sc_letters:sQz 2 ["_law_cell_here", "_law_many", "_law_left", "_law_number", "_law_letters_here", "_law_k", "_law_at"] wU:=by nofun
theorem kK {f:Addr} {fd:FuncData} (B:Bt mg)  (F:("_law_letters"^^^wU)) (D_mixed:(1<<<"_law_mixed") ["_law_cell_here", "_law_turn"] [] wz):(2&&&["_law_cell_here", "_law_many"]) we:=by
 refine F.ok sc_letters (fun vs H Q E h=>?_) (fun cdv A outer s H vs Q E hr h=>?_)
 ·obtain ⟨c,m,rfl,_⟩:=h;rfl
 ·obtain ⟨c,m,rfl,hc,h0,h1,q⟩:=h
  refine #[_,(zj (zw 2 sc_letters.nd yv)
   (zj (zw 3 sc_letters.nd (cl0 D_mixed hr .nil rfl (za (pv 0) (za zd zc))))
   (zj (zw 4 sc_letters.nd yv)
   (zj (yH PassesOwn.never rfl (yI rfl B.range (za (pv 1) zc)) (zF (i:=5) sc_letters.nd rfl (.inl rfl))
    (zj (zw 6 sc_letters.nd (zr yG (pv 3) (zH B.len (pv 2))))
    (zj (zw 3 sc_letters.nd (zr yN (pv 3) (zH B.len (pv 2))))
    (zj (zw 4 sc_letters.nd (zr yc (pv 4) (zp jx (pv 2) (pv 6))))
    (zf (zw 2 sc_letters.nd (zr yc (xM qh (pv 2) ue (xZ (pv 6))) (xM qh (pv 2) (xZ (zr z8 (pv 6) zd)) ue))))))))
   (zf (zo (pv 4))))))),?_]
  have s16:=yt;have ha:alpha.length = 26:=rfl;refine zl (fun σ H'=>H' = H /\ σ = [~~~!c,~~~!m,~~~alpha,none,none,none,none]) ?_ ?_
  ·rfl'
   exact YY
  rintro σ H1 ⟨rfl,rfl⟩:_;right;refine zl (fun σ H'=>H' = H1 /\ ∃ z:Int,σ = [~~~!c,~~~!m,~~~alpha,~~~!z,none,none,none]) ?_ ?_
  ·rfl'
   exact yE hc ∅ ∅ fun z _=>#[rfl,z,rfl]
  rintro σ H2 ⟨rfl,z,rfl⟩:_;right;refine zl (fun σ H'=>H' = H2 /\ σ = [~~~!c,~~~!m,~~~alpha,~~~!z,some (.str (tx [])),none,none]) ?_ ?_
  ·rfl'
   rfl
  rintro σ H3 ⟨rfl,rfl⟩:_;right;refine zl (fun σ H'=>H' = H3 /\ KQ c m m.toNat σ) ?_ ?_
  ·rfl'
   refine #[⋯,⋯,ForR.by (fun i σ H'=>H' = H3 /\ KQ c m i σ) #[rfl,alpha,[],z,none,none,rfl,.refl _,rfl] ?_ fun σ H' h=>h];refine nm3 ?_;rintro i σ H' hi ⟨rfl,left,found,number,v5,v6,hf,hp,rfl⟩:_;have hpl:=hp.length_eq;rw [List.length_append]at hpl;have hl:left.length + i = 26:=⋯;have hm0:=Int.emod_nonneg number (b:=(left.length:Int)) ⋯;have hm1:=Int.emod_lt_of_pos number (b:=(left.length:Int)) ⋯;right;generalize hz:number % (left.length:Int) = at_ at hm0 hm1;obtain ⟨v,e1,e2⟩:=vI hm0 hm1;simp only [yW,List.set_cons_succ,List.set_cons_zero];refine zl (fun σ H''=>H'' = H' /\ ∃ v5,σ = [~~~!c,~~~!m,~~~left,~~~!number,~~~found,v5,~~~!at_]) ?_ ?_
   ·rfl'
    exact #[⋯,⋯,hz]
   rintro σ G1 ⟨rfl,v5',rfl⟩:_;right;refine zl (fun σ H''=>H'' = G1 /\ ∃ n v5,σ = [~~~!c,~~~!m,~~~left,~~~!n,~~~found,v5,~~~!at_]) ?_ ?_
   ·rfl'
    exact #[⋯,#[⋯,⋯]]
   rintro σ G2 ⟨rfl,n,v5',rfl⟩:_;right;refine zl (fun σ H''=>H'' = G2 /\ ∃ v5,σ = [~~~!c,~~~!m,~~~left,~~~!n,some (.str (tx (found ++ [v]))),v5,~~~!at_]) ?_ ?_
   ·rfl'
    exact #[⋯,v,e1,⋯,rfl]
   rintro σ G3 ⟨rfl,v5',rfl⟩:_;have hc1:=wT left none (some at_);have hc2:=wT left (some (at_ + 1)) none;right
   rfl'
   refine #[⋯,⋯,⋯,_,_,_,_,_,by rw [List.length_append,hf]; rfl,?_,rfl];rw [WA _ hm0,jR _ ⋯,List.append_assoc];have e3:(at_ + 1).toNat = at_.toNat + 1:=⋯;rw [e3];exact ((Zl e2).append_left found).trans hp
  rintro σ H4 ⟨rfl,left,found,number,v5,v6,hf,hp,rfl⟩:_;right
  rfl'
  have hnd:(found ++ left).Nodup:=hp.nodup_iff.mpr ∅;refine q found ⋯ (az.mp hnd).1 fun c hc=>?_;have h:c ∈ alpha:=hp.mem_iff.mp (List.mem_append_left _ hc);exact (by decide:∀ c ∈ alpha,97 <= c /\ c <= 122) c h
def jr:Sp:=fun vs H Q _=>∃ (ls:()) (c m:Int),vs = [.int c,.str (tx ls),.int m] /\ 0 <= c /\ 1 <= ls.length /\ ls.length <= 26 /\ 0 <= m /\ m <= 100 /\ ∀ l:(),(l.length:Int) <= m -> (∀ x ∈ l,x ∈ ls) -> Q (.str (tx l)) H
theorem XQ {ls:()} {c m:Int} {H:Hp} {Q:VK} {E:XK} (h0:0 <= c) (h1:1 <= ls.length) (h2:ls.length <= 26) (h3:0 <= m) (h4:m <= 100) (h:∀ l:(),(l.length:Int) <= m -> (∀ x ∈ l,x ∈ ls) -> Q (.str (tx l)) H):jr [.int c,.str (tx ls),.int m] H Q E :=
 #[ls,c,m,rfl,h0,h1,h2,h3,h4,h]
theorem sc_word:sQz 3 ["_law_number", "_law_letters_here", "_law_most", "_law_size", "_law_word_here", "_law_k"] Y1:=by nofun
theorem VO {f:Addr} {fd:FuncData} (B:Bt mg)  (F:("_law_word"^^^Y1))  :(1&&&["_law_number", "_law_letters_here", "_law_most"]) jr:=by
 refine F.ok sc_word (fun vs H Q E h=>?_) (fun cdv A outer s H vs Q E hr h=>?_)
 ·obtain ⟨ls,c,m,rfl,_⟩:=h;rfl
 ·obtain ⟨ls,c,m,rfl,h0,h1,h2,h3,h4,q⟩:=h
  refine #[_,(zy (zw 3 sc_word.nd (zr yG (pv 0) (zr z8 (pv 2) zd)))
   (zy (zw 0 sc_word.nd (zr yN (pv 0) (zr z8 (pv 2) zd)))
   (zy (zw 4 sc_word.nd yv)
   (zy (yH PassesOwn.never rfl (yI rfl B.range (za (pv 3) zc)) (zF (i:=5) sc_word.nd rfl (.inl rfl))
    (zy (zw 4 sc_word.nd (zr yc (pv 4) (zp jx (pv 1) (zr yG (pv 0) (zH B.len (pv 1))))))
    (zf (zw 0 sc_word.nd (zr yN (pv 0) (zH B.len (pv 1)))))))
   (zf (zo (pv 4))))))),?_]
  have s16:=yt
  rfl'
  have m0:=Int.emod_nonneg c (b:=m + 1) ⋯;have m1:=Int.emod_lt_of_pos c (b:=m + 1) ⋯
  refine #[⋯,#[⋯,⋯],⋯,⋯,ForR.by (fun i σ H'=>H' = H /\ ∃ (found:()) (number:Int) (v5:Option V),σ = [~~~!number,~~~ls,~~~!m,some (.int (c % (m + 1))),~~~found,v5] /\ found.length = i /\ ∀ x ∈ found,x ∈ ls)
   #[rfl,[],_,none,rfl,rfl,fun x h=>(nomatch h)] ?_ ?_]
  ·rintro i σ H' hi ⟨rfl,found,number,v5,rfl,hf,hm⟩
   rfl'
   have hm0:=Int.emod_nonneg number (b:=(ls.length:Int)) ⋯;have hm1:=Int.emod_lt_of_pos number (b:=(ls.length:Int)) ⋯;obtain ⟨v,e1,e2⟩:=vI hm0 hm1
   repeat (refine And.intro (by first | lia | decide | exact #[⋯,⋯] | assumption) ?_)
   refine #[v,e1,?_]
   repeat (refine And.intro (by first | lia | decide | exact #[⋯,⋯] | assumption) ?_)
   refine #[by rw [List.length_append,hf]; rfl,fun x hx=>?_];rcases af.mp hx with h | h
   ·exact hm x h
   ·rw [ag.mp h];exact List.mem_of_getElem? e2
  ·rintro σ H' ⟨rfl,found,number,v5,rfl,hf,hm⟩
   rfl'
   exact q found ⋯ hm
structure zai (K:PySem.W.Frag):Prop where
 ii:PySem.W.kitOne K (.type "int") (.type "int") = some true
 ib:PySem.W.kitOne K (.type "int") (.type "bool") = some false
def vZ:Sp:=fun vs H Q _=>∃ i:Int,vs = [.int i] /\ Q (.bl true) H
theorem ql {i:Int} {H:Hp} {Q:VK} {E:XK} (h:Q (.bl true) H):vZ [.int i] H Q E:=#[i,rfl,h]
theorem Y6:sQz 1 ["_law_found"] qR:=by nofun
theorem X7 {f:Addr} {fd:FuncData} (B:Bt mg) (T:zai K) (F:("_law_whole"^^^qR)):(1&&&["_law_found"]) vZ:=by
 refine F.ok Y6 (fun vs H Q E h=>?_) (fun cdv A outer s H vs Q E hr h=>?_)
 ·obtain ⟨a,rfl,_⟩:=h;rfl
 ·obtain ⟨i,rfl,q⟩:=h;refine #[_,(zf (zo (QS (yU rfl B.isi (pv 0) rfl B.int PySem.Pv.boot_int) (QD (WU (yU rfl B.isi (pv 0) rfl B.bool PySem.Pv.boot_bool)))))),?_]
  rfl'
  exact #[_,.inl (.int _),true,T.ii,K9 #[_,.inl (.int _),false,T.ib,q]]
structure TLs (K:PySem.W.Frag):Prop where
 ll:PySem.W.kitOne K (.type "list") (.type "list") = some true
 tt:PySem.W.kitOne K (.type "tuple") (.type "tuple") = some true
 bb:PySem.W.kitOne K (.type "bool") (.type "bool") = some true
def jN (K:PySem.W.Frag):Sp:=fun vs H Q _=>∃ (t:Addr) (ss:List Stp),vs = [.ref t] /\ Is K H (.lst (ss.map dSt)) (.ref t) /\ Q (.bl true) H
theorem sc_steps:sQz 1 ["_law_found", "_law_step"] qU:=by nofun
theorem X9 {f:Addr} {fd:FuncData} (B:Bt mg) (T:TLs K) (F:("_law_steps"^^^qU)) (D_whole:(1<<<"_law_whole") ["_law_found"] [] vZ):(2&&&["_law_found"]) (jN K):=by
 refine F.ok sc_steps (fun vs H Q E h=>?_) (fun cdv A outer s H vs Q E hr h=>?_)
 ·obtain ⟨t,ss,rfl,_⟩:=h;rfl
 ·obtain ⟨t,ss,rfl,hT,q⟩:=h
  refine #[_,(zj (yb (yn (xA (yU rfl B.isi (pv 0) rfl B.list PySem.Pv.boot_list) (fun _=>rfl)))
    (zf (zo xm))
    zu)
   (zj (yH PassesOwn.never rfl (yi (pv 0)) (zF (i:=1) sc_steps.nd rfl (.inl rfl))
    (zj (yb (PW.pt (ju (yn (xA (yU rfl B.isi (pv 1) rfl B.tuple PySem.Pv.boot_tuple) (fun _=>rfl))) (ju (zK Vm (zH B.len (pv 1)) zd (zP _)) (qE (yn (xA (yU rfl B.isi (zp ix_tup (pv 1) zd) rfl B.bool PySem.Pv.boot_bool) (fun _=>rfl)))))))
     (zf (zo xm))
     zu)
    (zf (yb (PW.pt (ju (yn (xA (cl0 D_whole hr .nil rfl (za (zp ix_tup (pv 1) zd) zc)) (fun _=>rfl))) (qE (yn (xA (cl0 D_whole hr .nil rfl (za (zp ix_tup (pv 1) zd) zc)) (fun _=>rfl))))))
     (zf (zo xm))
     zu))))
   (zf (zo xm)))),?_]
  have s16:=yt;simp only [Is]at hT;obtain ⟨_,ts,e,hTs,hJ⟩:=hT;cases e;refine zl (fun σ H'=>H' = H /\ σ = [!!t,none]) ?_ ?_
  ·rfl'
   exact #[_,.inr (.inr (.inl #[_,_,rfl,rfl,hTs])),true,T.ll,Y4 trivial]
  rintro σ H1 ⟨rfl,rfl⟩:_;right;refine zl (fun σ H'=>H' = H1 /\ ∃ v1,σ = [!!t,v1]) ?_ ?_
  ·rfl'
   refine #[#[_,hTs],ForL.by (xs:=ts) (fun i σ H'=>H' = H1 /\ ∃ v1,σ = [!!t,v1]) #[rfl,_,rfl] (fun i σ H' _ h=>by rw [h.1]; exact hTs) ?_ fun σ H' h=>h];refine nm4 ?_;rintro i x σ H' hx ⟨rfl,v1,rfl⟩:_;obtain ⟨u,pu,hui,rfl,hqu⟩:=wt hJ hx;right;simp only [yW,List.set_cons_succ,List.set_cons_zero];refine zl (fun σ H''=>H'' = H' /\ σ = [!!t,!!pu]) ?_ ?_
   ·rfl'
    exact #[_,.inr (.inr (.inr #[_,_,rfl,rfl,hqu])),true,T.tt,Y4 #[_,.inr #[_,hqu,rfl],xC (fun h=>absurd rfl h) fun _=>#[_,hqu,_,rfl,_,.inl (.bl _),true,T.bb,Y4 trivial]]]
   rintro σ G ⟨rfl,rfl⟩:_;right
   rfl'
   exact #[_,hqu,_,rfl,ql #[true,rfl,Y4 #[_,hqu,_,rfl,ql #[true,rfl,Y4 rfl]]]]
  rintro σ H2 ⟨rfl,v1,rfl⟩:_;right
  rfl'
  exact q
structure KXs (K:PySem.W.Frag):Prop where
 ss:PySem.W.kitOne K (.type "str") (.type "str") = some true
def YD (K:PySem.W.Frag):Sp:=fun vs H Q _=>∃ (a:Addr) (es:List Ent),vs = [.ref a] /\ Is K H (.lst (es.map dE)) (.ref a) /\ Q (.bl true) H
theorem sc_entries:sQz 1 ["_law_found", "_law_entry"] wV:=by nofun
theorem kH {f:Addr} {fd:FuncData} (B:Bt mg) (T:TLs K) (TX:KXs K) (F:("_law_entries"^^^wV)) (D_steps:(2<<<"_law_steps") ["_law_found"] [] (jN K)):(3&&&["_law_found"]) (YD K):=by
 refine F.ok sc_entries (fun vs H Q E h=>?_) (fun cdv A outer s H vs Q E hr h=>?_)
 ·obtain ⟨a,es,rfl,_⟩:=h;rfl
 ·obtain ⟨a,es,rfl,hA,q⟩:=h
  refine #[_,(zj (yb (yn (xA (yU rfl B.isi (pv 0) rfl B.list PySem.Pv.boot_list) (fun _=>rfl)))
    (zf (zo xm))
    zu)
   (zj (yH PassesOwn.never rfl (yi (pv 0)) (zF (i:=1) sc_entries.nd rfl (.inl rfl))
    (zj (yb (PW.pt (ju (yn (xA (yU rfl B.isi (pv 1) rfl B.tuple PySem.Pv.boot_tuple) (fun _=>rfl))) (ju (zK Vm (zH B.len (pv 1)) zd (zP _)) (qE (yn (xA (cl0 D_steps hr .nil rfl (za (zp ix_tup (pv 1) zd) zc)) (fun _=>rfl)))))))
     (zf (zo xm))
     zu)
    (zf (yb (PW.pt (ju (yn (xA (yU rfl B.isi (zp ix_tup (pv 1) zd) rfl B.str PySem.Pv.boot_str) (fun _=>rfl))) (qE (yn (xA (yU rfl B.isi (zp ix_tup (pv 1) zd) rfl B.str PySem.Pv.boot_str) (fun _=>rfl))))))
     (zf (zo xm))
     zu))))
   (zf (zo xm)))),?_]
  have s16:=yt;simp only [Is]at hA;obtain ⟨_,xs,e,hX,hI⟩:=hA;cases e;refine zl (fun σ H'=>H' = H /\ σ = [!!a,none]) ?_ ?_
  ·rfl'
   exact #[_,.inr (.inr (.inl #[_,_,rfl,rfl,hX])),true,T.ll,Y4 trivial]
  rintro σ H1 ⟨rfl,rfl⟩:_;right;refine zl (fun σ H'=>H' = H1 /\ ∃ v1,σ = [!!a,v1]) ?_ ?_
  ·rfl'
   refine #[#[_,hX],ForL.by (xs:=xs) (fun i σ H'=>H' = H1 /\ ∃ v1,σ = [!!a,v1]) #[rfl,_,rfl] (fun i σ H' _ h=>by rw [h.1]; exact hX) ?_ fun σ H' h=>h];refine nm4 ?_;rintro i x σ H' hx ⟨rfl,v1,rfl⟩:_;obtain ⟨e,pe,se,hei,rfl,hqe,hse⟩:=j5 hI hx;right;simp only [yW,List.set_cons_succ,List.set_cons_zero];refine zl (fun σ H''=>H'' = H' /\ σ = [!!a,!!pe]) ?_ ?_
   ·rfl'
    exact #[_,.inr (.inr (.inr #[_,_,rfl,rfl,hqe])),true,T.tt,Y4 #[_,.inr #[_,hqe,rfl],xC (fun h=>absurd rfl h) fun _=>#[_,hqe,_,rfl,se,e.2.2,rfl,hse,true,rfl,Y4 rfl]]]
   rintro σ G ⟨rfl,rfl⟩:_;right
   rfl'
   exact #[_,hqe,_,rfl,_,.inl (.str _),true,TX.ss,Y4 #[_,hqe,_,rfl,_,.inl (.str _),true,TX.ss,Y4 trivial]]
  rintro σ H2 ⟨rfl,v1,rfl⟩:_;right
  rfl'
  exact q
theorem none_of {ps:List zE} {w:()} (h:∀ p ∈ ps,¬ Within p.1 w):zC w ps = none:=by
 cases e:zC w ps with
 | none=>rfl
 | some u =>
  obtain ⟨p,h1,h2⟩:=yw e;exact absurd (Zv h2) (h p (List.mem_of_getElem? h1))
theorem qB {ps:List zE} {w:()} (h:zC w ps = none):EndsAt ps w 0:=#[fun i hi=>absurd hi (Nat.not_lt_zero i),h,Nat.zero_le _]
theorem qb (bs:List Ent) (e:Ent):yq bs e 0 0 = e:=by
 show (e.1,e.2.1,[] ++ e.2.2 ++ []) = e;rw [List.nil_append,List.append_nil]
theorem vt {p w:()} (h:Within p w):p.length <= w.length /\ (p.length = w.length -> p = w):=by
 obtain ⟨a,b,rfl⟩:=h;simp only [List.length_append];refine #[⋯,fun e=>?_];have ha:a = []:=au.mp ⋯;have hb:b = []:=au.mp ⋯;rw [ha,hb,List.nil_append,List.append_nil]
structure TLe (k:Nat) (l:()) (ns:List Int) (s:Nat) (e:Ent):Prop where
 a:e.1.length = s
 b:e.2.1.length < s
 lt:ye k l ns e.2.1 e.1 = true
 far:¬ ku e
 ma:∀ c ∈ e.1,c ∈ l
def UW (es:List Ent):Prop:=∀ a ∈ es,∀ b ∈ es,a.1 = b.1 -> a.2.1 = b.2.1
noncomputable def uq (bs:List Ent):List Ent -> List Ent
 | []=>bs
 | e :: es=>if e.1 ∈ bs.map (·.1)then uq bs es else uq (bs ++ [e]) es
theorem jO {x:Ent}:∀ {es bs:List Ent},x ∈ uq bs es ↔ x ∈ bs \/ (x.1 ∉ bs.map (·.1) /\ es.find? (fun e=>decide (e.1 = x.1)) = some x)
 | [],bs=>by
  unfold uq;simp
 | e :: es,bs=>by
  unfold uq;rw [List.find?_cons];by_cases h:e.1 ∈ bs.map (·.1)
  ·rw [if_pos h,jO];by_cases g:e.1 = x.1
   ·rw [<- g];simp only [h,not_true_eq_false,false_and]
   ·rw [decide_eq_false g]
  ·rw [if_neg h,jO,List.mem_append,List.mem_singleton,List.map_append,List.mem_append,List.map_cons,List.map_nil,List.mem_singleton];by_cases g:e.1 = x.1
   ·rw [decide_eq_true g];simp only [Option.some.injEq];constructor
    ·rintro ((h1 | h1) | ⟨h1,_⟩)
     ·exact .inl h1
     ·exact .inr #[by rw [<- g]; exact h,h1.symm]
     ·exact absurd (.inr g.symm) h1
    ·rintro (h1 | ⟨_,h1⟩)
     ·exact .inl (.inl h1)
     ·exact .inl (.inr h1.symm)
   ·rw [decide_eq_false g];constructor
    ·rintro ((h1 | h1) | ⟨h1,h2⟩)
     ·exact .inl h1
     ·exact absurd (by rw [h1]) g
     ·exact .inr #[fun z=>h1 (.inl z),h2]
    ·rintro (h1 | ⟨h1,h2⟩)
     ·exact .inl (.inl h1)
     ·exact .inr #[fun z=>z.elim h1 fun z=>g z.symm,h2]
theorem xp:∀ {es bs:List Ent},(uq bs es).Sublist (bs ++ es)
 | [],bs=>by unfold uq; rw [List.append_nil]; exact List.Sublist.refl _
 | e :: es,bs=>by
  unfold uq;split
  ·exact (xp (es:=es) (bs:=bs)).trans ((List.Sublist.refl bs).append (List.sublist_cons_self e es))
  ·have:=xp (es:=es) (bs:=bs ++ [e]);rw [List.append_assoc]at this;exact this
theorem ky:∀ {es bs:List Ent},bs.Pairwise (fun a b=>a.1 ≠ b.1) -> (uq bs es).Pairwise fun a b=>a.1 ≠ b.1
 | [],bs,h=>h
 | e :: es,bs,h=>by
  unfold uq;split
  ·exact ky h
  ·rename_i g;refine ky (ar.mpr #[h,List.pairwise_singleton _ _,fun a ha b hb z=>g ?_]);rw [ag.mp hb]at z;rw [<- z];exact aa.mpr #[a,ha,rfl]
theorem Yi:∀ {es bs:List Ent},(bs ++ es).Pairwise (fun a b=>a.1 ≠ b.1) -> uq bs es = bs ++ es
 | [],bs,_=>by unfold uq; rw [List.append_nil]
 | e :: es,bs,h=>by
  unfold uq;rw [if_neg,Yi (by rw [List.append_assoc]; exact h),List.append_assoc]
  ·rfl
  ·intro z;obtain ⟨a,ha,e1⟩:=aa.mp z;exact (ar.mp h).2.2 a ha e List.mem_cons_self e1
theorem UP {es:List Ent} (h:es.Pairwise fun a b=>a.1 ≠ b.1) {a b:Ent} (ha:a ∈ es) (hb:b ∈ es) (e:a.1 = b.1):a = b:=by
 induction es with
 | nil=>cases ha
 | cons c es ih =>
  rw [List.pairwise_cons]at h;rcases ac.mp ha with e1 | ha'
  ·rcases ac.mp hb with e2 | hb'
   ·rw [e1,e2]
   ·exact absurd (by rw [<- e1]; exact e) (h.1 b hb')
  ·rcases ac.mp hb with e2 | hb'
   ·exact absurd (by rw [<- e2]; exact e.symm) (h.1 a ha')
   ·exact ih h.2 ha' hb'
theorem Wm {k s:Nat} {l:()} {ns:List Int} {bs:List Ent} {e:Ent} (h1:∀ x ∈ bs,TLe k l ns s x) (he:TLe k l ns s e) (hO:∀ x ∈ bs,x.1 = e.1 -> x.2.1 = e.2.1) (hm:e.1 ∈ bs.map (·.1)) (h2:zC e.2.1 (zh bs) = none):EndsAt (zh bs) e.1 1 /\ wAt (zh bs) e.1 1 = e.2.1:=by
 have hs:0 < s:=Nat.lt_of_le_of_lt (Nat.zero_le _) he.b
 have hN:NeL (zh bs):=fun p hp z=>by
  obtain ⟨x,hx,rfl⟩:=aa.mp hp;have:=(h1 x hx).a;simp only at z;rw [z]at this;simp at this;lia
 have hf:zC e.1 (zh bs) ≠ none:=fun z=>by
  obtain ⟨x,hx,hxe⟩:=aa.mp hm;exact VD hN z (x.1,x.2.1) (aa.mpr #[x,hx,rfl]) #[[],[],by rw [List.nil_append,List.append_nil]; exact hxe.symm]
 cases hu:zC e.1 (zh bs)with
 | none=>exact absurd hu hf
 | some u =>
  have hw:wAt (zh bs) e.1 1 = e.2.1:=by
   obtain ⟨p,g1,g2⟩:=yw hu;obtain ⟨e1,_⟩:=xO g2;obtain ⟨x,hx,rfl⟩:=aa.mp (List.mem_of_getElem? g1);have hxa:=(h1 x hx).a;have hea:=he.a;have e2:=congrArg List.length e1;simp only [List.length_append]at e2 e1;have ht:(e.1.take ((u.2:Int)).toNat) = []:=au.mp ⋯;have hd:e.1.drop (((u.2:Int)).toNat + x.1.length) = []:=au.mp ⋯;rw [ht,hd,List.nil_append,List.append_nil]at e1;have e3:wAt (zh bs) e.1 1 = kT e.1 (zh bs) u:=ww (j:=0) hu;rw [e3];unfold kT kX;rw [xQ g1];simp only;rw [ht,hd,List.nil_append,List.append_nil];exact hO x hx e1
  refine #[#[fun i hi=>?_,by rw [hw]; exact h2,∅],hw];obtain rfl:i = 0:=⋯;exact hf
theorem jY {k s:Nat} {l:()} {ns:List Int} {bs es:List Ent} {r:Option (List Ent)} (h:yJ k l ns bs es r):(∀ e ∈ bs ++ es,TLe k l ns s e) -> UW (bs ++ es) -> r = some (uq bs es):=by
 have key:∀ {bs es:List Ent} {e:Ent},(∀ x ∈ bs ++ e :: es,TLe k l ns s x) -> UW (bs ++ e :: es) -> EndsAt (zh bs) e.2.1 0 /\ TLe k l ns s e /\ (e.1 ∉ bs.map (·.1) -> EndsAt (zh bs) e.1 0) /\ (e.1 ∈ bs.map (·.1) -> EndsAt (zh bs) e.1 1 /\ wAt (zh bs) e.1 1 = e.2.1):=fun {bs es e} h1 h2=>by
  have he:=h1 e (by simp);have hb:∀ x ∈ bs,TLe k l ns s x:=fun x hx=>h1 x (List.mem_append_left _ hx)
  have n2:zC e.2.1 (zh bs) = none:=none_of fun p hp hw=>by
   obtain ⟨x,hx,rfl⟩:=aa.mp hp;have:=(vt hw).1;have:=(hb x hx).a;have:=he.b;simp only at *;lia
  refine #[qB n2,he,fun hm=>qB (none_of fun p hp hw=>?_),fun hm=>Wm hb he (fun x hx=>h2 x (List.mem_append_left _ hx) e (by simp)) hm n2];obtain ⟨x,hx,rfl⟩:=aa.mp hp;have:=(vt hw).2 (by rw [he.a]; exact (hb x hx).a);exact hm (aa.mpr #[x,hx,this])
 have tl:∀ {bs es:List Ent} {e:Ent} {P:Ent -> Prop},(∀ x ∈ bs ++ e :: es,P x) -> ∀ x ∈ bs ++ es,P x:=fun h x hx=>h x (by
  rcases af.mp hx with z | z
  ·exact List.mem_append_left _ z
  ·exact List.mem_append_right _ (List.mem_cons_of_mem _ z))
 induction h with
 | nil bs=>intro _ _; rfl
 | @same bs es e i j r h1 h2 h3 h4 ih =>
  intro g1 g2;obtain ⟨a2,he,a0,a1⟩:=key g1 g2;unfold uq;by_cases hm:e.1 ∈ bs.map (·.1)
  ·rw [if_pos hm];exact ih (tl g1) fun a ha b hb=>tl (fun x hx=>tl (fun y hy=>g2 y hy x hx) a ha) b hb
  ·have b0:=a0 hm;rw [h1.uniq b0,h2.uniq a2]at h3;have h3':e.1.length = e.2.1.length:=congrArg List.length h3;have:=he.a;have:=he.b;lia
 | @new bs es e i j r h1 h2 h3 h4 h5 ih =>
  intro g1 g2;obtain ⟨a2,he,a0,a1⟩:=key g1 g2;unfold uq;by_cases hm:e.1 ∈ bs.map (·.1)
  ·obtain ⟨b1,b2⟩:=a1 hm;rw [h1.uniq b1,h2.uniq a2,b2]at h3;exact absurd rfl h3
  ·have b0:=a0 hm;rw [if_neg hm]
   have e0:zU k l ns (yq bs e i j) = e:=by
    rw [h1.uniq b0,h2.uniq a2,qb];unfold zU;rw [if_pos he.lt]
   rw [e0,List.append_assoc]at ih;exact ih g1 g2
 | @far bs es e i j h1 h2 h3 h4 =>
  intro g1 g2;obtain ⟨a2,he,a0,a1⟩:=key g1 g2;by_cases hm:e.1 ∈ bs.map (·.1)
  ·obtain ⟨b1,b2⟩:=a1 hm;rw [h1.uniq b1,h2.uniq a2,b2]at h3;exact absurd rfl h3
  ·rw [h1.uniq (a0 hm),h2.uniq a2,qb]at h4;exact absurd h4 he.far
 | @stuck bs es e h =>
  intro g1 g2;obtain ⟨a2,he,a0,a1⟩:=key g1 g2;rcases h with h | h
  ·by_cases hm:e.1 ∈ bs.map (·.1)
   ·exact absurd (a1 hm).1 (h 1)
   ·exact absurd (a0 hm) (h 0)
  ·exact absurd a2 (h 0)
theorem Wl {k s:Nat} {l:()} {ns:List Int} {es:List Ent} (h:∀ e ∈ es,TLe k l ns s e):zY k l ns es = es:=by
 unfold zY
 rw [List.filter_eq_self.mpr fun e he=>by
  have h1:=(h e he).a;have h2:=(h e he).b;simp only [Bool.not_eq_true',decide_eq_false_iff_not]
  exact fun z=>by rw [z]at h1; lia]
 refine (List.map_congr_left fun e he=>?_).trans (List.map_id _);unfold zU;rw [if_pos (h e he).lt];rfl
theorem qo {k s:Nat} {l:()} {ns:List Int} {es fs:List Ent} (h:∀ e ∈ es,TLe k l ns s e) (hn:es.Pairwise fun a b=>a.1 ≠ b.1) (h1:es.Pairwise fun a b=>yD k l ns b a = false) (h2:fs.Pairwise fun a b=>yD k l ns b a = false) (hp:es.Perm fs):es = fs:=by
 refine List.Perm.eq_of_pairwise (le:=fun a b:Ent=>yD k l ns b a = false) (fun a b ha hb g1 g2=>?_) h1 h2 hp;have hb':=hp.mem_iff.mpr hb;by_cases e:a.1 = b.1
 ·exact UP hn ha hb' e
 ·unfold yD at g1 g2;rw [if_neg fun z=>e z.symm]at g1;rw [if_neg e]at g2;have:=wK (k:=k) (ns:=ns) (h a ha).ma (h b hb').ma e;rw [g1,g2]at this;cases this
theorem Yw {k n s:Nat} {l:()} {ns:List Int} {es:List Ent} {r:Option (List Ent)} (h:Y2 k l ns (n + 2) es r) (hz:∀ e ∈ zY k l ns es,TLe k l ns s e) (hO:UW (zY k l ns es)):r = some (uq [] (L3.srt (yD k l ns) ([],[],[]) (zY k l ns es))):=by
 have zz:∀ {zs},Lined k l ns es zs -> (∀ e ∈ zs,TLe k l ns s e) /\ UW zs:=fun hl=>#[fun e he=>hz e (hl.perm.mem_iff.mp he),fun a ha b hb=>hO a (hl.perm.mem_iff.mp ha) b (hl.perm.mem_iff.mp hb)];have key:∀ {zs r},Lined k l ns es zs -> yJ k l ns [] zs r -> r = some (uq [] zs):=fun {zs r} h1 h2=>jY h2 (by rw [List.nil_append]; exact (zz h1).1) (by rw [List.nil_append]; exact (zz h1).2)
 cases h with
 | bad h1 h2=>cases key h1 h2
 | done h1 h2 h3=>rw [<- h1.is]; exact key h1 h2
 | more h1 h2 h3 h4 =>
  rename_i zs bs;rw [<- h1.is];have e1:=Option.some.inj (key h1 h2);subst e1;have sub:(uq [] zs).Sublist zs:=xp (bs:=[]);have tb:∀ e ∈ uq [] zs,TLe k l ns s e:=fun e he=>(zz h1).1 e (sub.mem he);have nb:(uq [] zs).Pairwise fun a b=>a.1 ≠ b.1:=ky List.Pairwise.nil
  have lin:∀ {ys},Lined k l ns (uq [] zs) ys -> ys = uq [] zs:=fun {ys} hy=>by
   have hp:=hy.perm;rw [Wl tb]at hp;exact (qo tb nb (h1.srt.sublist sub) hy.srt hp.symm).symm
  have key2:∀ {ys r},Lined k l ns (uq [] zs) ys -> yJ k l ns [] ys r -> r = some (uq [] zs):=fun {ys r} g1 g2=>by
   rw [lin g1]at g2;have:=jY g2 (by rw [List.nil_append]; exact tb) (by rw [List.nil_append]; exact fun a ha b hb=>(zz h1).2 a (sub.mem ha) b (sub.mem hb));rw [this,Yi (by rw [List.nil_append]; exact nb),List.nil_append]
  cases h4 with
  | bad g1 g2=>cases key2 g1 g2
  | done g1 g2 g3=>exact key2 g1 g2
  | more g1 g2 g3 g4 =>
   rename_i ys bs;have e2:=Option.some.inj (key2 g1 g2);rw [e2,lin g1]at g3;exact absurd rfl g3
theorem Qx {k s:Nat} {l:()} {ns:List Int} {rw_ ds:List Ent} (hz:∀ e ∈ rw_,TLe k l ns s e /\ EB l e) (hO:UW rw_) (hp:ds.Perm (uq [] rw_)) (hs:ds.Pairwise fun a b=>ye k l ns b.1 a.1 = false):uq [] (L3.srt (yD k l ns) ([],[],[]) rw_) = ds:=by
 have W:WkO fun a b:Ent=>pairF.lt (rkE k l ns a) (rkE k l ns b):=#[fun a b=>pairF_ok.w.asym _ _,fun a b c=>pairF_ok.w.ntr _ _ _];have es:L3.srt (yD k l ns) ([],[],[]) rw_ = L3.srt (fun a b:Ent=>pairF.lt (rkE k l ns a) (rkE k l ns b)) ([],[],[]) rw_:=(jA (d':=([],[],[])) W fun a ha b hb=>vg (hz a ha).2 (hz b hb).2).symm;obtain ⟨p1,p2⟩:=uT W ([],[],[]) rw_
 have fl:∀ u:(),(L3.srt (yD k l ns) ([],[],[]) rw_).find? (fun e=>decide (e.1 = u)) = rw_.find? fun e=>decide (e.1 = u):=fun u=>by
  rw [<- List.head?_filter,<- List.head?_filter,es,kI W _ fun a ha b hb pa pb=>?_];have ea:=of_decide_eq_true pa;have eb:=of_decide_eq_true pb;have e2:=hO a ha b hb (by rw [ea,eb]);rw [vg (hz a ha).2 (hz b hb).2];unfold yD;rw [if_pos (by rw [ea,eb]),e2];exact u8
 rw [<- es]at p1 p2;generalize L3.srt (yD k l ns) ([],[],[]) rw_ = zs at *;have tb:∀ e ∈ uq [] zs,TLe k l ns s e /\ EB l e:=fun e he=>hz e (p1.mem_iff.mp ((xp (bs:=[])).mem he));have nb:(uq [] zs).Pairwise fun a b=>a.1 ≠ b.1:=ky List.Pairwise.nil;have nb2:(uq [] rw_).Pairwise fun a b=>a.1 ≠ b.1:=ky List.Pairwise.nil;have nd:∀ {xs:List Ent},xs.Pairwise (fun a b=>a.1 ≠ b.1) -> xs.Nodup:=fun h=>h.imp fun h z=>h (by rw [z]);have pp:(uq [] zs).Perm (uq [] rw_):=(List.perm_ext_iff_of_nodup (nd nb) (nd nb2)).mpr fun x=>by rw [jO,jO,fl]
 refine qo (fun e he=>(tb e he).1) nb ?_ ?_ (pp.trans hp.symm)
 ·refine (p2.sublist (xp (bs:=[]) (es:=zs))).imp_of_mem fun {a b} ha hb h=>?_;rw [<- vg (tb b hb).2 (tb a ha).2];exact h
 ·have nd3:ds.Pairwise fun a b=>a.1 ≠ b.1:=(hp.pairwise_iff fun h=>h.symm).mpr nb2;refine (hs.and nd3).imp fun {a b} h=>?_;unfold yD;rw [if_neg fun z=>h.2 z.symm];exact h.1
def uB:Sp:=fun vs H Q _=>∃ (ls:()) (c:Int) (m:Nat),vs = [.int c,.str (tx ls),.int (m:Nat)] /\ 1 <= ls.length /\ ls.length <= 26 /\ m <= 100 /\ ∀ l:(),l.length = m -> (∀ x ∈ l,x ∈ ls) -> Q (.str (tx l)) H
theorem u7 {ls:()} {c:Int} {m:Nat} {H:Hp} {Q:VK} {E:XK} (h1:1 <= ls.length) (h2:ls.length <= 26) (h4:m <= 100) (h:∀ l:(),l.length = m -> (∀ x ∈ l,x ∈ ls) -> Q (.str (tx l)) H):uB [.int c,.str (tx ls),.int (m:Nat)] H Q E :=
 #[ls,c,m,rfl,h1,h2,h4,h]
theorem sc_exact:sQz 3 ["_law_number", "_law_letters_here", "_law_size", "_law_word_here", "_law_k"] qM:=by nofun
theorem X1 {f:Addr} {fd:FuncData} (B:Bt mg)  (F:("_law_exact"^^^qM))  :(1&&&["_law_number", "_law_letters_here", "_law_size"]) uB:=by
 refine F.ok sc_exact (fun vs H Q E h=>?_) (fun cdv A outer s H vs Q E hr h=>?_)
 ·obtain ⟨ls,c,m,rfl,_⟩:=h;rfl
 ·obtain ⟨ls,c,m,rfl,h1,h2,h4,q⟩:=h
  refine #[_,(zy (zw 3 sc_exact.nd yv)
   (zy (yH PassesOwn.never rfl (yI rfl B.range (za (pv 2) zc)) (zF (i:=4) sc_exact.nd rfl (.inl rfl))
    (zy (zw 3 sc_exact.nd (zr yc (pv 3) (zp jx (pv 1) (zr yG (pv 0) (zH B.len (pv 1))))))
    (zf (zw 0 sc_exact.nd (zr yN (pv 0) (zH B.len (pv 1)))))))
   (zf (zo (pv 3))))),?_]
  have s16:=yt
  rfl'
  refine #[⋯,⋯,ForR.by (fun i σ H'=>H' = H /\ ∃ (found:()) (number:Int) (v5:Option V),σ = [~~~!number,~~~ls,-~~~m,~~~found,v5] /\ found.length = i /\ ∀ x ∈ found,x ∈ ls)
   #[rfl,[],_,none,rfl,rfl,fun x h=>(nomatch h)] ?_ ?_]
  ·rintro i σ H' hi ⟨rfl,found,number,v5,rfl,hf,hm⟩
   rfl'
   have hm0:=Int.emod_nonneg number (b:=(ls.length:Int)) ⋯;have hm1:=Int.emod_lt_of_pos number (b:=(ls.length:Int)) ⋯;obtain ⟨v,e1,e2⟩:=vI hm0 hm1
   repeat (refine And.intro (by first | lia | decide | exact #[⋯,⋯] | assumption) ?_)
   refine #[v,e1,?_]
   repeat (refine And.intro (by first | lia | decide | exact #[⋯,⋯] | assumption) ?_)
   refine #[by rw [List.length_append,hf]; rfl,fun x hx=>?_];rcases af.mp hx with h | h
   ·exact hm x h
   ·rw [ag.mp h];exact List.mem_of_getElem? e2
  ·rintro σ H' ⟨rfl,found,number,v5,rfl,hf,hm⟩
   rfl'
   exact q found (by rw [hf]; lia) hm
def DrawnP (ls:()) (m:Nat) (rs:List zE):Prop:=(rs.map (·.1)).Nodup /\ ∀ r ∈ rs,r.1.length = m /\ r.2.length < m /\ (∀ x ∈ r.1,x ∈ ls) /\ ∀ x ∈ r.2,x ∈ ls
noncomputable def kvR (rs:List zE):List (Str × V):=rs.map fun r=>(tx r.1,V.str (tx r.2))
theorem Uh {rs:List zE} {u:()} (h:atD (kvR rs) (tx u) = none):u ∉ rs.map (·.1):=fun hu=>by
 obtain ⟨r,hr,rfl⟩:=aa.mp hu;unfold atD at h;rw [Option.map_eq_none_iff,List.find?_eq_none]at h;exact h (tx r.1,V.str (tx r.2)) (aa.mpr #[r,hr,rfl]) (decide_eq_true rfl)
theorem DrawnP.snoc {ls:()} {m:Nat} {rs:List zE} {u v:()} (h:DrawnP ls m rs) (hno:atD (kvR rs) (tx u) = none) (h1:u.length = m) (h2:v.length < m) (h3:∀ x ∈ u,x ∈ ls) (h4:∀ x ∈ v,x ∈ ls):DrawnP ls m (rs ++ [(u,v)]):=by
 refine #[?_,fun r hr=>?_]
 ·rw [List.map_append];exact az.mpr #[h.1,am.mpr #[(nomatch ·),.nil],fun a ha b hb=>by rw [ag.mp hb]; rintro rfl; exact Uh hno ha]
 ·rcases af.mp hr with hr | hr
  ·exact h.2 r hr
  ·rw [ag.mp hr];exact #[h1,h2,h3,h4]
theorem YJ:∀ ws:List (()),Str.join (tx []) (ws.map tx) = tx ws.flatten
 | []=>rfl
 | [w]=>by
  show tx w = _;simp
 | w :: v :: r=>by
  have ih:=YJ (v :: r);show tx w ++ tx [] ++ Str.join (tx []) ((v :: r).map tx) = _;rw [ih,xN,xN];simp
theorem Wo {ws:List (())} (h:ws.flatten.length <= 100000):JoinOk (tx []) (ws.map tx) = true:=by
 have s16:=yt
 have hf:∀ (l:List (())) (n:Nat),(l.map tx).foldl (fun a y=>a + y.length + 0) n = n + l.flatten.length:=fun l=>by
  induction l with
  | nil=>intro n; rfl
  | cons c r ih =>
   intro n;rw [List.map_cons,List.foldl_cons,ih,zL,List.flatten_cons,List.length_append];lia
 have e:JoinOk (tx []) (ws.map tx) = !PySem.Builtin.Str.tooLong ((ws.map tx).foldl (fun a y=>a + y.length + 0) 0):=by
  unfold JoinOk;rw [List.foldl_toArray];rfl
 rw [e,hf];unfold PySem.Builtin.Str.tooLong;rw [Bool.not_eq_true',decide_eq_false_iff_not];lia
def vR:Sp:=fun vs H Q _=>∃ (b:Bool) (w:()),vs = [.bl b,.str (tx w)] /\ w.length <= 100 /\ ∀ H',Same H H' -> Q (.str (tx (ya (if b = true then 1 else 0) w))) H'
theorem XX {b:Bool} {w:()} {H:Hp} {Q:VK} {E:XK} (h:w.length <= 100) (q:∀ H',Same H H' -> Q (.str (tx (ya (if b = true then 1 else 0) w))) H'):vR [.bl b,.str (tx w)] H Q E:=#[b,w,rfl,h,q]
theorem UC:sQz 2 ["_law_right", "_law_word_here"] jW:=by nofun
theorem Vq {f:Addr} {fd:FuncData} (B:Bt mg)  (F:("_law_seen"^^^jW))  :(1&&&["_law_right", "_law_word_here"]) vR:=by
 refine F.ok UC (fun vs H Q E h=>?_) (fun cdv A outer s H vs Q E hr h=>?_)
 ·obtain ⟨b,w,rfl,_⟩:=h;rfl
 ·obtain ⟨b,w,rfl,hw,q⟩:=h
  refine #[_,(zy (yb (xA (pv 0) (fun _=>rfl))
    (zf (zo (wW PySem.F.plainAttrs_str PySem.F.slot_str_join PySem.F.type_str_join Jc yv (za (wg (own:=["_law_k"]) (caps:=["_law_word_here"]) (ix:=[1]) (tt:=ve) (te:=(tOp (rIx K) (yf 1) (tOp (rI0 fun i j=>.int (i - j)) (tOp (rI0 fun i j=>.int (i - j)) (tCB (X2 K) (zM (yf 1) xu)) (tC (.int 1))) (yf 0)))) rfl (z9 (sc:=ze jW) rfl (by symm) (by symm) (by symm) rfl (by symm) (by symm) rfl) (yI rfl B.range (za (zH B.len (pv 1)) zc)) (fun _ _ _ _ _ _=>zF (i:=0) (show List.Nodup [_,_] by decide) rfl (.inl rfl)) (fun _ _ _ _ _ _=>yT) (fun _ _ _ _ _ _=>(zp WW (pv 1) (zr vD (zr vD (zH B.len (pv 1)) zd) (pv 0))))) zc))))
    zu)
   (zf (zo (pv 1)))),?_]
  have s16:=yt
  rfl'
  refine xC (fun hb=>#[⋯,⋯,⋯,fun D hD=>CompR.by (fun i acc H'=>Same H H' /\ H' D = some (.lst acc) /\ acc =(((w.reverse.take i).map fun c=>[c]).map tx).map V.str) #[zg hD,zb,rfl] ?_ ?_]) fun hb=>?_
  ·refine nm3 ?_;rintro i acc H' hi ⟨hs,hH,rfl⟩:_;rw [Int.toNat_natCast]at hi
   have hr:w.reverse[i]? = some (w[w.length - 1 - i]'⋯):=by
    rw [List.getElem?_reverse hi,List.getElem?_eq_getElem ⋯]
   have ha:atI w ((w.length:Int) - 1 - (0 + (i:Int))) = some (w[w.length - 1 - i]'⋯):=by
    rw [show (w.length:Int) - 1 - (0 + (i:Int)) =((w.length - 1 - i:Nat):Int) by lia];exact Zi (List.getElem?_eq_getElem ⋯)
   right;simp only [ve]
   rfl'
   refine #[xq,⋯,⋯,_,ha,hH,by simp only [List.length_map,List.length_take,List.length_reverse]; lia,CNx.mk (by rw [Int.toNat_natCast]; exact hi) #[zA hs hD,zb,?_]];rw [zR hr,List.map_append,List.map_append,List.map_append];rfl
  ·rintro acc H' ⟨hs,hH,rfl⟩;rw [Int.toNat_natCast,<- List.length_reverse,List.take_length]at hH
   have hfl:(w.reverse.map fun c=>[c]).flatten = w.reverse:=by
    induction w.reverse with
    | nil=>rfl
    | cons a r ih=>rw [List.map_cons,List.flatten_cons,ih]; rfl
   refine #[tx [],D,(w.reverse.map fun c=>[c]).map tx,rfl,rfl,SqL.of hH,Wo (by rw [hfl,List.length_reverse]; lia),?_];have e:Txt.join (tx []) ((w.reverse.map fun c=>[c]).map tx) = Str.join (tx []) ((w.reverse.map fun c=>[c]).map tx):=StrLaws.glued_eq_join _ _;rw [e,YJ,hfl];have:=q H' hs;rw [if_pos hb]at this;exact this
  ·have:=q H (Same.refl _);rw [if_neg hb]at this;exact this
noncomputable def hd2 (p D:Addr) (H:Hp):Hp:=hide D (hide p H)
theorem qw {p D b:Addr} {H:Hp} (h1:b ≠ p) (h2:b ≠ D):hd2 p D H b = H b:=by unfold hd2; rw [zt h2,zt h1]
theorem Xf {p D:Addr} {H:Hp}:Same (hd2 p D H) H:=hide_same.trans hide_same
theorem Xg {p D:Addr} {H H':Hp} (s:Same H H'):Same (hd2 p D H) (hd2 p D H'):=zJ (zJ s)
theorem JW {p D:Addr} {H:Hp} {o:HO}:Same (hd2 p D H) (hd2 p D (upd H p o)):=zJ yS
theorem Ki {p D:Addr} {H:Hp} {o:HO}:Same (hd2 p D H) (hd2 p D (upd H D o)):=fun b o' e=>by
 by_cases h:b = D
 ·rw [h,hd2,zQ]at e; cases e
 ·rw [hd2,zt h]at e ⊢;by_cases g:b = p
  ·rw [g,zQ]at e; cases e
  ·rw [zt g]at e ⊢;rw [zk h];exact e
theorem Uv {X:Hp} {q s t:Addr} {u v:()} {n:Int} (ht:X t = some (.tup [.int n,.int 0,.bl true])) (hs:X s = some (.lst [.ref t])) (hq:X q = some (.tup [.str (tx u),.str (tx v),.ref s])):EnA K X (u,v,[(n,0,true)]) (.ref q):=by
 refine #[q,s,rfl,SqT.of hq,[.ref t],hs,?_];simp only [List.map_cons,List.map_nil,Iss,dSt,Is];exact #[_,_,rfl,#[t,_,rfl,SqT.of ht,_,_,rfl,rfl,_,_,rfl,rfl,_,_,rfl,rfl,rfl],rfl]
theorem EnsA.ins {H:Hp} {e:Ent} {v:V} (hv:EnA K H e v):∀ {i:Nat} {es:List Ent} {vs:List V},EnsA K H es vs -> EnsA K H (es.take i ++ e :: es.drop i) (vs.take i ++ v :: vs.drop i)
 | 0,es,vs,h=>by
  simp only [List.take_zero,List.drop_zero,List.nil_append,EnsA];exact #[_,_,rfl,hv,h]
 | i + 1,[],vs,h=>by
  simp only [EnsA]at h;subst h;simp only [List.take_nil,List.drop_nil,List.nil_append,EnsA];exact #[_,_,rfl,hv,rfl]
 | i + 1,f :: es,vs,h=>by
  simp only [EnsA]at h;obtain ⟨x,r,rfl,h1,h2⟩:=h;simp only [List.take_succ_cons,List.drop_succ_cons,List.cons_append,EnsA];exact #[_,_,rfl,h1,EnsA.ins hv h2]
def EntD (ls:()) (m:Nat) (rs:List zE) (e:Ent):Prop:=(∃ n:Int,e.2.2 = [(n,0,true)] /\ ((e.1,e.2.1) ∈ rs \/ (e.2.1,e.1) ∈ rs)) \/ (e.2.2 = [] /\ e.1 = e.2.1 /\ e.1.length = m /\ ∀ x ∈ e.1,x ∈ ls)
theorem EntD.more {ls:()} {m:Nat} {rs ss:List zE} {e:Ent} (h:EntD ls m rs e):EntD ls m (rs ++ ss) e:=by
 rcases h with ⟨n,h1,h2 | h2⟩ | h
 ·exact .inl #[n,h1,.inl (List.mem_append_left _ h2)]
 ·exact .inl #[n,h1,.inr (List.mem_append_left _ h2)]
 ·exact .inr h
theorem Vl {rs:List zE} {u:()} {y:V} (h:atD (kvR rs) (tx u) = some y):∃ v,(u,v) ∈ rs /\ y = .str (tx v):=by
 unfold atD at h;obtain ⟨q,h1,h2⟩:=ak.mp h;obtain ⟨r,hr,rfl⟩:=aa.mp (List.mem_of_find?_eq_some h1);have e:r.1 = u:=wL (of_decide_eq_true (List.find?_some (p:=fun p:Str × V=>decide (p.1 = tx u)) h1));exact #[r.2,by rw [<- e]; exact hr,h2.symm]
def LsI (K:PySem.W.Frag) (P:Program) (w:World) (H:Hp) (p D:Addr) (ls:()) (m i j:Nat) (rs:List zE) (es:List Ent) (H':Hp):Prop:=Same H H' /\ (∃ ep,H' p = some (kY P w p (kvR rs) ep)) /\ (∃ xs,H' D = some (.lst xs) /\ EnsA K (hd2 p D H') es xs) /\ es.length = i /\ rs.length <= j /\ DrawnP ls m rs /\ ∀ e ∈ es,EntD ls m rs e
theorem LsI.same {H H' H'':Hp} {p D:Addr} {ls:()} {m i j:Nat} {rs:List zE} {es:List Ent} (h:LsI K P w H p D ls m i j rs es H') (s:Same H' H''):LsI K P w H p D ls m i j rs es H'':=by
 obtain ⟨s1,⟨ep,h1⟩,⟨xs,h2,h3⟩,h4⟩:=h;exact #[s1.trans s,#[ep,s _ _ h1],#[xs,s _ _ h2,h3.same (Xg s)],h4]
theorem LsI.ins {H H':Hp} {p D:Addr} {ls:()} {m i j k:Nat} {rs:List zE} {es:List Ent} {xs:List V} {e:Ent} {v:V} (h:LsI K P w H p D ls m i j rs es H') (hD:H D = none) (hpD:p ≠ D) (hX:H' D = some (.lst xs)) (hv:EnA K (hd2 p D H') e v) (he:EntD ls m rs e):LsI K P w H p D ls m (i + 1) j rs (es.take k ++ e :: es.drop k) (upd H' D (.lst (xs.take k ++ v :: xs.drop k))):=by
 obtain ⟨s1,⟨ep,h1⟩,⟨xs',h2,h3⟩,h4,h5,h6,h7⟩:=h;rw [hX]at h2;cases h2;refine #[zA s1 hD,#[ep,by rw [zk hpD]; exact h1],#[_,zb,(EnsA.ins hv h3).same Ki],?_,h5,h6,fun x hx=>?_]
 ·simp only [List.length_append,List.length_cons,List.length_take,List.length_drop];lia
 ·rcases af.mp hx with z | z
  ·exact h7 x (List.mem_of_mem_take z)
  ·rcases ac.mp z with rfl | z
   ·exact he
   ·exact h7 x (List.mem_of_mem_drop z)
def Zt (K:PySem.W.Frag):Sp:=fun vs H Q _=>∃ (a:Addr) (ns:List Int) (ls:()) (m:Nat),vs = [.ref a,.str (tx ls),.int (m:Nat)] /\ SqL K H a (ns.map V.int) /\ (∀ z ∈ ns,wM z) /\ 1 <= ls.length /\ ls.length <= 26 /\ 1 <= m /\ m <= 50 /\ ∀ (D:Addr) (H':Hp) (rs:List zE) (es:List Ent),Same H H' -> EnsM K H' D es -> es.length <= 9 -> DrawnP ls m rs -> (∀ e ∈ es,EntD ls m rs e) -> Q (.ref D) H'
def Ls0 (K:PySem.W.Frag) (P:Program) (w:World) (H:Hp) (a p:Addr) (ls:()) (m:Nat) (σ:L2.St) (H':Hp):Prop:=∃ D:Addr,H D = none /\ p ≠ D /\ LsI K P w H p D ls m 0 0 [] [] H' /\ σ = [!!a,~~~ls,-~~~m,!!p,!!D,none,none,none,none,none,none]
def LsZ (K:PySem.W.Frag) (P:Program) (w:World) (H:Hp) (a p D:Addr) (ls:()) (m n:Nat) (σ:L2.St) (H':Hp):Prop:=∃ (rs:List zE) (es:List Ent) (v5 v6 v7 v8 v9:Option V),LsI K P w H p D ls m n n rs es H' /\ σ = [!!a,~~~ls,-~~~m,!!p,!!D,v5,v6,v7,v8,v9,none]
def LsU (K:PySem.W.Frag) (P:Program) (w:World) (H:Hp) (a p D:Addr) (ls:()) (m i:Nat) (es:List Ent) (u:()) (d:Int) (v9:Option V) (σ:L2.St) (H':Hp):Prop:=∃ (rs:List zE) (v:()),LsI K P w H p D ls m i (i + 1) rs es H' /\ (u,v) ∈ rs /\ σ = [!!a,~~~ls,-~~~m,!!p,!!D,some (.int (0 + (i:Int))),~~~!d,~~~u,~~~v,v9,none]
def LsE (K:PySem.W.Frag) (P:Program) (w:World) (H:Hp) (a p D:Addr) (ls:()) (m i:Nat) (rs:List zE) (es:List Ent) (u v:()) (d:Int) (σ:L2.St) (H':Hp):Prop:=∃ (q:Addr) (e:Ent),(LsI K P w H p D ls m i (i + 1) rs es H' /\ EntD ls m rs e /\ EnA K (hd2 p D H') e (.ref q)) /\ σ = [!!a,~~~ls,-~~~m,!!p,!!D,some (.int (0 + (i:Int))),~~~!d,~~~u,~~~v,!!q,none]
def LsF (K:PySem.W.Frag) (P:Program) (w:World) (H:Hp) (a p D:Addr) (ls:()) (m:Nat) (v5 v6 v7 v8 v9:Option V) (σ:L2.St) (H':Hp):Prop:=∃ (rs:List zE) (es:List Ent) (n:Nat) (v10:Option V),LsI K P w H p D ls m n 8 rs es H' /\ n <= 9 /\ σ = [!!a,~~~ls,-~~~m,!!p,!!D,v5,v6,v7,v8,v9,v10]
theorem sc_list:sQz 3 ["_law_script", "_law_letters_here", "_law_size", "_law_rights", "_law_entries_here", "_law_number", "_law_cell_here", "_law_left", "_law_right", "_law_entry", "_law_word_here"] Ze:=by nofun
theorem VT {f:Addr} {fd:FuncData} (B:Bt mg)  (F:("_law_list"^^^Ze)) (D_cell:(1<<<"_law_cell") ["_law_script", "_law_k"] [] (uF K)) (D_exact:(1<<<"_law_exact") ["_law_number", "_law_letters_here", "_law_size"] [] uB) (D_mixed:(1<<<"_law_mixed") ["_law_cell_here", "_law_turn"] [] wz) (D_word:(1<<<"_law_word") ["_law_number", "_law_letters_here", "_law_most"] [] jr):(2&&&["_law_script", "_law_letters_here", "_law_size"]) (Zt K):=by
 refine F.ok sc_list (fun vs H Q E h=>?_) (fun cdv A outer s H vs Q E hr h=>?_)
 ·obtain ⟨a,ns,ls,m,rfl,_⟩:=h;rfl
 ·obtain ⟨a,ns,ls,m,rfl,hS,hB,h1,h2,h3,h4,q⟩:=h
  refine #[_,(zj (zw 3 sc_list.nd Zs)
   (zj (zw 4 sc_list.nd (wk zc))
   (zj (yH PassesOwn.never rfl (yI rfl B.range (za (zr z8 zd (zr yG (cl0 D_cell hr .nil rfl (za (pv 0) (za zd zc))) zd)) zc)) (zF (i:=5) sc_list.nd rfl (.inl rfl))
    (zj (zw 6 sc_list.nd (cl0 D_cell hr .nil rfl (za (pv 0) (za (zr z8 zd (pv 5)) zc))))
    (zj (zw 7 sc_list.nd (cl0 D_exact hr .nil rfl (za (cl0 D_mixed hr .nil rfl (za (pv 6) (za zd zc))) (za (pv 1) (za (pv 2) zc)))))
    (zj (zw 8 sc_list.nd (Ya PySem.F.slot_dict_setdefault PySem.F.type_dict_setdefault Zp (pv 3) (za (pv 7) (za (cl0 D_word hr .nil rfl (za (cl0 D_mixed hr .nil rfl (za (pv 6) (za zd zc))) (za (pv 1) (za (zr vD (pv 2) zd) zc)))) zc))))
    (zj (zw 9 sc_list.nd (z5 (za (pv 7) (za (pv 8) (za (wk (za (z5 (za (pv 5) (za zd (za xm zc)))) zc)) zc)))))
    (zj (yb (zK Yn (zr yG (cl0 D_mixed hr .nil rfl (za (pv 6) (za zd zc))) zd) zd (zP _))
     (zf (zw 9 sc_list.nd (z5 (za (pv 8) (za (pv 7) (za (wk (za (z5 (za (pv 5) (za zd (za xm zc)))) zc)) zc))))))
     zu)
    (zf (yQ (wW PySem.F.plainAttrs_list PySem.F.slot_list_insert PySem.F.type_list_insert W8 (pv 4) (za (zr yG (cl0 D_mixed hr .nil rfl (za (pv 6) (za zd zc))) (zr z8 (zH B.len (pv 4)) zd)) (za (pv 9) zc)))))))))))
   (zj (yb (zK Yn (zr yG (zr yN (cl0 D_cell hr .nil rfl (za (pv 0) (za zd zc))) zd) zd) zd (zP _))
    (zj (zw 10 sc_list.nd (cl0 D_exact hr .nil rfl (za (cl0 D_mixed hr .nil rfl (za (cl0 D_cell hr .nil rfl (za (pv 0) (za zd zc))) (za zd zc))) (za (pv 1) (za (pv 2) zc)))))
    (zf (yQ (wW PySem.F.plainAttrs_list PySem.F.slot_list_insert PySem.F.type_list_insert W8 (pv 4) (za (zr yG (zr yN (cl0 D_cell hr .nil rfl (za (pv 0) (za zd zc))) zd) (zr z8 (zH B.len (pv 4)) zd)) (za (z5 (za (pv 10) (za (pv 10) (za (wk zc) zc)))) zc))))))
    zu)
   (zf (zo (pv 4))))))),?_]
  have s16:=yt;refine zl (fun σ H'=>Same H H' /\ ∃ (p:Addr) (ep:Nat),H p = none /\ H' p = some (kY P w p [] ep) /\ σ = [!!a,~~~ls,-~~~m,!!p,none,none,none,none,none,none,none]) ?_ ?_
  ·rfl'
   exact fun p ep hp=>#[zg hp,p,hp,#[ep,zb],rfl]
  rintro σ H0 ⟨s0,p,ep,hp,hH0,rfl⟩:_;right;refine zl (Ls0 K P w H a p ls m) ?_ ?_
  ·rfl'
   refine #[⋯,fun D hD=>#[D,jq s0 hD,(fun z=>by rw [<- z,hH0]at hD; cases hD),#[s0.trans (zg hD),#[ep,zg hD _ _ hH0],#[[],zb,by simp only [EnsA]],rfl,Nat.le_refl _,#[.nil,fun r h=>(nomatch h)],fun e h=>(nomatch h)],rfl]]
  rintro σ H1 ⟨D,hD,hpD,hL1,rfl⟩:_;right;refine zl (fun σ H'=>∃ n,n <= 8 /\ LsZ K P w H a p D ls m n σ H') ?_ ?_
  ·rfl'
   refine xk (hL1.1.seq hS) hB ∅ fun c hc=>?_;have c0:=Int.emod_nonneg c (b:=8) ∅;have c1:=Int.emod_lt_of_pos c (b:=8) ∅;refine #[c,rfl,∅,⋯,⋯,ForR.by (fun i σ H'=>LsZ K P w H a p D ls m i σ H') #[[],[],none,none,none,none,none,hL1,rfl] ?_ ?_]
   ·refine nm3 ?_;rintro i σ H2 hi ⟨rs,es,v5,v6,v7,v8,v9,hL,rfl⟩:_;right;simp only [yW,List.set_cons_succ,List.set_cons_zero];refine zl (fun σ H'=>H' = H2 /\ ∃ d:Int,wM d /\ σ = [!!a,~~~ls,-~~~m,!!p,!!D,some (.int (0 + (i:Int))),~~~!d,v7,v8,v9,none]) ?_ ?_
    ·rfl'
     exact xk (hL.1.seq hS) hB ⋯ fun d hd=>#[rfl,d,hd,rfl]
    rintro σ H3 ⟨rfl,d,hd,rfl⟩:_;right;refine zl (fun σ H'=>H' = H3 /\ ∃ u:(),u.length = m /\ (∀ x ∈ u,x ∈ ls) /\ σ = [!!a,~~~ls,-~~~m,!!p,!!D,some (.int (0 + (i:Int))),~~~!d,~~~u,v8,v9,none]) ?_ ?_
    ·rfl'
     exact yE hd ∅ ∅ fun z hz=>u7 h1 h2 ⋯ fun u hu1 hu2=>#[rfl,u,hu1,hu2,rfl]
    rintro σ H4 ⟨rfl,u,hu1,hu2,rfl⟩:_;right;refine zl (LsU K P w H a p D ls m i es u d v9) ?_ ?_
    ·obtain ⟨s1,⟨ep2,hP2⟩,⟨xs,hX,hE⟩,hel,hrl,hDr,hEd⟩:=id hL
     rfl'
     unfold Js
     rfl'
     refine #[#[_,_,hP2],?_];refine yE hd ∅ ∅ fun z hz=>XQ hz h1 h2 ⋯ ⋯ fun v hv1 hv2=>?_;refine #[p,_,_,_,_,rfl,rfl,hP2,by unfold kvR; rw [List.length_map]; lia,fun y hy=>?_,fun hno ep3=>?_]
     ·obtain ⟨v',hm,rfl⟩:=Vl hy;exact #[rs,v',#[s1,#[ep2,hP2],#[xs,hX,hE],hel,⋯,hDr,hEd],hm,rfl]
     ·refine #[rs ++ [(u,v)],v,#[zA s1 hp,#[ep3,by rw [zb]; unfold kvR; rw [List.map_append]; rfl],#[xs,by rw [zk fun z=>hpD z.symm]; exact hX,hE.same JW],hel,by rw [List.length_append]; exact Nat.succ_le_succ hrl,hDr.snoc hno hu1 ⋯ hu2 hv2,fun e he=>(hEd e he).more],by simp,rfl]
    rintro σ H5 ⟨rs,v,hL,hm,rfl⟩:_
    have mk:∀ {H6:Hp} {x y:()},LsI K P w H p D ls m i (i + 1) rs es H6 -> ((x,y) ∈ rs \/ (y,x) ∈ rs) -> ∀ t,H6 t = none -> ∀ s,upd H6 t (.tup [.int (0 + (i:Int)),.int 0,.bl true]) s = none -> ∀ q,upd (upd H6 t (.tup [.int (0 + (i:Int)),.int 0,.bl true])) s (.lst [.ref t]) q = none -> ∃ e,LsI K P w H p D ls m i (i + 1) rs es (upd (upd (upd H6 t (.tup [.int (0 + (i:Int)),.int 0,.bl true])) s (.lst [.ref t])) q (.tup [.str (tx x),.str (tx y),.ref s])) /\ EntD ls m rs e /\ EnA K (hd2 p D (upd (upd (upd H6 t (.tup [.int (0 + (i:Int)),.int 0,.bl true])) s (.lst [.ref t])) q (.tup [.str (tx x),.str (tx y),.ref s]))) e (.ref q):=fun {H6 x y} hL hm t ht s hs q hq=>by
     have u1:=zg (o:=HO.tup [.int (0 + (i:Int)),.int 0,.bl true]) ht;have u2:=zg (o:=HO.lst [.ref t]) hs;have u3:=zg (o:=HO.tup [.str (tx x),.str (tx y),.ref s]) hq;obtain ⟨_,⟨ep',hP'⟩,⟨xs',hX',_⟩,_⟩:=id hL;have ne:∀ {H7:Hp} {b:Addr},Same H6 H7 -> H7 b = none -> b ≠ p /\ b ≠ D:=fun sm hb=>#[fun z=>(by rw [z,sm _ _ hP']at hb; cases hb),fun z=>(by rw [z,sm _ _ hX']at hb; cases hb)];have n1:=ne (Same.refl _) ht;have n2:=ne u1 hs;have n3:=ne (u1.trans u2) hq;exact #[(x,y,[(0 + (i:Int),0,true)]),hL.same (u1.trans (u2.trans u3)),.inl #[_,rfl,hm],Uv (by rw [qw n1.1 n1.2]; exact (u2.trans u3) _ _ zb) (by rw [qw n2.1 n2.2]; exact u3 _ _ zb) (by rw [qw n3.1 n3.2]; exact zb)]
    right;refine zl (LsE K P w H a p D ls m i rs es u v d) ?_ ?_
    ·rfl'
     refine #[⋯,fun t ht=>#[⋯,fun s hs=>#[⋯,fun q hq=>?_]]];obtain ⟨e,h⟩:=mk hL (.inl hm) t ht s hs q hq;exact #[q,e,h,rfl]
    rintro σ H6 ⟨q0,e0,h0,rfl⟩:_;right;refine zl (LsE K P w H a p D ls m i rs es u v d) ?_ ?_
    ·rfl'
     refine yE hd ∅ ∅ fun z hz=>#[z,rfl,∅,xC (fun _=>#[⋯,fun t ht=>#[⋯,fun s hs=>#[⋯,fun q hq=>?_]]]) fun _=>#[q0,e0,h0,rfl]];obtain ⟨e,h⟩:=mk h0.1 (.inr hm) t ht s hs q hq;exact #[q,e,h,rfl]
    rintro σ H7 ⟨q,e,⟨hL,hed,hen⟩,rfl⟩:_;obtain ⟨xs,hX,hE⟩:=id hL.2.2.1;have hxl:=hE.len;rw [hL.2.2.2.1]at hxl;right
    rfl'
    refine #[.inl #[_,SqL.of hX],yE hd ∅ ∅ fun z hz=>#[xs.length,.inl #[xs,SqL.of hX,rfl],z,rfl,⋯,?_]];have z0:=Int.emod_nonneg z (b:=(xs.length:Int) + 1) ⋯;have z1:=Int.emod_lt_of_pos z (b:=(xs.length:Int) + 1) ⋯;exact #[D,xs,_,(z % ((xs.length:Int) + 1)).toNat,rfl,by rw [Int.toNat_of_nonneg z0],hX,⋯,⋯,rs,_,_,_,_,_,_,hL.ins hD hpD hX hen hed,rfl]
   ·exact fun σ H2 h=>#[_,⋯,h]
  rintro σ H2 ⟨n,hn,rs,es,v5,v6,v7,v8,v9,hL,rfl⟩:_
  replace hL:LsI K P w H p D ls m n 8 rs es H2:=#[hL.1,hL.2.1,hL.2.2.1,hL.2.2.2.1,Nat.le_trans hL.2.2.2.2.1 hn,hL.2.2.2.2.2]
  obtain ⟨xs,hX,hE⟩:=id hL.2.2.1;have hxl:=hE.len;rw [hL.2.2.2.1]at hxl;right;refine zl (LsF K P w H a p D ls m v5 v6 v7 v8 v9) ?_ ?_
  ·rfl'
   refine xk (hL.1.seq hS) hB ∅ fun c hc=>#[c,rfl,#[∅,∅],∅,xC (fun _=>?_) fun _=>#[rs,es,n,_,hL,⋯,rfl]];refine zl (fun σ H'=>H' = H2 /\ ∃ u:(),u.length = m /\ (∀ x ∈ u,x ∈ ls) /\ σ = [!!a,~~~ls,-~~~m,!!p,!!D,v5,v6,v7,v8,v9,~~~u]) ?_ ?_
   ·rfl'
    exact xk (hL.1.seq hS) hB ∅ fun d hd=>yE hd ∅ ∅ fun z hz=>u7 h1 h2 ⋯ fun u hu1 hu2=>#[rfl,u,hu1,hu2,rfl]
   rintro σ H3 ⟨rfl,u,hu1,hu2,rfl⟩:_;right
   rfl'
   refine #[.inl #[_,SqL.of hX],xk (hL.1.seq hS) hB ∅ fun d hd=>?_];refine #[d,rfl,#[∅,∅],xs.length,.inl #[xs,SqL.of hX,rfl],⋯,Nat.zero_le _,fun s hs=>#[⋯,fun q hq=>?_]];have z0:=Int.emod_nonneg (d / 24) (b:=(xs.length:Int) + 1) ⋯;have z1:=Int.emod_lt_of_pos (d / 24) (b:=(xs.length:Int) + 1) ⋯;have u1:=zg (o:=HO.lst []) hs;have u2:=zg (o:=HO.tup [.str (tx u),.str (tx u),.ref s]) hq;obtain ⟨_,⟨ep',hP'⟩,_⟩:=id hL;have ne:∀ {H7:Hp} {b:Addr},Same H3 H7 -> H7 b = none -> b ≠ p /\ b ≠ D:=fun sm hb=>#[fun z=>(by rw [z,sm _ _ hP']at hb; cases hb),fun z=>(by rw [z,sm _ _ hX]at hb; cases hb)];have n1:=ne (Same.refl _) hs;have n2:=ne u1 hq;have hen:EnA K (hd2 p D (upd (upd H3 s (.lst [])) q (.tup [.str (tx u),.str (tx u),.ref s]))) (u,u,[]) (.ref q):=#[q,s,rfl,SqT.of (by rw [qw n2.1 n2.2]; exact zb),[],by rw [qw n1.1 n1.2]; exact u2 _ _ zb,by simp only [List.map_nil,Iss]];have hX':=(u1.trans u2) _ _ hX;exact #[D,xs,_,(d / 24 % ((xs.length:Int) + 1)).toNat,rfl,by rw [Int.toNat_of_nonneg z0],hX',⋯,⋯,rs,_,n + 1,_,(hL.same (u1.trans u2)).ins hD hpD hX' hen (.inr #[rfl,rfl,hu1,hu2]),⋯,rfl]
  rintro σ H3 ⟨rs,es,n,v10,hL,hn,rfl⟩:_;right
  rfl'
  obtain ⟨xs,hX,hE⟩:=id hL.2.2.1;exact q D H3 rs es hL.1 #[xs,hX,hE.same Xf] (by rw [hL.2.2.2.1]; exact hn) hL.2.2.2.2.2.1 hL.2.2.2.2.2.2
noncomputable def JT:Stmt -> Scope
 | .Assign _ (.Call _ _ [⟨_,.Lambda _ _ sc _,_⟩] _) _=>sc
 | _=>ze (top 0)
noncomputable def J2:Stmt -> Pos
 | .Assign _ (.Call _ _ [⟨_,.Lambda _ _ _ p,_⟩] _) _=>p
 | _=>default
noncomputable def lp2:Pos:=J2 ((zO uK).getD 2 (.Pass #[0,0,0,0]))
noncomputable def lq2:Str:="_law_due.<locals>.<lambda>"
theorem Uy {a b z:Str} {x y d:Addr} (h:List.lookup z [(b,y),(a,x)] = some d):z ∈ [a,b]:=by
 have:=PySem.mem_of_lookup h;simp only [List.mem_cons,Prod.mk.injEq,List.not_mem_nil,or_false]at this ⊢;rcases this with ⟨h,_⟩ | ⟨h,_⟩
 ·exact .inr h
 ·exact .inl h
theorem ux {e:Ent}:∀ {es bs:List Ent},uq bs (es ++ [e]) = if e.1 ∈ (uq bs es).map (·.1)then uq bs es else uq bs es ++ [e]
 | [],bs=>by
  by_cases h:e.1 ∈ bs.map (·.1)
  ·simp only [List.nil_append,uq,if_pos h];exact (if_pos h).symm
  ·simp only [List.nil_append,uq,if_neg h];exact (if_neg h).symm
 | f :: es,bs=>by
  simp only [List.cons_append,uq];split
  ·exact ux
  ·exact ux
theorem ltI_w:WkO ltI:=#[fun a b h=>jz h,fun a b c h1 h2=>Yl h1 h2]
noncomputable def kvE (bs:List Ent) (vs:List V):List (Str × V):=(bs.zip vs).map fun t=>(tx t.1.1,t.2)
theorem Xe {bs:List Ent} {vs:List V} {e:Ent} {v:V} (h:vs.length = bs.length):kvE (bs ++ [e]) (vs ++ [v]) = kvE bs vs ++ [(tx e.1,v)]:=by
 unfold kvE;rw [List.zip_append h.symm,List.map_append];rfl
theorem XS {bs:List Ent} {vs:List V} (h:vs.length = bs.length):(kvE bs vs).map (fun p=>V.str p.1) = bs.map fun e=>V.str (tx e.1):=by
 unfold kvE;rw [List.map_map];have:=congrArg (List.map fun e:Ent=>V.str (tx e.1)) (List.map_fst_zip (l₁:=bs) (l₂:=vs) ⋯);rw [List.map_map]at this;exact this
theorem vK {u:()}:∀ {bs:List Ent} {vs:List V},vs.length = bs.length -> atD (kvE bs vs) (tx u) = none -> u ∉ bs.map (·.1)
 | [],_,_,_=>by simp
 | b :: bs,[],h,_=>by simp at h
 | b :: bs,v :: vs,hl,h=>by
  unfold atD kvE at h;rw [List.zip_cons_cons,List.map_cons,List.find?_cons]at h;by_cases e:tx b.1 = tx u
  ·rw [decide_eq_true e]at h;cases h
  ·rw [decide_eq_false e]at h;rw [List.map_cons,List.mem_cons];rintro (z | z)
   ·exact e (by rw [z])
   ·exact vK (by simpa using hl) h z
theorem jP {u:()} {y:V} {bs:List Ent} {vs:List V} (h:atD (kvE bs vs) (tx u) = some y):u ∈ bs.map (·.1):=by
 unfold atD at h;obtain ⟨q,h1,_⟩:=ak.mp h;obtain ⟨t,ht,rfl⟩:=aa.mp (List.mem_of_find?_eq_some h1);have e:t.1.1 = u:=wL (of_decide_eq_true (List.find?_some (p:=fun p:Str × V=>decide (p.1 = tx u)) h1));exact aa.mpr #[t.1,(List.of_mem_zip (show (t.1,t.2) ∈ bs.zip vs from ht)).1,e]
theorem WX {X:Hp}:∀ {bs:List Ent} {vs:List V},EnsA K X bs vs -> bs.Pairwise (fun a b=>a.1 ≠ b.1) -> ∀ e ∈ bs,∃ v,atD (kvE bs vs) (tx e.1) = some v /\ EnA K X e v
 | [],_,_,_,e,he=>by cases he
 | b :: bs,vs,h,hp,e,he=>by
  simp only [EnsA]at h;obtain ⟨v,r,rfl,h1,h2⟩:=h;rw [List.pairwise_cons]at hp;unfold atD kvE;rw [List.zip_cons_cons,List.map_cons,List.find?_cons];rcases ac.mp he with rfl | he
  ·rw [decide_eq_true rfl];exact #[v,rfl,h1]
  ·rw [decide_eq_false fun z=>hp.1 e he (wL z)];exact WX h2 hp.2 e he
theorem ja {k:Nat} {l:()} {ns:List Int} {e:Ent}:zY k l ns [e] = if e.1 = e.2.1 then []else [zU k l ns e]:=by
 unfold zY;by_cases h:e.1 = e.2.1
 ·rw [if_pos h];simp [h]
 ·rw [if_neg h];simp [h]
theorem wv {k:Nat} {l:()} {ns:List Int} {u v:()} (hk:k ≠ 2) (h:u.length < v.length):ye k l ns u v = true /\ ye k l ns v u = false:=by
 unfold ye zx;rw [if_neg hk,if_neg hk,if_neg ⋯,if_neg ⋯];exact #[decide_eq_true ⋯,decide_eq_false ⋯]
theorem YO {k:Nat} {l:()} {ns:List Int} {e:Ent} (hk:k ≠ 2) (h:e.2.1.length < e.1.length):zU k l ns e = e:=by
 unfold zU;rw [if_pos (wv hk h).1]
theorem Z7 {k:Nat} {l:()} {ns:List Int} {e:Ent} (hk:k ≠ 2) (h:e.1.length < e.2.1.length):zU k l ns e =(e.2.1,e.1,yR e.2.2):=by
 unfold zU;rw [if_neg (by rw [(wv hk h).2]; decide)]
structure DuE (l:()) (e:Ent):Prop where
 a:e.1.length <= 60
 b:e.2.1.length <= 60
 ma:∀ c ∈ e.1,c ∈ l
 mb:∀ c ∈ e.2.1,c ∈ l
 eq:e.1.length = e.2.1.length -> e.1 = e.2.1
 one:e.1.length ≠ e.2.1.length -> ∃ n:Int,e.2.2 = [(n,0,true)]
def DuI (K:PySem.W.Frag) (P:Program) (w:World) (H:Hp) (p:Addr) (bs:List Ent) (H':Hp):Prop:=Same H H' /\ ∃ vs ep,H' p = some (kY P w p (kvE bs vs) ep) /\ EnsA K (hide p H') bs vs
theorem DuI.same {H H' H'':Hp} {p:Addr} {bs:List Ent} (h:DuI K P w H p bs H') (s:Same H' H''):DuI K P w H p bs H'':=by
 obtain ⟨s1,vs,ep,h1,h2⟩:=h;exact #[s1.trans s,vs,ep,s _ _ h1,h2.same (zJ s)]
theorem DuI.put {H H':Hp} {p:Addr} {bs:List Ent} {vs:List V} {e:Ent} {v:V} {ep:Nat} (s1:Same H H') (hp:H p = none) (hE:EnsA K (hide p H') bs vs) (hen:EnA K (hide p H') e v):DuI K P w H p (bs ++ [e]) (upd H' p (kY P w p (kvE bs vs ++ [(tx e.1,v)]) ep)) :=
 #[zA s1 hp,vs ++ [v],ep,by rw [zb,Xe hE.len],(EnsA.snoc hen hE).same yS]
def DuS (K:PySem.W.Frag) (P:Program) (w:World) (H:Hp) (a p:Addr) (l:()) (b:Bool) (bs:List Ent) (v4:Option V) (σ:L2.St) (H':Hp):Prop:=DuI K P w H p bs H' /\ σ = [!!a,~~~l,some (.bl b),!!p,v4,none]
def DuL (K:PySem.W.Frag) (P:Program) (w:World) (H:Hp) (a p:Addr) (l:()) (b:Bool) (bs:List Ent) (σ:L2.St) (H':Hp):Prop:=∃ v4,DuS K P w H a p l b bs v4 σ H'
def tbD (K:PySem.W.Frag):TE:=vn (Jl (qJ vR [] E0 (zM (yf 2) (zM (yf 0) xu)))) (yW 0) ve (tBM K "str" Zg (yf 1) (zM (yf 0) xu)) 1 [1]
theorem Qb {l u:()} {b:Bool} {H:Hp} {Q:VK} (hl:l.length <= 26) (hu:u.length <= 60) (hm:∀ c ∈ u,c ∈ l) (h:∀ D H',Same H H' -> H' D = some (.lst ((z7 (if b = true then 1 else 0) l u).map V.int)) -> Q (.ref D) H'):tbD K [~~~u,~~~l,some (.bl b)] H Q:=by
 unfold tbD
 rfl'
 have s16:=yt;refine XX ⋯ fun H1 s1=>#[_,rfl,fun D hD=>CompS.by (l:=ya (if b = true then 1 else 0) u) (fun i acc H'=>Same H1 H' /\ H' D = some (.lst acc) /\ acc =(ZL l ((ya (if b = true then 1 else 0) u).take i)).map V.int) #[zg hD,zb,rfl] ?_ ?_]
 ·refine nm4 ?_;rintro i c acc H' hc ⟨hs,hH,rfl⟩:_;have hci:=(ae.mp hc).1;have hsl:(ya (if b = true then 1 else 0) u).length = u.length:=by unfold ya; split <;> simp
  have hcl:c ∈ l:=hm c (by
   have hc:=List.mem_of_getElem? hc;unfold ya at hc;split at hc
   ·exact ap.mp hc
   ·exact hc)
  right;simp only [ve]
  rfl'
  rw [WO hcl];refine #[xq,hH,by rw [List.length_map]; unfold ZL; rw [List.length_map,List.length_take]; lia,CNx.mk hci #[zA hs hD,zb,?_]];unfold ZL;rw [zR hc,List.map_append,List.map_append];rfl
 ·rintro acc H' ⟨hs,hH,rfl⟩;rw [List.take_length]at hH;exact h D H' (s1.trans hs) hH
theorem Vd {k:Nat} {l:()} {b:Bool} {LA:Hp -> Prop} {Qf:List V -> Hp -> Prop} (hk:(if b = true then 1 else 0) = k) (hl:l.length <= 26) (hLA:∀ H H',LA H -> Same H H' -> LA H'):∀ (bs:List Ent) (acc:List V) (ks:List (List Int)) (H:Hp),LA H -> (∀ e ∈ bs,e.1.length <= 60 /\ ∀ c ∈ e.1,c ∈ l) -> Iss K H (ks.map fun a=>.lst (a.map L3.D.int)) acc ->
  (∀ acc' H',Same H H' -> Iss K H' ((ks ++ bs.map fun e=>z7 k l e.1).map fun a=>.lst (a.map L3.D.int)) acc' -> Qf acc' H') -> yo (fun x H Q=>LA H /\ tbD K [some x,~~~l,some (.bl b)] H Q) (bs.map fun e=>V.str (tx e.1)) acc H Qf
 | [],acc,ks,H,hL,hr,hI,h=>h acc H (Same.refl _) (by simpa using hI)
 | e :: bs,acc,ks,H,hL,hr,hI,h=>by
  obtain ⟨r1,r2⟩:=hr e List.mem_cons_self;refine #[hL,Qb hl r1 r2 fun D H' s' hD=>?_];rw [hk]at hD;refine Vd hk hl hLA bs (acc ++ [.ref D]) (ks ++ [z7 k l e.1]) H' (hLA _ _ hL s') (fun x hx=>hr x (List.mem_cons_of_mem _ hx)) ?_ fun acc' H'' s'' hI'=>h acc' H'' (s'.trans s'') (by simpa using hI');rw [List.map_append];refine v0 (Iss.same s' _ _ hI) ?_;simp only [Is];exact #[D,_,rfl,SqL.of hD,Iss.ints _]
def W3 (K:PySem.W.Frag) (TB2:Addr):Sp:=fun vs H Q _=>∃ (a:Addr) (l:()) (b:Bool) (es:List Ent),vs = [.ref a,.str (tx l),.bl b] /\ EnsL K H a es /\ es.length <= 20 /\ kO l = true /\ (∀ e ∈ es,DuE l e) /\ TabOk H TB2 lp2 lq2 /\ ∀ (D:Addr) (H':Hp) (ds:List Ent),SamT TB2 H H' -> qL TB2 lp2 H H' -> EnsL K H' D ds -> ds.Perm (uq [] (zY (if b = true then 1 else 0) l [] es)) -> (ds.Pairwise fun x y=>ltI (z7 (if b = true then 1 else 0) l y.1) (z7 (if b = true then 1 else 0) l x.1) = false) -> Q (.ref D) H'
theorem sc_due:sQz 3 ["_law_entries_here", "_law_letters_here", "_law_right", "_law_due_here", "_law_entry", "_law_lefts"] uK:=by nofun
theorem QM {f CC TB2:Addr} {fd:FuncData} (B:Bt mg) (hsorted:Z6 mg) (hCd:PySem.W.CodeHd base CC TB2) (hBt:base.BuiltinsAt mg TB2) (hgT:mainGlobals ≠ TB2) (F:("_law_due"^^^uK)) (HC:fd.code = .ref CC) (D_seen:(1<<<"_law_seen") ["_law_right", "_law_word_here"] [] vR):(6&&&["_law_entries_here", "_law_letters_here", "_law_right"]) (W3 K TB2):=by
 refine YA F HC sc_due (fun vs H Q E h=>?_) (fun A outer s H vs Q E hr h=>?_)
 ·obtain ⟨a,l,b,es,rfl,_⟩:=h;rfl
 ·obtain ⟨a,l,b,es,rfl,hA,hel,hg,hE,hTab,q⟩:=h
  refine #[_,(zj (WM (i:=3) sc_due.nd rfl (Or.inr rfl) Zs)
   (zj (yH PassesOwn.never rfl (yi (pv 0)) (zF (i:=4) sc_due.nd rfl (.inl rfl))
    (zj (yb (zK Wc (zH B.len (zp ix_tup (pv 4) zd)) (zH B.len (zp ix_tup (pv 4) zd)) (zP _))
     (zf (yQ (Ya PySem.F.slot_dict_setdefault PySem.F.type_dict_setdefault Zp (pv 3) (za (zp ix_tup (pv 4) zd) (za (pv 4) zc)))))
     zu)
    (zf (yb (zK V7 (zH B.len (zp ix_tup (pv 4) zd)) (zH B.len (zp ix_tup (pv 4) zd)) (zP _))
     (zf (yQ (Ya PySem.F.slot_dict_setdefault PySem.F.type_dict_setdefault Zp (pv 3) (za (zp ix_tup (pv 4) zd) (za (z5 (za (zp ix_tup (pv 4) zd) (za (zp ix_tup (pv 4) zd) (za (wk (za (z5 (za (zp ix_tup (zp ix_list (zp ix_tup (pv 4) zd) zd) zd) (za zd (za xm zc)))) zc)) zc)))) zc)))))
     zu))))
   (zj (zw 5 sc_due.nd (ZC (k:=2) (p:="_law_word_here") (ys:=["_law_letters_here", "_law_right"]) (ixs:=[1,2]) (cl:=[("_law_right",s⁻¹ + 1 + 1),("_law_letters_here",s⁻¹ + 1)]) (tb:=tbD K) ltI_w #[rfl,rfl,rfl,∅,rfl,∅,∅] (hr.mono ∅) rfl hsorted PyProof.Rows.boot_sorted (za (qm (qj rfl) rfl B.list PySem.Pv.boot_list (za (pv 3) zc)) zc) rfl hCd hBt hgT rfl rfl (by intro _ _ _ _; exact rfl) #[rfl,(fun j y h=>by match j,h with | 0,h=>cases h; exact #[_,_,rfl,rfl,rfl,rfl,rfl] | 1,h=>cases h; exact #[_,_,rfl,rfl,rfl,rfl,rfl] | j + 2,h=>simp at h),fun z d h=>Uy h] (fun s H f cv hr'=>Uj (own:=["_law_sign"]) (caps:=["_law_letters_here"]) (ix:=[1]) (tt:=ve) (te:=tBM K "str" Zg (yf 1) (zM (yf 0) xu)) rfl (kZ (sc:=JT ((zO uK).getD 2 (.Pass #[0,0,0,0]))) rfl (by symm) (by symm) (by symm) rfl (by symm) (by symm) rfl) (Zj (cl0 (j:=2) D_seen hr' .nil rfl (za (pv 2) (za (pv 0) zc)))) (fun _ _ _ _ _ _=>zF (i:=0) (show List.Nodup [_,_] by decide) rfl (.inl rfl)) (fun _ _ _ _ _ _=>yT) (fun _ _ _ _ _ _=>wW PySem.F.plainAttrs_str PySem.F.slot_str_find PySem.F.type_str_find Qc (pv 1) (za (pv 0) zc)))))
   (zf (zo (wg (own:=["_law_left"]) (caps:=["_law_due_here"]) (ix:=[3]) (tt:=ve) (te:=(tOp (Q4 P w) (yf 1) (yf 0))) rfl (z9 (sc:=ze uK) rfl (by symm) (by symm) (by symm) rfl (by symm) (by symm) rfl) (yi (pv 5)) (fun _ _ _ _ _ _=>zF (i:=0) (show List.Nodup [_,_] by decide) rfl (.inl rfl)) (fun _ _ _ _ _ _=>yT) (fun _ _ _ _ _ _=>(zp V4 (pv 1) (pv 0))))))))),?_]
  have s16:=yt;obtain ⟨xs,hX,hI⟩:=id hA;have hxl:=hI.len;obtain ⟨l1,l6,lsm,lnd⟩:=of_decide_eq_true hg;generalize hk:(if b = true then 1 else 0) = k at q;have hk2:k ≠ 2:=by rw [<- hk]; split <;> decide
  refine zl (fun σ H'=>∃ p,H p = none /\ DuS K P w H a p l b [] none σ H') ?_ ?_
  ·rfl'
   exact fun p ep hp=>#[p,hp,#[zg hp,[],ep,zb,by simp only [EnsA]],rfl]
  rintro σ H1 ⟨p,hp,hI1,rfl⟩:_;right;refine zl (DuL K P w H a p l b (uq [] (zY k l [] es))) ?_ ?_
  ·rfl'
   refine #[#[_,hI1.1.seq hX],ForL.by (xs:=xs) (fun i σ H'=>DuL K P w H a p l b (uq [] (zY k l [] (es.take i))) σ H') #[none,hI1,rfl] (fun i σ H' _ ⟨_,h,_⟩=>h.1.seq hX) ?_ ?_]
   ·refine nm4 ?_;rintro i x σ H2 hx ⟨v4,hD,rfl⟩:_;obtain ⟨e,pe,se,hei,rfl,hqe,hse⟩:=hI.get hx;have hEe:=hE e (List.mem_of_getElem? hei);have htk:zY k l [] (es.take (i + 1)) = zY k l [] (es.take i) ++ zY k l [] [e]:=by rw [zR hei,Z2]
    right;simp only [yW,List.set_cons_succ,List.set_cons_zero];have hq2:=zm hD.1 hqe;have he60:=hEe.a;have he61:=hEe.b;refine zl (DuS K P w H a p l b (if e.2.1.length < e.1.length then uq [] (zY k l [] (es.take (i + 1)))else uq [] (zY k l [] (es.take i))) (some (.ref pe))) ?_ ?_
    ·rfl'
     refine #[_,hq2,_,rfl,_,#[by rw [zL]; lia,rfl],_,hq2,_,rfl,_,#[by rw [zL]; lia,rfl],?_];rw [zL,zL];obtain ⟨s2,vs,ep,hP2,hV⟩:=id hD;have hvl:=hV.len;have hub:=(xp (bs:=[]) (es:=zY k l [] (es.take i))).length_le;have hrb:=xX k l [] (es.take i);rw [List.nil_append]at hub;rw [List.length_take]at hrb;refine xC (fun h=>?_) fun h=>#[by rw [if_neg ⋯]; exact hD,rfl];have hlt:e.2.1.length < e.1.length:=⋯
     have hrn:uq [] (zY k l [] (es.take (i + 1))) = if e.1 ∈ (uq [] (zY k l [] (es.take i))).map (·.1)then uq [] (zY k l [] (es.take i))else uq [] (zY k l [] (es.take i)) ++ [e]:=by
      rw [htk,ja,if_neg fun z=>by rw [z]at hlt; lia,YO hk2 hlt,ux]
     unfold Js
     rfl'
     refine #[#[_,_,hP2],_,hq2,_,rfl,p,_,_,_,_,rfl,rfl,hP2,by unfold kvE; rw [List.length_map,List.length_zip]; lia,fun y hy=>?_,fun hno ep'=>?_]
     ·refine #[?_,rfl];rw [if_pos hlt,hrn,if_pos (jP hy)];exact hD
     ·refine #[?_,rfl];rw [if_pos hlt,hrn,if_neg (vK hvl hno)];exact DuI.put s2 hp hV (EnA.same #[pe,se,rfl,hqe,hse] (w8 hp s2))
    rintro σ H3 ⟨hD3,rfl⟩:_;have hq3:=zm hD3.1 hqe;right
    rfl'
    refine #[_,hq3,_,rfl,_,#[by rw [zL]; lia,rfl],_,hq3,_,rfl,_,#[by rw [zL]; lia,rfl],?_];rw [zL,zL];obtain ⟨s2,vs,ep,hP2,hV⟩:=id hD3;have hvl:=hV.len;refine xC (fun h=>?_) fun h=>#[_,?_,rfl]
    ·have hlt:e.1.length < e.2.1.length:=⋯;rw [if_neg ⋯]at hD3 hV hvl hP2;obtain ⟨n,hn⟩:=hEe.one ⋯;have hub:=(xp (bs:=[]) (es:=zY k l [] (es.take i))).length_le;have hrb:=xX k l [] (es.take i);rw [List.nil_append]at hub;rw [List.length_take]at hrb
     have hrn:uq [] (zY k l [] (es.take (i + 1))) = if e.2.1 ∈ (uq [] (zY k l [] (es.take i))).map (·.1)then uq [] (zY k l [] (es.take i))else uq [] (zY k l [] (es.take i)) ++ [(e.2.1,e.1,[(n,0,false)])]:=by
      rw [htk,ja,if_neg fun z=>by rw [z]at hlt; lia,Z7 hk2 hlt,ux,hn];rfl
     obtain ⟨zs,hZ,hZi⟩:=hse.same hD3.1;rw [hn]at hZi;simp only [List.map_cons,List.map_nil,Iss,dSt,Is]at hZi;obtain ⟨_,_,rfl,⟨t0,us,rfl,ht0,_,_,rfl,rfl,_,_,rfl,rfl,_,_,rfl,rfl,rfl⟩,rfl⟩:=hZi;unfold Js
     rfl'
     refine #[#[_,_,hP2],_,hq3,_,rfl,_,hq3,_,rfl,_,hq3,_,rfl,?_];refine #[_,hq3,_,rfl,se,rfl,_,SqL.of hZ,_,rfl,t0,rfl,_,ht0,_,rfl,⋯,fun t ht=>#[⋯,fun s' hs'=>#[⋯,fun q' hq'=>?_]]];have u1:=zg (o:=HO.tup [.int n,.int 0,.bl false]) ht;have u2:=zg (o:=HO.lst [.ref t]) hs';have u3:=zg (o:=HO.tup [.str (tx e.2.1),.str (tx e.1),.ref s']) hq';have u13:=u1.trans (u2.trans u3);have ne:∀ {H7:Hp} {b:Addr},Same H3 H7 -> H7 b = none -> b ≠ p:=fun sm hb z=>(by rw [z,sm _ _ hP2]at hb; cases hb);have hD4:=hD3.same u13;obtain ⟨s4,_⟩:=id hD4;have hV4:=hV.same (zJ u13)
     have hen:EnA K (hide p (upd (upd (upd H3 t (.tup [.int n,.int 0,.bl false])) s' (.lst [.ref t])) q' (.tup [.str (tx e.2.1),.str (tx e.1),.ref s']))) (e.2.1,e.1,[(n,0,false)]) (.ref q'):=by
      refine #[q',s',rfl,SqT.of (by rw [zt (ne (u1.trans u2) hq')]; exact zb),[.ref t],by rw [zt (ne u1 hs')]; exact u3 _ _ zb,?_];simp only [List.map_cons,List.map_nil,Iss,dSt,Is];exact #[_,_,rfl,#[t,_,rfl,SqT.of (by rw [zt (ne (Same.refl _) ht)]; exact (u2.trans u3) _ _ zb),_,_,rfl,rfl,_,_,rfl,rfl,_,_,rfl,rfl,rfl],rfl]
     refine #[p,_,_,_,_,rfl,rfl,u13 _ _ hP2,by unfold kvE; rw [List.length_map,List.length_zip]; lia,fun y hy=>#[_,?_,rfl],fun hno ep'=>#[_,?_,rfl]]
     ·rw [hrn,if_pos (jP hy)];exact hD4
     ·rw [hrn,if_neg (vK hvl hno)];exact DuI.put s4 hp hV4 hen
    ·by_cases hlt:e.2.1.length < e.1.length
     ·rw [if_pos hlt]at hD3;exact hD3
     ·rw [if_neg hlt]at hD3;rw [htk,ja,if_pos (hEe.eq ⋯),List.append_nil];exact hD3
   ·exact fun σ H' h=>by
     rw [hxl,List.take_length]at h;exact h
  rintro σ H2 ⟨v4,hD,rfl⟩:_;obtain ⟨s2,vs,ep,hP2,hV⟩:=id hD;have hvl:=hV.len;have hub:=(xp (bs:=[]) (es:=zY k l [] es)).length_le;have hrb:=xX k l [] es;rw [List.nil_append]at hub
  have hmb:∀ e ∈ uq [] (zY k l [] es),e.1.length <= 60 /\ ∀ c ∈ e.1,c ∈ l:=fun e he=>by
   have hm:=(xp (bs:=[])).mem he;rw [List.nil_append]at hm;unfold zY at hm;obtain ⟨y,hy,rfl⟩:=aa.mp hm;have hy':=hE y (al.mp hy).1;unfold zU;split
   ·exact #[hy'.a,hy'.ma]
   ·exact #[hy'.b,hy'.mb]
  have nb:(uq [] (zY k l [] es)).Pairwise fun a b=>a.1 ≠ b.1:=ky List.Pairwise.nil;right;generalize uq [] (zY k l [] es) = bs at *;have hT2:=hTab.same s2;obtain ⟨tp,htp,_⟩:=id hT2;refine zl (fun σ H'=>SamT TB2 H2 H' /\ qL TB2 lp2 H2 H' /\ ∃ J:Addr,H' J = some (.lst ((srt (fun x y:Ent=>ltI (z7 k l x.1) (z7 k l y.1)) ([],[],[]) bs).map fun e=>V.str (tx e.1))) /\ σ = [!!a,~~~l,some (.bl b),!!p,v4,!!J]) ?_ ?_
  ·rfl'
   unfold Z5
   rfl'
   refine #[p,_,_,rfl,hP2,by unfold kvE; rw [List.length_map,List.length_zip]; lia,fun J0 hJ0=>?_];have ek:=XS hvl;rw [ek];have uJ:=zg (o:=HO.lst (bs.map fun e=>V.str (tx e.1))) hJ0;refine #[hT2.same uJ,fun f Hf hf hLA hTf sT oT=>#[J0,rfl,bs.map (fun e=>V.str (tx e.1)),SqL.of (sT.at (uJ _ _ htp) zb fun _ z=>by cases z),by rw [List.length_map]; lia,?_,?_]]
   ·intro i hi;simp only [List.mem_cons,List.not_mem_nil,or_false]at hi;rcases hi with rfl | rfl <;> exact #[_,rfl]
   ·refine Vd hk ⋯ (fun A A' h1 h2=>LamAt.same h1 h2) bs [] [] Hf hLA hmb (by simp only [List.map_nil,Iss]) fun acc' H3 s3 hI3=>#[bs.map fun e=>z7 k l e.1,by simpa using hI3,fun ys e D hD=>?_];have W1:WkO fun (p q:List Int × V)=>ltI p.1 q.1:=#[fun a b=>ltI_w.asym _ _,fun a b c=>ltI_w.ntr _ _ _]
    have es':ys =(srt (fun x y:Ent=>ltI (z7 k l x.1) (z7 k l y.1)) ([],[],[]) bs).map fun e=>(z7 k l e.1,V.str (tx e.1)):=by
     rw [e,List.zip_map',jA (d':=(fun e:Ent=>(z7 k l e.1,V.str (tx e.1))) ([],[],[])) W1 fun _ _ _ _=>rfl];exact qX (lt:=fun (p q:List Int × V)=>ltI p.1 q.1) (fun e:Ent=>(z7 k l e.1,V.str (tx e.1))) ([],[],[]) bs
    subst es';rw [List.map_map];have sD:=zg (o:=HO.lst ((srt (fun x y:Ent=>ltI (z7 k l x.1) (z7 k l y.1)) ([],[],[]) bs).map fun e=>V.str (tx e.1))) hD;exact #[(SamT.of uJ).trans (sT.trans (SamT.of (s3.trans sD))),fun pos' q' h1 h2=>(oT pos' q' h1 (h2.same uJ)).same' (s3.trans sD),D,zb,rfl]
  rintro σ H3 ⟨sT,oT,J,hJ,rfl⟩:_;have W2:WkO fun (x y:Ent)=>ltI (z7 k l x.1) (z7 k l y.1):=#[fun a b=>ltI_w.asym _ _,fun a b c=>ltI_w.ntr _ _ _];obtain ⟨p1,p2⟩:=uT W2 ([],[],[]) bs;right;generalize srt (fun x y:Ent=>ltI (z7 k l x.1) (z7 k l y.1)) ([],[],[]) bs = ds at *;have hP3:=sT.at htp hP2 fun _ z=>by cases z
  have hat:=fun e (he:e ∈ ds)=>WX hV nb e (p1.mem_iff.mp he);have hdl:=p1.length_eq
  rfl'
  refine #[#[_,SqL.of hJ],fun D hD=>CompL.by (xs:=ds.map fun e=>V.str (tx e.1)) (fun i acc H'=>Same H3 H' /\ H' D = some (.lst acc) /\ EnsA K H2 (ds.take i) acc) #[zg hD,zb,by simp only [List.take_zero,EnsA]] (fun i acc H' _ h=>SqL.of (h.1 _ _ hJ)) ?_ ?_]
  ·refine nm4 ?_;rintro i x acc H' hx ⟨hs,hH,hAc⟩:_;have hi:=(ae.mp hx).1;rw [List.length_map]at hi;rw [List.getElem?_map,List.getElem?_eq_getElem hi]at hx;obtain rfl:=Option.some.inj hx;obtain ⟨v,hv,hen⟩:=hat _ (List.getElem_mem hi);have hal:=hAc.len;rw [List.length_take]at hal;right;simp only [ve]
   rfl'
   refine #[xq,p,_,_,_,v,rfl,rfl,hs _ _ hP3,hv,hH,⋯,CNx.mk (by rw [List.length_map]; exact hi) #[zA hs hD,zb,?_]];rw [zR (List.getElem?_eq_getElem hi)];exact EnsA.snoc (hen.same hide_same) hAc
  ·rintro acc H' ⟨hs,hH,hAc⟩;rw [List.length_map,List.take_length]at hAc;exact q D H' ds ((SamT.of s2).trans (sT.trans (SamT.of hs))) (fun pos' q' h1 h2=>(oT pos' q' h1 (h2.same s2)).same' hs) #[acc,SqL.of hH,(EnsA.samT sT htp hAc).same hs] p1 p2
def Q2 (K:PySem.W.Frag):List V -> Hp -> VK -> Prop:=fun xs H Q=>∃ p ys,xs = [.ref p] /\ (SqL K H p ys \/ SqT K H p ys) /\ ∀ l,H l = none -> Q (.ref l) (upd H l (.lst ys))
theorem TabOk.far {H H':Hp} {T T2:Addr} {pos:Pos} {q:Str} {qs:Array Value} (h:TabOk H T2 pos q) (s:SamT T H H') (hT:H T = some (.tbl qs)) (hne:T2 ≠ T):TabOk H' T2 pos q:=by
 obtain ⟨ps,h1,h2,h3⟩:=h;refine #[ps,s _ _ hne h1,h2,?_];rcases h3 with h3 | ⟨c',h4,h5⟩
 ·exact .inl h3
 ·exact .inr #[c',h4,s.at hT h5 fun _ z=>by cases z]
def MutE (Hc G:Hp) (D:Addr) (n:Nat) (xs:List V):Prop:=∀ v ∈ xs,∃ p s x y ys,v = .ref p /\ hide D G p = some (.tup [x,y,.ref s]) /\ hide D G s = some (.lst ys) /\ ys.length <= n /\ Hc s = none
theorem MutE.same {Hc G G':Hp} {D:Addr} {n:Nat} {xs:List V} (h:MutE Hc G D n xs) (s:Same G G'):MutE Hc G' D n xs:=fun v hv=>by
 obtain ⟨p,t,x,y,ys,e,h1,h2,h3⟩:=h v hv;exact #[p,t,x,y,ys,e,zJ s _ _ h1,zJ s _ _ h2,h3]
theorem MutE.put {Hc G:Hp} {D t:Addr} {n:Nat} {xs zs:List V} (h:MutE Hc G D n xs) (ht:hide D G t = some (.lst zs)) (hz:zs.length <= n) (v:V):MutE Hc (upd G t (.lst (zs ++ [v]))) D (n + 1) xs:=fun w hw=>by
 have htD:t ≠ D:=fun z=>by rw [z,zQ]at ht; cases ht
 obtain ⟨p,s,x,y,ys,e,h1,h2,h3,h4⟩:=h w hw;have hpD:p ≠ D:=fun z=>by rw [z,zQ]at h1; cases h1
 have hpt:p ≠ t:=fun z=>by rw [z,ht]at h1; cases h1
 have hsD:s ≠ D:=fun z=>by rw [z,zQ]at h2; cases h2
 rw [zt hpD]at h1;rw [zt hsD]at h2;by_cases hst:s = t
 ·refine #[p,s,x,y,zs ++ [v],e,?_,?_,?_,h4]
  ·rw [zt hpD,zk hpt];exact h1
  ·rw [zt hsD,hst,zb]
  ·rw [List.length_append];simp only [List.length_cons,List.length_nil];lia
 ·refine #[p,s,x,y,ys,e,?_,?_,⋯,h4]
  ·rw [zt hpD,zk hpt];exact h1
  ·rw [zt hsD,zk hst];exact h2
theorem Yk (es:List Ent):xv (es.map dE) < 50:=Nat.lt_of_le_of_lt (m:=3) (uz fun d h=>by
 obtain ⟨e,_,rfl⟩:=aa.mp h;have:=VB e.2.2;simp only [dE,dS,dpD,xv]
 lia) ∅
theorem EnsA.hideT {T:Addr} {H:Hp} {es:List Ent} {vs:List V} (hT:H T = none \/ ∃ ps,H T = some (.tbl ps)) (h:EnsA K H es vs):EnsA K (hide T H) es vs:=by
 rcases hT with hT | ⟨ps,hT⟩
 ·exact h.same (w8 hT (Same.refl _))
 ·exact EnsA.samT (T:=T) (fun b o hb e=>by rw [zt hb]; exact e) hT h
theorem EnsM.hideT {T:Addr} {H:Hp} {a:Addr} {es:List Ent} (hT:H T = none \/ ∃ ps,H T = some (.tbl ps)) (h:EnsM K H a es):EnsM K (hide T H) a es:=by
 obtain ⟨xs,h1,h2⟩:=h;refine #[xs,?_,h2.hideT hT];rw [zt fun z=>?_]
 ·exact h1
 ·rcases hT with hT | ⟨ps,hT⟩
  ·rw [z,hT]at h1; cases h1
  ·rw [z,hT]at h1; cases h1
theorem SamT.hide {T:Addr} {H H':Hp} (s:SamT T H H'):Same (hide T H) H':=fun b o e=>by
 by_cases hb:b = T
 ·rw [hb,zQ]at e; cases e
 ·rw [zt hb]at e;exact s b o hb e
theorem VF {k:Nat} {l:()} {ns:List Int} {u v:()} (hk:k ≠ 2):ye k l ns u v = ye k l [] u v:=by
 unfold ye zx;rw [if_neg hk,if_neg hk,if_neg hk,if_neg hk]
theorem Qe {k:Nat} {l:()} {ns:List Int} {es:List Ent} (hk:k ≠ 2):zY k l ns es = zY k l [] es:=by
 unfold zY;refine List.map_congr_left fun e _=>?_;unfold zU;rw [VF hk]
theorem kP {ls:()} {m:Nat} {rs:List zE} (h:DrawnP ls m rs) {u v v':()} (h1:(u,v) ∈ rs) (h2:(u,v') ∈ rs):v = v':=by
 have hn:=h.1;clear h
 induction rs with
 | nil=>cases h1
 | cons c rs ih =>
  rw [List.map_cons,List.nodup_cons]at hn;rcases ac.mp h1 with e1 | h1'
  ·rcases ac.mp h2 with e2 | h2'
   ·rw [<- e1]at e2;exact (Prod.mk.inj e2).2.symm
   ·exact absurd (aa.mpr #[_,h2',by rw [<- e1]]) hn.1
  ·rcases ac.mp h2 with e2 | h2'
   ·exact absurd (aa.mpr #[_,h1',by rw [<- e2]]) hn.1
   ·exact ih h1' h2' hn.2
theorem xV {k m:Nat} {l:()} {ns:List Int} {rs:List zE} {es:List Ent} (hk:k ≠ 2) (hD:DrawnP l m rs) (h:∀ e ∈ es,EntD l m rs e):∀ e ∈ zY k l ns es,(e.1,e.2.1) ∈ rs /\ e.2.2.length = 1 /\ ye k l ns e.2.1 e.1 = true:=fun e he=>by
 unfold zY at he;obtain ⟨y,hy,rfl⟩:=aa.mp he;obtain ⟨hy1,hy2⟩:=al.mp hy;have hne:y.1 ≠ y.2.1:=by simpa using hy2
 rcases h y hy1 with ⟨n,h1,h2 | h2⟩ | ⟨_,h2,_⟩
 ·have g:=hD.2 _ h2;have hl:y.2.1.length < y.1.length:=by have:=g.1; have:=g.2.1; simp only at *; lia
  rw [YO hk hl];exact #[h2,by rw [h1]; rfl,(wv hk hl).1]
 ·have g:=hD.2 _ h2;have hl:y.1.length < y.2.1.length:=by have:=g.1; have:=g.2.1; simp only at *; lia
  rw [Z7 hk hl];exact #[h2,by rw [h1]; rfl,(wv hk hl).1]
 ·exact absurd h2 hne
theorem jZ {m:Nat} {l:()} {rs:List zE} {e:Ent} (hm:m <= 50) (hD:DrawnP l m rs) (h:EntD l m rs e):EB l e /\ DuE l e:=by
 rcases h with ⟨n,h1,h2 | h2⟩ | ⟨h1,h2,h3,h4⟩
 ·obtain ⟨g1,g2,g3,g4⟩:=hD.2 _ h2;simp only at g1 g2 g3 g4;exact #[#[⋯,⋯,by rw [h1]; simp,g3,g4],#[⋯,⋯,g3,g4,fun z=>by lia,fun _=>#[n,h1]]]
 ·obtain ⟨g1,g2,g3,g4⟩:=hD.2 _ h2;simp only at g1 g2 g3 g4;exact #[#[⋯,⋯,by rw [h1]; simp,g4,g3],#[⋯,⋯,g4,g3,fun z=>by lia,fun _=>#[n,h1]]]
 ·exact #[#[⋯,by rw [<- h2]; lia,by rw [h1]; decide,h4,by rw [<- h2]; exact h4],#[⋯,by rw [<- h2]; lia,h4,by rw [<- h2]; exact h4,fun _=>h2,fun z=>absurd (by rw [h2]) z]]
theorem Xc {k m:Nat} {l:()} {ns:List Int} {rs:List zE} {es:List Ent} (hk:k ≠ 2) (hm:m <= 50) (hD:DrawnP l m rs) (h:∀ e ∈ es,EntD l m rs e):(∀ e ∈ zY k l ns es,TLe k l ns m e /\ EB l e) /\ UW (zY k l ns es):=by
 refine #[fun e he=>?_,fun a ha b hb z=>?_]
 ·obtain ⟨h1,h2,h3⟩:=xV hk hD h e he;obtain ⟨g1,g2,g3,g4⟩:=hD.2 _ h1;simp only at g1 g2 g3 g4;exact #[#[g1,g2,h3,fun f=>by unfold ku at f; lia,g3],#[⋯,⋯,⋯,g3,g4]]
 ·have ga:=(xV hk hD h a ha).1;have gb:=(xV hk hD h b hb).1;rw [z]at ga;exact kP hD ga gb
def Lw (K:PySem.W.Frag) (l:()) (D:Addr) (H':Hp):Prop:=∃ (es:List Ent) (m:Nat) (rs:List zE),m <= 50 /\ EnsM K H' D es /\ es.length <= 9 /\ DrawnP l m rs /\ ∀ e ∈ es,EntD l m rs e
def Al1 (es:List Ent):Prop:=∀ e ∈ es,e.2.2.length = 1
def jV (K:PySem.W.Frag) (T T2:Addr):Sp:=fun vs H Q _=>∃ (a:Addr) (ns:List Int),vs = [.ref a] /\ SqL K H a (ns.map V.int) /\ (∀ z ∈ ns,wM z) /\ H T = some (.tbl #[]) /\ H T2 = some (.tbl #[]) /\ ∀ H',Q (.bl true) H'
theorem sc_law:sQz 1 ["_law_script", "_law_first", "_law_letters_here", "_law_right", "_law_order", "_law_entries_here", "_law_handed", "_law_found", "_law_entry"] vm:=by nofun
theorem QN {f CO CR CW TB TB2 CF:Addr} {fd:FuncData} (B:Bt mg) (T:TWS P w K mg base CO CR CW) (F:("law"^^^vm)) (D_cell:(1<<<"_law_cell") ["_law_script", "_law_k"] [] (uF K)) (D_letters:(2<<<"_law_letters") ["_law_cell_here", "_law_many"] [] we) (D_list:(2<<<"_law_list") ["_law_script", "_law_letters_here", "_law_size"] [] (Zt K)) (D_thinned:(7>>>"thinned") ["order", "entries"] [] (Yb K CO CR CW TB CF)) (D_due:(6<<<"_law_due") ["_law_entries_here", "_law_letters_here", "_law_right"] [] (W3 K TB2)) (D_entries:(3<<<"_law_entries") ["_law_found"] [] (YD K)):(8&&&["_law_script"]) (jV K TB TB2):=by
 refine F.ok sc_law (fun vs H Q E h=>?_) (fun cdv A outer s H vs Q E hr h=>?_)
 ·obtain ⟨a,ns,rfl,_⟩:=h;rfl
 ·obtain ⟨a,ns,rfl,hS,hB,ht1,ht2,q⟩:=h
  refine #[_,(zj (zw 1 sc_law.nd (cl0 D_cell hr .nil rfl (za (pv 0) (za zd zc))))
   (zj (zw 2 sc_law.nd (cl0 D_letters hr .nil rfl (za (pv 1) (za (zr z8 zd (zr yG (pv 1) zd)) zc))))
   (zj (zw 3 sc_law.nd (vJ Yn (zr yG (zr yN (pv 1) zd) zd) zd (zP _)))
   (zj (zw 4 sc_law.nd (mkC T.mO hr rfl T.gO (za (pv 2) zc)))
   (zj (yb (xA (pv 3) (fun _=>rfl))
    (zf (zw 4 sc_law.nd (mkC T.mR hr rfl T.gR (za (pv 2) zc))))
    zu)
   (zj (zw 5 sc_law.nd (cl0 D_list hr .nil rfl (za (pv 0) (za (pv 2) (za (zr z8 zd (zr yG (zr yN (pv 1) zd) zd)) zc)))))
   (zj (ZX (i:=6) sc_law.nd rfl (.inl rfl) (.inl rfl) (own:=["_law_entry"]) (caps:=[]) (ix:=[]) (tt:=ve) (te:=(Xt (zM (tOp (vj K) (yf 0) (tC (.int 0))) (zM (tOp (vj K) (yf 0) (tC (.int 1))) (zM (tCB (Q2 K) (zM (tOp (vj K) (yf 0) (tC (.int 2))) xu)) xu))))) rfl (z9 (sc:=ze vm) rfl (by symm) (by symm) (by symm) rfl (by symm) (by symm) rfl) (yi (pv 5)) (fun _ _ _ _ _ _=>zF (i:=0) (show List.Nodup [_] by decide) rfl (.inl rfl)) (fun _ _ _ _ _ _=>yT) (fun _ _ _ _ _ _=>(z5 (za (zp ix_tup (pv 0) zd) (za (zp ix_tup (pv 0) zd) (za (qm qt rfl B.list PySem.Pv.boot_list (za (zp ix_tup (pv 0) zd) zc)) zc))))))
   (zj (zw 7 sc_law.nd (clP xe0 D_thinned hr .nil rfl (za (pv 4) (za (pv 6) zc))))
   (zj (yb (PW.pt (ju (yn (xA (cl0 D_entries hr .nil rfl (za (pv 7) zc)) (fun _=>rfl))) (qE (zK (Wu (wF hr)) (pv 6) (pv 5) (zP _)))))
    (zf (zo xm))
    zu)
   (zj (yb (zK (Wu (wF hr)) (pv 7) (cl0 D_due hr .nil rfl (za (pv 5) (za (pv 2) (za (pv 3) zc)))) (zP _))
    (zf (zo xm))
    zu)
   (zj (yH PassesOwn.never rfl (yi (pv 7)) (zF (i:=8) sc_law.nd rfl (.inl rfl))
    (zf (yQ (wW PySem.F.plainAttrs_list PySem.F.slot_list_append PySem.F.type_list_append xg (zp ix_tup (pv 8) zd) (za (z5 (za zd (za zd (za xm zc)))) zc)))))
   (zf (zo (vJ (W5 (wF hr)) (pv 6) (pv 5) (zP _))))))))))))))),?_]
  have s16:=yt;have s16:=yt;have hTab:TabOk H TB lp lq:=#[#[],ht1,trivial,.inl rfl];have hTab2:TabOk H TB2 lp2 lq2:=#[#[],ht2,trivial,.inl rfl];refine zl (fun σ H'=>H' = H /\ ∃ n:Int,wM n /\ σ = [!!a,~~~!n,none,none,none,none,none,none,none]) ?_ ?_
  ·rfl'
   exact xk hS hB ∅ fun c hc=>#[rfl,c,hc,rfl]
  rintro σ H0 ⟨rfl,n,hn,rfl⟩:_;right;refine zl (fun σ H'=>H' = H0 /\ ∃ l:(),kO l = true /\ l.length <= 3 /\ σ = [!!a,~~~!n,~~~l,none,none,none,none,none,none]) ?_ ?_
  ·rfl'
   have e0:=Int.emod_nonneg n (b:=2) ∅;have e1:=Int.emod_lt_of_pos n (b:=2) ∅;exact #[∅,qO hn ⋯ ⋯ fun l hl hnd hs=>#[rfl,l,decide_eq_true #[⋯,⋯,hs,hnd],⋯,rfl]]
  rintro σ H1 ⟨rfl,l,hg,l3,rfl⟩:_;obtain ⟨l1,l6,lsm,lnd⟩:=of_decide_eq_true hg;right;refine zl (fun σ H'=>H' = H1 /\ ∃ b:Bool,σ = [!!a,~~~!n,~~~l,some (.bl b),none,none,none,none,none]) ?_ ?_
  ·rfl'
   exact #[#[∅,∅],∅]
  rintro σ H1 ⟨rfl,b,rfl⟩:_
  have mk:∀ {C x dx:Addr} {H:Hp},H x = none -> H dx = none -> Same H (upd (upd (upd H dx (.own x)) x (.ins C dx [])) x (.ins C dx [("letters",.str (tx l))])):=fun {C x dx H} hx hdx b o' e=>by
   rw [zk (zv e hx),zk (zv e hx)];exact zg hdx _ _ e
  right;refine zl (fun σ H'=>Same H1 H' /\ ∃ o:Addr,OrdAt CO CR CW H' o 0 l (l.map fun _=>1) /\ σ = [!!a,~~~!n,~~~l,some (.bl b),!!o,none,none,none,none]) ?_ ?_
  ·rfl'
   intro x dx hx hdx hne;exact #[x,CO,dx,l,rfl,hg,T.cO,T.lO,zb,rfl,mk hx hdx,dx,.inl #[rfl,zb]]
  rintro σ H2 ⟨s2,o0,ho0,rfl⟩:_;obtain ⟨k,hk⟩:∃ k:Nat,(if b = true then 1 else 0) = k:=#[_,rfl];right;refine zl (fun σ H'=>Same H1 H' /\ ∃ (o:Addr),OrdAt CO CR CW H' o k l (l.map fun _=>1) /\ σ = [!!a,~~~!n,~~~l,some (.bl b),!!o,none,none,none,none]) ?_ ?_
  ·rfl'
   refine xC (fun hb=>?_) fun hb=>#[s2,by rw [<- hk,if_neg hb]; exact ho0];intro x dx hx hdx hne;exact #[x,CR,dx,l,rfl,hg,T.cR,T.lR,zb,rfl,s2.trans (mk hx hdx),by rw [<- hk,if_pos hb]; exact #[dx,.inr #[rfl,zb]]]
  rintro σ H3 ⟨s3,o,ho,rfl⟩:_;have k2:k ≠ 2:=by rw [<- hk]; split <;> decide
  have hG:OG l (l.map fun _=>1) k:=#[hg,by rw [<- hk]; split <;> decide,List.length_map _,fun x hx=>by obtain ⟨_,_,rfl⟩:=aa.mp hx; decide];right;generalize (l.map fun _=>(1:Int)) = ws at ho hG;have hS3:=s3.seq hS;refine zl (fun σ H'=>Same H3 H' /\ ∃ D:Addr,Lw K l D H' /\ σ = [!!a,~~~!n,~~~l,some (.bl b),!!o,!!D,none,none,none]) ?_ ?_
  ·rfl'
   have e0:=Int.emod_nonneg (n / 4) (b:=2) ∅;have e1:=Int.emod_lt_of_pos (n / 4) (b:=2) ∅;rw [show 2 + n / 4 % 2 =((2 + n / 4 % 2).toNat:Int) by lia];refine #[#[∅,∅],∅,a,ns,l,_,rfl,hS3,hB,⋯,⋯,⋯,⋯,fun D H' rs es s' hL h9 hD hd=>#[s',D,#[es,_,rs,⋯,hL,h9,hD,hd],rfl]]
  rintro σ H4 ⟨s4,D,⟨es,m,rs,hm,hEn,h9,hDr,hEd⟩,rfl⟩:_;obtain ⟨xs,hX,hEx⟩:=id hEn;have hxl:=hEx.len;right;refine zl (fun σ H'=>Same H4 H' /\ ∃ J:Addr,EnsM K H' J es /\ σ = [!!a,~~~!n,~~~l,some (.bl b),!!o,!!D,!!J,none,none]) ?_ ?_
  ·rfl'
   refine #[#[_,SqL.of hX],fun J hJ=>CompL.by (xs:=xs) (fun i acc H'=>Same H4 H' /\ H' J = some (.lst acc) /\ EnsA K (hide J H') (es.take i) acc) #[zg hJ,zb,by simp only [List.take_zero,EnsA]] (fun i acc H' _ h=>SqL.of (h.1 _ _ hX)) ?_ ?_]
   ·refine nm4 ?_;rintro i x acc H' hx ⟨hs,hH,hAc⟩:_;have hi:=(ae.mp hx).1;obtain ⟨e,pe,se,hei,rfl,hqe,hse⟩:=hEx.get hx;have hal:=hAc.len;rw [List.length_take]at hal;have hq2:=zm hs hqe;obtain ⟨zs,hZ,hZi⟩:=hse.same hs;right;simp only [ve]
    rfl'
    refine #[xq,_,hq2,_,rfl,_,hq2,_,rfl,_,hq2,_,rfl,se,zs,rfl,.inl (SqL.of hZ),fun t ht=>#[⋯,fun p hp=>?_]];have u1:=zg (o:=HO.lst zs) ht;have u2:=zg (o:=HO.tup [.str (tx e.1),.str (tx e.2.1),.ref t]) hp;refine #[(u1.trans u2) _ _ hH,⋯,CNx.mk hi #[zA (hs.trans (u1.trans u2)) hJ,zb,?_]];rw [zR hei];exact ((hAc.same (zJ (u1.trans u2))).snoc (EnA.new ((u1.trans u2) _ _ hH) zb #[zs,u2 _ _ zb,Iss.same (u1.trans u2) _ _ hZi] fun z=>by rw [z,hH]at ht; cases ht)).same yS
   ·rintro acc H' ⟨hs,hH,hAc⟩;rw [hxl,List.take_length]at hAc;exact #[hs,J,#[acc,hH,hAc.same hide_same],rfl]
  rintro σ H5 ⟨s5,J,hEJ,rfl⟩:_;have s35:=s3.trans (s4.trans s5);have hT5:=hTab.same s35;have hT25:=hTab2.same s35;obtain ⟨tp,htp,_⟩:=id hT5;obtain ⟨tp2,htp2,_⟩:=id hT25;have htl:=Xc (ns:=ws) k2 hm hDr hEd;right;refine zl (fun σ H'=>SamT TB H5 H' /\ qL TB lp H5 H' /\ BG k l ws (uq [] (L3.srt (yD k l ws) ([],[],[]) (zY k l ws es))) /\ ∃ F:Addr,EnsN K H5 H' F (uq [] (L3.srt (yD k l ws) ([],[],[]) (zY k l ws es))) /\ σ = [!!a,~~~!n,~~~l,some (.bl b),!!o,!!D,!!J,!!F,none]) ?_ ?_
  ·rfl'
   refine #[o,J,k,l,ws,es,rfl,ho.same (s4.trans s5),hG,hEJ.l,⋯,fun e he=>(jZ hm hDr (hEd e he)).1,hT5,fun bs F H' hT hBG sT oT _ hN=>?_,fun hT=>?_]
   ·have:=Option.some.inj (Yw (n:=18) hT (fun e he=>(htl.1 e he).1) htl.2);subst this;exact #[sT,oT,hBG,F,hN,rfl]
   ·cases Yw (n:=18) hT (fun e he=>(htl.1 e he).1) htl.2
  rintro σ H6 ⟨sT,oT,hBG,F,hN,rfl⟩:_;have sh6:Same (hide TB2 (hide TB H5)) H6:=hide_same.trans (SamT.hide sT)
  have hT26:TabOk H6 TB2 lp2 lq2:=by
   by_cases hTT:TB = TB2
   ·rw [<- hTT]at hT25 ⊢;exact oT _ _ (by symm) hT25
   ·exact TabOk.far hT25 sT htp fun z=>hTT z.symm
  have hpt:(hide TB H5) TB2 = none \/ ∃ ps,(hide TB H5) TB2 = some (.tbl ps):=by
   by_cases hTT:TB2 = TB
   ·rw [hTT];exact .inl zQ
   ·rw [zt hTT];exact .inr #[_,htp2]
  have hJh:EnsM K (hide TB2 (hide TB H5)) J es:=(hEJ.hideT (.inr #[_,htp])).hideT hpt;have hDh:EnsM K (hide TB2 (hide TB H5)) D es:=((hEn.same s5).hideT (.inr #[_,htp])).hideT hpt;right;refine zl (fun σ H'=>H' = H6 /\ σ = [!!a,~~~!n,~~~l,some (.bl b),!!o,!!D,!!J,!!F,none]) ?_ ?_
  ·rfl'
   exact #[F,_,rfl,hN.m.l.is,true,rfl,xC (fun e=>by cases e) fun _=>Ym (.inl #[(hJh.same sh6).l.is,(hDh.same sh6).l.is]) (Yk _) #[_,rfl,xC (fun e=>by rw [yF]at e; cases e) fun _=>rfl]]
  rintro σ H6 ⟨rfl,rfl⟩:_;obtain ⟨tp6,htp6,_⟩:=id hT26;right;refine zl (fun σ H'=>SamT TB2 H6 H' /\ Al1 (uq [] (L3.srt (yD k l ws) ([],[],[]) (zY k l ws es))) /\ σ = [!!a,~~~!n,~~~l,some (.bl b),!!o,!!D,!!J,!!F,none]) ?_ ?_
  ·rfl'
   refine #[D,l,b,es,rfl,(hDh.same sh6).l,⋯,hg,fun e he=>(jZ hm hDr (hEd e he)).2,hT26,fun D2 H7 ds sT2 oT2 hDs hp hs=>?_];rw [hk]at hp hs;rw [<- Qe (ns:=ws) k2]at hp
   have hm1:∀ e ∈ ds,e ∈ zY k l ws es:=fun e he=>by
    have:=(xp (bs:=[])).mem (hp.mem_iff.mp he);rw [List.nil_append]at this;exact this
   have e1:=Qx htl.1 htl.2 hp (hs.imp_of_mem fun {x y} hx hy h=>by
    have hx':=(htl.1 x (hm1 x hx)).1.a;have hy':=(htl.1 y (hm1 y hy)).1.a;unfold ye zx;rw [if_neg k2,if_neg k2,if_pos (by rw [hx',hy'])]
    exact h)
   have hN7:=hN.samT sT2 htp6;rw [e1]at hN7 ⊢;exact Ym (.inl #[hN7.m.l.is,hDs.is]) (Yk _) #[_,rfl,xC (fun e=>by rw [yF]at e; cases e) fun _=>#[sT2,fun e he=>(xV k2 hDr hEd e (hm1 e he)).2.1]]
  rintro σ H7 ⟨sT2,hbl,rfl⟩:_;have sh7:Same (hide TB2 (hide TB H5)) H7:=(zJ (SamT.hide sT)).trans (SamT.hide sT2);obtain ⟨hnF,fs,hF,hEF⟩:=hN.samT sT2 htp6;have hfl:=hEF.a.len
  have hM0:MutE H5 H7 F (1 + 0) fs:=fun v hv=>by
   obtain ⟨e,he,p,s,rfl,h1,⟨ys,h2,h3⟩,h4⟩:=hEF.all v hv;exact #[p,s,_,_,ys,rfl,h1,h2,by have:=h3.len; rw [List.length_map,hbl e he]at this; lia,h4]
  have hfn:=hBG.n;right;refine zl (fun σ H'=>Same (hide TB2 (hide TB H5)) H' /\ ∃ v8,σ = [!!a,~~~!n,~~~l,some (.bl b),!!o,!!D,!!J,!!F,v8]) ?_ ?_
  ·rfl'
   refine #[#[_,SqL.of hF],ForL.by (xs:=fs) (fun j σ H'=>(Same (hide TB2 (hide TB H5)) H' /\ H' F = some (.lst fs)) /\ MutE H5 H' F (1 + j) fs /\ ∃ v8,σ = [!!a,~~~!n,~~~l,some (.bl b),!!o,!!D,!!J,!!F,v8]) #[#[sh7,hF],hM0,_,rfl] (fun j σ H' _ h=>SqL.of h.1.2) ?_ ?_]
   ·refine nm4 ?_;rintro j x σ H' hx ⟨⟨i1,i4⟩,hM,v8,rfl⟩:_;have hj:=(ae.mp hx).1;obtain ⟨p,s,u,v,ys,rfl,h1,h2,h3,h4⟩:=hM x (List.mem_of_getElem? hx);have h1':=hide_same _ _ h1;have h2':=hide_same _ _ h2;have hsD:s ≠ F:=fun e=>by rw [e,zQ]at h2; cases h2
    have hsn:(hide TB2 (hide TB H5)) s = none:=by unfold hide; split; rfl; split; rfl; exact h4
    right
    rfl'
    refine #[_,SqT.of h1',_,rfl,.inl #[_,SqL.of h2'],⋯,fun t ht=>?_];have st:=zg (o:=HO.tup [.int 7,.int 7,.bl true]) ht;refine #[ys,st _ _ h2',⋯,zA (i1.trans st) hsn,by rw [zk fun e=>hsD e.symm]; exact st _ _ i4,(hM.same st).put (zJ st _ _ h2) h3 _]
   ·rintro σ H' ⟨⟨i1,i4⟩,_,v8,rfl⟩;exact #[i1,_,rfl]
  rintro σ H8 ⟨s8,v8,rfl⟩:_;right
  rfl'
  refine k7 (.inl #[(hJh.same s8).l.is,(hDh.same s8).l.is]) (Yk _) ?_;rw [yF];exact q _
end
def FnE (K:PySem.W.Frag) (x q:Str) (st:Stmt) (f:Addr):Prop:=∃ fd,Fun K x q st f fd
def FnA (K:PySem.W.Frag) (x:Str) (st:Stmt) (f:Addr):Prop:=PySem.W.nsIn K mainGlobals x = some (some (.ref f)) /\ FnE K x x st f
theorem FnA.mk {K:PySem.W.Frag} {x:Str} {st:Stmt} {f:Addr} {h:Heap} {mg:Str -> Option Value} (q:FnA K x st f) (X:K.In h) (G:h.Ns mainGlobals mg):mg x = some (.ref f) /\ PySem.W.keepIn K (.ref f) = true /\ FnE K x x st f:=by
 obtain ⟨a,fd,F⟩:=q;exact #[PySem.W.mg_of X G a,F.kp,fd,F]
theorem Y3 {us:List Value} (h:us.length = 1):∃ a,us = [a]:=List.length_eq_one_iff.mp h
theorem vP {us:List Value} (h:us.length = 2):∃ a0 a1,us = [a0,a1]:=by
 cases us with
 | nil=>cases h
 | cons a r =>
  obtain ⟨a1,rfl⟩:=Y3 (Nat.succ.inj h);exact #[a,a1,rfl]
theorem Xm {us:List Value} (h:us.length = 3):∃ a0 a1 a2,us = [a0,a1,a2]:=by
 cases us with
 | nil=>cases h
 | cons a r =>
  obtain ⟨a1,a2,rfl⟩:=vP (Nat.succ.inj h);exact #[a,a1,a2,rfl]
theorem Jv {us:List Value} (h:us.length = 4):∃ a0 a1 a2 a3,us = [a0,a1,a2,a3]:=by
 cases us with
 | nil=>cases h
 | cons a r =>
  obtain ⟨a1,a2,a3,rfl⟩:=Xm (Nat.succ.inj h);exact #[a,a1,a2,a3,rfl]
theorem K1 {us:List Value} (h:us.length = 5):∃ a0 a1 a2 a3 a4,us = [a0,a1,a2,a3,a4]:=by
 cases us with
 | nil=>cases h
 | cons a r =>
  obtain ⟨a1,a2,a3,a4,rfl⟩:=Jv (Nat.succ.inj h);exact #[a,a1,a2,a3,a4,rfl]
theorem zab {us:List Value} (h:us.length = 6):∃ a0 a1 a2 a3 a4 a5,us = [a0,a1,a2,a3,a4,a5]:=by
 cases us with
 | nil=>cases h
 | cons a r =>
  obtain ⟨a1,a2,a3,a4,a5,rfl⟩:=K1 (Nat.succ.inj h);exact #[a,a1,a2,a3,a4,a5,rfl]
theorem zam {us:List Value} (h:us.length = 7):∃ a0 a1 a2 a3 a4 a5 a6,us = [a0,a1,a2,a3,a4,a5,a6]:=by
 cases us with
 | nil=>cases h
 | cons a r =>
  obtain ⟨a1,a2,a3,a4,a5,a6,rfl⟩:=zab (Nat.succ.inj h);exact #[a,a1,a2,a3,a4,a5,a6,rfl]
theorem dfm (P:Program) (w:World) {K:PySem.W.Frag} {mg:Str -> Option Value} (base:Heap) {CX:CXT} {k:Nat} {f:Addr} {fd:FuncData} {nm:Str} {ps:List Str} {sp:Sp} (h:FnOk P w K mg base CX k f fd ps sp) (m:mg nm = some (.ref f)) (p:PySem.W.keepIn K (.ref f) = true) (b:Binds K fd ps []):Df P w K mg base CX k nm ps [] sp:=#[_,_,h,m,p,b]
local macro_rules | `(nofun)=>`(by injections)
theorem all_mk {l:PySem.W.OpenLaw} {w:World} {K:PySem.W.Frag} {h:Heap} {mg:Str -> Option Value} {fa f0 f1 f2 f3 f4 f5 f6 f7 f8 f9 f10 f11 f12 f13 f14 f15 f16 f17 f18 f19 f20 f21 f22 f23 f24 f25 f26 f27 f28 c_LetterError c_NoLetters c_Order c_FromRight c_NoUse c_TooFar:Addr} {cc TB:Addr} {cc2 TB2:Addr} (X:K.In h) (G:h.Ns mainGlobals mg) (hfa:mg "law" = some (.ref fa)) (hlam:∃ a o fd,mg "in_order" = some (.ref a) /\ h.get? a = some o /\ o.data = .func fd /\ fd.code = .ref cc) (hgT:mainGlobals ≠ TB) (hlam2:∃ a o fd,mg "_law_due" = some (.ref a) /\ h.get? a = some o /\ o.data = .func fd /\ fd.code = .ref cc2) (hgT2:mainGlobals ≠ TB2)
  {od6 an6:Option Addr} {sl6:Array (Option Value)} {oc6 kV6 dc6 pm6 cd6 ct6:Value}
  {od12 an12:Option Addr} {sl12:Array (Option Value)} {oc12 kV12 dc12 pm12 cd12 ct12:Value}
  {od27 an27:Option Addr} {sl27:Array (Option Value)} {oc27 kV27 dc27 pm27 cd27 ct27:Value}
  {od28 an28:Option Addr} {sl28:Array (Option Value)} {oc28 kV28 dc28 pm28 cd28 ct28:Value}
  {t6:Tok}
  {t8:Tok}
  {fU:Addr}
  {odU anU:Option Addr}
  {slU:Array (Option Value)}
  {ocU kVU dcU pmU cdU ctU:Value}
  {tmu tms tmd tmp:Tok}
  {fm_order_init:Addr}
  {fm_order_weight:Addr}
  {fm_order_seen:Addr}
  {fm_fromright_seen:Addr}
  {fm_order_rank:Addr}
  {fm_order_before:Addr}
  {dv_gone:Addr}
  {dt_gone:Tok}
  {d1_gone:Value}
  {d2_gone:Option Addr}
  {d3_gone:Nat}
  {d4_gone:Array (Option Value)}
  (a0:FnA K "is_small_letter" yd f0)
  (a1:FnA K "letters_of" y9 f1)
  (a2:FnA K "stands_at" xy f2)
  (a3:FnA K "put" Vj f3)
  (a4:FnA K "first_within" yy f4)
  (a5:FnA K "first_from" yZ f5)
  (a6:PySem.W.nsIn K mainGlobals "gone" = some (some (.ref f6))) (l6:K.lookup f6 = some #[oc6,od6,.func (PySem.W.fnOf "gone" "gone" (yh xn) (zO xn) (ze xn) (.ref dv_gone) kV6 dc6 pm6 an6 cd6 ct6),sl6]) (k6:PySem.W.codeIn K cd6 "gone" = true) (p6:PySem.W.keepIn K (.ref f6) = true)
  (a7:FnA K "back" j4 f7)
  (a8:FnA K "moved" uj f8)
  (a9:FnA K "by_pacts" wb f9)
  (a10:FnA K "pairs_of" xh f10)
  (a11:FnA K "as_rule" vf f11)
  (a12:PySem.W.nsIn K mainGlobals "in_order" = some (some (.ref f12))) (l12:K.lookup f12 = some #[oc12,od12,.func (PySem.W.fnOf "in_order" "in_order" (yh zW) (zO zW) (ze zW) .none kV12 dc12 pm12 an12 cd12 ct12),sl12]) (k12:PySem.W.codeIn K cd12 "in_order" = true) (p12:PySem.W.keepIn K (.ref f12) = true)
  (a13:FnA K "brought_down" yA f13)
  (a14:FnA K "refuse_beyond" yp f14)
  (a15:FnA K "built_anew" y0 f15)
  (a16:FnA K "thinned" w9 f16)
  (a17:FnA K "_law_cell" ZM f17)
  (a18:FnA K "_law_mixed" qP f18)
  (a19:FnA K "_law_letters" wU f19)
  (a20:FnA K "_law_word" Y1 f20)
  (a21:FnA K "_law_whole" qR f21)
  (a22:FnA K "_law_steps" qU f22)
  (a23:FnA K "_law_entries" wV f23)
  (a24:FnA K "_law_exact" qM f24)
  (a25:FnA K "_law_seen" jW f25)
  (a26:FnA K "_law_list" Ze f26)
  (a27:PySem.W.nsIn K mainGlobals "_law_due" = some (some (.ref f27))) (l27:K.lookup f27 = some #[oc27,od27,.func (PySem.W.fnOf "_law_due" "_law_due" (yh uK) (zO uK) (ze uK) .none kV27 dc27 pm27 an27 cd27 ct27),sl27]) (k27:PySem.W.codeIn K cd27 "_law_due" = true) (p27:PySem.W.keepIn K (.ref f27) = true)
  (a28:PySem.W.nsIn K mainGlobals "law" = some (some (.ref f28))) (l28:K.lookup f28 = some #[oc28,od28,.func (PySem.W.fnOf "law" "law" (yh vm) (zO vm) (ze vm) .none kV28 dc28 pm28 an28 cd28 ct28),sl28]) (k28:PySem.W.codeIn K cd28 "law" = true) (p28:PySem.W.keepIn K (.ref f28) = true)
  (g_LetterError:PySem.W.nsIn K mainGlobals "LetterError" = some (some (.ref c_LetterError)))
  (g_NoLetters:PySem.W.nsIn K mainGlobals "NoLetters" = some (some (.ref c_NoLetters)))
  (g_Order:PySem.W.nsIn K mainGlobals "Order" = some (some (.ref c_Order)))
  (g_FromRight:PySem.W.nsIn K mainGlobals "FromRight" = some (some (.ref c_FromRight)))
  (g_NoUse:PySem.W.nsIn K mainGlobals "NoUse" = some (some (.ref c_NoUse)))
  (g_TooFar:PySem.W.nsIn K mainGlobals "TooFar" = some (some (.ref c_TooFar)))
  (kbb:PySem.W.kitOne K (.type "bool") (.type "bool") = some true)
  (kt:PySem.W.kitOne K (.type "tuple") (.type "tuple") = some true)
  (ki:PySem.W.kitOne K (.type "int") (.type "int") = some true)
  (kb:PySem.W.kitOne K (.type "int") (.type "bool") = some false)
  (kl:PySem.W.kitOne K (.type "list") (.type "list") = some true)
  (XIl:XI K c_NoLetters)
  (xi:PySem.W.findIn K (.ref c_NoLetters) "__init__" = some (some (.builtin "ValueError.__init__")))
  (most:PySem.W.nsIn K mainGlobals "MOST_LETTERS" = some (some (.int 6 t6)))
  (pg_Order:PySem.W.plainGet K c_Order Str.empty = true)
  (hd_Order:PySem.W.hasDictIn K c_Order = true)
  (po_Order:PySem.W.plainOver K c_Order = true)
  (sa_Order:PySem.W.findIn K (.ref c_Order) "__setattr__" = some (some (.builtin "object.__setattr__")))
  (mk_Order:PySem.W.makesIn K c_Order = true)
  (kc_Order:PySem.W.keepIn K (.ref c_Order) = true)
  (nl_Order:PySem.W.findIn K (.ref c_Order) "letters" = some none)
  (ka_Order:PySem.W.kitOne K (.ref c_Order) (.ref c_Order) = some true)
  (cl_Order:PySem.W.findIn K (.ref c_Order) "__class__" = some (some (.builtin "object.__class__")))
  (mr_Order:PySem.W.mroIn K c_Order (.type "object") = some true)
  (pg_FromRight:PySem.W.plainGet K c_FromRight Str.empty = true)
  (hd_FromRight:PySem.W.hasDictIn K c_FromRight = true)
  (po_FromRight:PySem.W.plainOver K c_FromRight = true)
  (sa_FromRight:PySem.W.findIn K (.ref c_FromRight) "__setattr__" = some (some (.builtin "object.__setattr__")))
  (mk_FromRight:PySem.W.makesIn K c_FromRight = true)
  (kc_FromRight:PySem.W.keepIn K (.ref c_FromRight) = true)
  (nl_FromRight:PySem.W.findIn K (.ref c_FromRight) "letters" = some none)
  (ka_FromRight:PySem.W.kitOne K (.ref c_FromRight) (.ref c_Order) = some true)
  (cl_FromRight:PySem.W.findIn K (.ref c_FromRight) "__class__" = some (some (.builtin "object.__class__")))
  (mr_FromRight:PySem.W.mroIn K c_FromRight (.type "object") = some true)
  (win:PySem.W.nsIn K mainGlobals "WINDOW" = some (some (.int 128 t8)))
  (XIu:XI K c_NoUse)
  (ua:PySem.W.findIn K (.ref c_NoUse) "at" = some none)
  (iniU:PySem.W.findIn K (.ref c_NoUse) "__init__" = some (some (.ref fU)))
  (lU:K.lookup fU = some #[ocU,odU,.func (PySem.W.fnOf "__init__" "NoUse.__init__" (yh zV) (zO zV) (ze zV) .none kVU dcU pmU anU cdU ctU),slU])
  (kU:PySem.W.codeIn K cdU "NoUse.__init__" = true)
  (pU:PySem.W.keepIn K (.ref fU) = true)
  (fnU:PySem.W.isFn K (.ref fU) = true)
  (XIf:XI K c_TooFar)
  (vi:PySem.W.findIn K (.ref c_TooFar) "__init__" = some (some (.builtin "ValueError.__init__")))
  (sFF:PySem.W.subIn K (.ref c_TooFar) (.ref c_TooFar) = some true)
  (ks:PySem.W.kitOne K (.type "str") (.type "str") = some true)
  (nsorted:PySem.W.nsIn K mainGlobals "sorted" = some none)
  (mou:PySem.W.nsIn K mainGlobals "MOST_USES" = some (some (.int 40 tmu)))
  (mos:PySem.W.nsIn K mainGlobals "MOST_STEPS" = some (some (.int 240 tms)))
  (mod_:PySem.W.nsIn K mainGlobals "MOST_SIDE" = some (some (.int 60 tmd)))
  (mop:PySem.W.nsIn K mainGlobals "MOST_PASSES" = some (some (.int 20 tmp)))
  (fi_order_init:PySem.W.findIn K (.ref c_Order) "__init__" = some (some (.ref fm_order_init)))
  (lo_order_init:FnE K "__init__" "Order.__init__" xb fm_order_init)
  (fn_order_init:PySem.W.isFn K (.ref fm_order_init) = true)
  (fi_order_weight:PySem.W.findIn K (.ref c_Order) "weight" = some (some (.ref fm_order_weight)))
  (lo_order_weight:FnE K "weight" "Order.weight" yB fm_order_weight)
  (fn_order_weight:PySem.W.isFn K (.ref fm_order_weight) = true)
  (fi_order_seen:PySem.W.findIn K (.ref c_Order) "seen" = some (some (.ref fm_order_seen)))
  (lo_order_seen:FnE K "seen" "Order.seen" y3 fm_order_seen)
  (fn_order_seen:PySem.W.isFn K (.ref fm_order_seen) = true)
  (fi_fromright_seen:PySem.W.findIn K (.ref c_FromRight) "seen" = some (some (.ref fm_fromright_seen)))
  (lo_fromright_seen:FnE K "seen" "FromRight.seen" yj fm_fromright_seen)
  (fn_fromright_seen:PySem.W.isFn K (.ref fm_fromright_seen) = true)
  (fi_order_rank:PySem.W.findIn K (.ref c_Order) "rank" = some (some (.ref fm_order_rank)))
  (lo_order_rank:FnE K "rank" "Order.rank" yu fm_order_rank)
  (fn_order_rank:PySem.W.isFn K (.ref fm_order_rank) = true)
  (fi_order_before:PySem.W.findIn K (.ref c_Order) "before" = some (some (.ref fm_order_before)))
  (lo_order_before:FnE K "before" "Order.before" yx fm_order_before)
  (fn_order_before:PySem.W.isFn K (.ref fm_order_before) = true)
  (dl_gone:K.lookup dv_gone = some #[d1_gone,d2_gone,.seq #[.int 4000 dt_gone] d3_gone,d4_gone])
  (fiR_init:PySem.W.findIn K (.ref c_FromRight) "__init__" = some (some (.ref fm_order_init)))
  (fiR_weight:PySem.W.findIn K (.ref c_FromRight) "weight" = some (some (.ref fm_order_weight)))
  (fiR_rank:PySem.W.findIn K (.ref c_FromRight) "rank" = some (some (.ref fm_order_rank)))
  (fiR_before:PySem.W.findIn K (.ref c_FromRight) "before" = some (some (.ref fm_order_before)))
  (b0:PySem.W.nsIn K mainGlobals "len" = some none)
  (b1:PySem.W.nsIn K mainGlobals "range" = some none)
  (b2:PySem.W.nsIn K mainGlobals "isinstance" = some none)
  (b3:PySem.W.nsIn K mainGlobals "str" = some none)
  (b4:PySem.W.nsIn K mainGlobals "int" = some none)
  (b5:PySem.W.nsIn K mainGlobals "tuple" = some none)
  (b6:PySem.W.nsIn K mainGlobals "list" = some none)
  (b7:PySem.W.nsIn K mainGlobals "bool" = some none)
  (b8:PySem.W.nsIn K mainGlobals "enumerate" = some none)
  (b9:PySem.W.nsIn K mainGlobals "all" = some none)
  (b10:PySem.W.nsIn K mainGlobals "ValueError" = some none)
  (b11:PySem.W.nsIn K mainGlobals "max" = some none)
  (b12:PySem.W.nsIn K mainGlobals "reversed" = some none)
  (b13:PySem.W.nsIn K mainGlobals "zip" = some none)
  (b14:PySem.W.nsIn K mainGlobals "sum" = some none)
  (b15:PySem.W.nsIn K mainGlobals "sorted" = some none)
  : ∃ fd:FuncData,(∀ (s:Shared) (v:Value),BindsTo s fd #[[v],[]] [("_law_script",v)]) /\ ∀ base:Heap,K.In base -> base.Ns mainGlobals mg -> base.BuiltinsAt mg TB -> PySem.W.CodeHd base cc TB -> base.BuiltinsAt mg TB2 -> PySem.W.CodeHd base cc2 TB2 -> FnOk l.prog w K mg base CX0 8 fa fd ["_law_script"] (jV K TB TB2):=by
 have e:=hfa.symm.trans (PySem.W.mg_of X G a28);cases e;have B:Bt mg:=#[PySem.W.mg_none_of X G b0,PySem.W.mg_none_of X G b1,PySem.W.mg_none_of X G b2,PySem.W.mg_none_of X G b3,PySem.W.mg_none_of X G b4,PySem.W.mg_none_of X G b5,PySem.W.mg_none_of X G b6,PySem.W.mg_none_of X G b7,PySem.W.mg_none_of X G b8,PySem.W.mg_none_of X G b9,PySem.W.mg_none_of X G b10,PySem.W.mg_none_of X G b11,PySem.W.mg_none_of X G b12,PySem.W.mg_none_of X G b13,PySem.W.mg_none_of X G b14,PySem.W.mg_none_of X G b15];obtain ⟨M0,p0,_,F0⟩:=a0.mk X G;have B0:=F0.binds (ps:=["sign"]) fun _ _ _ _ _ _ us hl=>by obtain ⟨_,rfl⟩:=Y3 hl; rfl
 obtain ⟨M1,p1,_,F1⟩:=a1.mk X G;have B1:=F1.binds (ps:=["text"]) fun _ _ _ _ _ _ us hl=>by obtain ⟨_,rfl⟩:=Y3 hl; rfl
 obtain ⟨M2,p2,_,F2⟩:=a2.mk X G;have B2:=F2.binds (ps:=["word", "place", "part"]) fun _ _ _ _ _ _ us hl=>by obtain ⟨_,_,_,rfl⟩:=Xm hl; rfl
 obtain ⟨M3,p3,_,F3⟩:=a3.mk X G;have B3:=F3.binds (ps:=["word", "place", "old", "new"]) fun _ _ _ _ _ _ us hl=>by obtain ⟨_,_,_,_,rfl⟩:=Jv hl; rfl
 obtain ⟨M4,p4,_,F4⟩:=a4.mk X G;have B4:=F4.binds (ps:=["rules", "word", "start", "end"]) fun _ _ _ _ _ _ us hl=>by obtain ⟨_,_,_,_,rfl⟩:=Jv hl; rfl
 obtain ⟨M5,p5,_,F5⟩:=a5.mk X G;have B5:=F5.binds (ps:=["rules", "word", "start"]) fun _ _ _ _ _ _ us hl=>by obtain ⟨_,_,_,rfl⟩:=Xm hl; rfl
 have F6:FunD K "gone" "gone" xn (.ref dv_gone) f6 (PySem.W.fnOf "gone" "gone" (yh xn) (zO xn) (ze xn) (.ref dv_gone) kV6 dc6 pm6 an6 cd6 ct6):=⟨#[_,_,_,_,_,_,_,_,_,rfl,l6,k6]⟩;have M6:=PySem.W.mg_of X G a6;obtain ⟨M7,p7,_,F7⟩:=a7.mk X G;have B7:=F7.binds (ps:=["steps"]) fun _ _ _ _ _ _ us hl=>by obtain ⟨_,rfl⟩:=Y3 hl; rfl
 obtain ⟨M8,p8,_,F8⟩:=a8.mk X G;have B8:=F8.binds (ps:=["steps", "size"]) fun _ _ _ _ _ _ us hl=>by obtain ⟨_,_,rfl⟩:=vP hl; rfl
 obtain ⟨M9,p9,_,F9⟩:=a9.mk X G;have B9:=F9.binds (ps:=["entries", "steps"]) fun _ _ _ _ _ _ us hl=>by obtain ⟨_,_,rfl⟩:=vP hl; rfl
 obtain ⟨M10,p10,_,F10⟩:=a10.mk X G;have B10:=F10.binds (ps:=["entries"]) fun _ _ _ _ _ _ us hl=>by obtain ⟨_,rfl⟩:=Y3 hl; rfl
 obtain ⟨M11,p11,_,F11⟩:=a11.mk X G;have B11:=F11.binds (ps:=["order", "entry"]) fun _ _ _ _ _ _ us hl=>by obtain ⟨_,_,rfl⟩:=vP hl; rfl
 have F12:=fun_mk (st:=zW) l12 k12 p12;have B12:=F12.binds (ps:=["order", "entries"]) fun _ _ _ _ _ _ us hl=>by obtain ⟨_,_,rfl⟩:=vP hl; rfl
 have M12:=PySem.W.mg_of X G a12;obtain ⟨M13,p13,_,F13⟩:=a13.mk X G;have B13:=F13.binds (ps:=["entries", "entry"]) fun _ _ _ _ _ _ us hl=>by obtain ⟨_,_,rfl⟩:=vP hl; rfl
 obtain ⟨M14,p14,_,F14⟩:=a14.mk X G;have B14:=F14.binds (ps:=["entry"]) fun _ _ _ _ _ _ us hl=>by obtain ⟨_,rfl⟩:=Y3 hl; rfl
 obtain ⟨M15,p15,_,F15⟩:=a15.mk X G;have B15:=F15.binds (ps:=["order", "entries"]) fun _ _ _ _ _ _ us hl=>by obtain ⟨_,_,rfl⟩:=vP hl; rfl
 obtain ⟨M16,p16,_,F16⟩:=a16.mk X G;have B16:=F16.binds (ps:=["order", "entries"]) fun _ _ _ _ _ _ us hl=>by obtain ⟨_,_,rfl⟩:=vP hl; rfl
 obtain ⟨M17,p17,_,F17⟩:=a17.mk X G;have B17:=F17.binds (ps:=["_law_script", "_law_k"]) fun _ _ _ _ _ _ us hl=>by obtain ⟨_,_,rfl⟩:=vP hl; rfl
 obtain ⟨M18,p18,_,F18⟩:=a18.mk X G;have B18:=F18.binds (ps:=["_law_cell_here", "_law_turn"]) fun _ _ _ _ _ _ us hl=>by obtain ⟨_,_,rfl⟩:=vP hl; rfl
 obtain ⟨M19,p19,_,F19⟩:=a19.mk X G;have B19:=F19.binds (ps:=["_law_cell_here", "_law_many"]) fun _ _ _ _ _ _ us hl=>by obtain ⟨_,_,rfl⟩:=vP hl; rfl
 obtain ⟨M20,p20,_,F20⟩:=a20.mk X G;have B20:=F20.binds (ps:=["_law_number", "_law_letters_here", "_law_most"]) fun _ _ _ _ _ _ us hl=>by obtain ⟨_,_,_,rfl⟩:=Xm hl; rfl
 obtain ⟨M21,p21,_,F21⟩:=a21.mk X G;have B21:=F21.binds (ps:=["_law_found"]) fun _ _ _ _ _ _ us hl=>by obtain ⟨_,rfl⟩:=Y3 hl; rfl
 obtain ⟨M22,p22,_,F22⟩:=a22.mk X G;have B22:=F22.binds (ps:=["_law_found"]) fun _ _ _ _ _ _ us hl=>by obtain ⟨_,rfl⟩:=Y3 hl; rfl
 obtain ⟨M23,p23,_,F23⟩:=a23.mk X G;have B23:=F23.binds (ps:=["_law_found"]) fun _ _ _ _ _ _ us hl=>by obtain ⟨_,rfl⟩:=Y3 hl; rfl
 obtain ⟨M24,p24,_,F24⟩:=a24.mk X G;have B24:=F24.binds (ps:=["_law_number", "_law_letters_here", "_law_size"]) fun _ _ _ _ _ _ us hl=>by obtain ⟨_,_,_,rfl⟩:=Xm hl; rfl
 obtain ⟨M25,p25,_,F25⟩:=a25.mk X G;have B25:=F25.binds (ps:=["_law_right", "_law_word_here"]) fun _ _ _ _ _ _ us hl=>by obtain ⟨_,_,rfl⟩:=vP hl; rfl
 obtain ⟨M26,p26,_,F26⟩:=a26.mk X G;have B26:=F26.binds (ps:=["_law_script", "_law_letters_here", "_law_size"]) fun _ _ _ _ _ _ us hl=>by obtain ⟨_,_,_,rfl⟩:=Xm hl; rfl
 have F27:=fun_mk (st:=uK) l27 k27 p27;have B27:=F27.binds (ps:=["_law_entries_here", "_law_letters_here", "_law_right"]) fun _ _ _ _ _ _ us hl=>by obtain ⟨_,_,_,rfl⟩:=Xm hl; rfl
 have M27:=PySem.W.mg_of X G a27;have F28:=fun_mk (st:=vm) l28 k28 p28;have B28:=F28.binds (ps:=["_law_script"]) fun _ _ _ _ _ _ us hl=>by obtain ⟨_,rfl⟩:=Y3 hl; rfl
 have M28:=PySem.W.mg_of X G a28
 have HCC:cd12 = .ref cc:=by
  obtain ⟨ai,oi,fdi,m1,m2,m3,m4⟩:=hlam;have e1:=m1.symm.trans (PySem.W.mg_of X G a12);cases e1;have e2:=m2.symm.trans (X _ _ l12);cases e2;cases m3;exact m4
 have HCC2:cd27 = .ref cc2:=by
  obtain ⟨ai,oi,fdi,m1,m2,m3,m4⟩:=hlam2;have e1:=m1.symm.trans (PySem.W.mg_of X G a27);cases e1;have e2:=m2.symm.trans (X _ _ l27);cases e2;cases m3;exact m4
 refine #[PySem.W.fnOf "law" "law" (yh vm) (zO vm) (ze vm) .none kV28 dc28 pm28 an28 cd28 ct28,fun s v=>.of_eq rfl,fun base _ _ HBT HCH HBT2 HCH2=>?_];have TL:KG K mg c_NoLetters:=#[XIl,xi,PySem.W.mg_of X G g_NoLetters,t6,PySem.W.mg_of X G most];have TO:TOrd K mg c_Order c_FromRight c_Order:=#[#[pg_Order,hd_Order,po_Order,sa_Order],#[pg_FromRight,hd_FromRight,po_FromRight,sa_FromRight],#[pg_Order,hd_Order,po_Order,sa_Order],PySem.W.mg_of X G g_Order,PySem.W.mg_of X G g_FromRight,nl_Order,nl_FromRight,nl_Order];have TWi:KW mg:=#[t8,PySem.W.mg_of X G win];have TNu:TNU K mg c_NoUse:=#[XIu,PySem.W.mg_of X G g_NoUse,ua];have FU:=fun_mk (st:=zV) lU kU pU;have BU:=FU.binds (ps:=["self", "at"]) fun _ _ _ _ _ _ us hl=>by obtain ⟨_,_,rfl⟩:=vP hl; rfl
 have TUd:DNU l.prog w K mg base c_NoUse:=#[TNu,_,_,iniU,fnU,uD TNu FU,BU];have TF:Jn K mg c_TooFar:=#[XIf,vi,PySem.W.mg_of X G g_TooFar];have TMk:TMo mg:=#[#[tmu,PySem.W.mg_of X G mou],#[tms,PySem.W.mg_of X G mos],#[tmd,PySem.W.mg_of X G mod_],#[tmp,PySem.W.mg_of X G mop]];have D0:=dfm l.prog w base (XD F0) M0 p0 B0;have D1:=dfm l.prog w base (ut B TL F1 D0) M1 p1 B1;have D2:=dfm l.prog w base (qr B F2) M2 p2 B2;have D3:=dfm l.prog w base (QQ B TUd F3 D2) M3 p3 B3;obtain ⟨_,FM_order_init⟩:=lo_order_init;have ke_order_init:=FM_order_init.kp;have BM_order_init:=FM_order_init.binds (ps:=["self", "letters"]) fun _ _ _ _ _ _ us hl=>by obtain ⟨_,_,rfl⟩:=vP hl; rfl
 have MM_order_init:DMk l.prog w K mg base CX0 3 c_Order ["self", "letters"] (vT K):=#[_,_,#[mk_Order,fi_order_init,fn_order_init,kc_Order],xT B FM_order_init D1,BM_order_init];obtain ⟨_,FM_order_weight⟩:=lo_order_weight;have ke_order_weight:=FM_order_weight.kp;have BM_order_weight:=FM_order_weight.binds (ps:=["self", "word"]) fun _ _ _ _ _ _ us hl=>by obtain ⟨_,_,rfl⟩:=vP hl; rfl
 have MM_order_weight:DM l.prog w K mg base CX0 1 c_Order "weight" ["self", "word"] uk:=#[_,_,#[fi_order_weight,fn_order_weight,ke_order_weight],xf B FM_order_weight,BM_order_weight];obtain ⟨_,FM_order_seen⟩:=lo_order_seen;have ke_order_seen:=FM_order_seen.kp;have BM_order_seen:=FM_order_seen.binds (ps:=["self", "word"]) fun _ _ _ _ _ _ us hl=>by obtain ⟨_,_,rfl⟩:=vP hl; rfl
 have MM_order_seen:DM l.prog w K mg base CX0 1 c_Order "seen" ["self", "word"] Z3:=#[_,_,#[fi_order_seen,fn_order_seen,ke_order_seen],uG B FM_order_seen,BM_order_seen];obtain ⟨_,FM_fromright_seen⟩:=lo_fromright_seen;have ke_fromright_seen:=FM_fromright_seen.kp;have BM_fromright_seen:=FM_fromright_seen.binds (ps:=["self", "word"]) fun _ _ _ _ _ _ us hl=>by obtain ⟨_,_,rfl⟩:=vP hl; rfl
 have MM_fromright_seen:DM l.prog w K mg base CX0 1 c_FromRight "seen" ["self", "word"] qW:=#[_,_,#[fi_fromright_seen,fn_fromright_seen,ke_fromright_seen],wd B FM_fromright_seen,BM_fromright_seen];have TT:TWS l.prog w K mg base c_Order c_FromRight c_Order:=#[TO,MM_order_init,#[_,_,#[mk_FromRight,fiR_init,fn_order_init,kc_FromRight],xT B FM_order_init D1,BM_order_init],MM_order_weight,#[_,_,#[fiR_weight,fn_order_weight,ke_order_weight],xf B FM_order_weight,BM_order_weight],MM_order_seen,MM_fromright_seen];obtain ⟨_,FM_order_rank⟩:=lo_order_rank;have ke_order_rank:=FM_order_rank.kp;have BM_order_rank:=FM_order_rank.binds (ps:=["self", "word"]) fun _ _ _ _ _ _ us hl=>by obtain ⟨_,_,rfl⟩:=vP hl; rfl
 have MM_order_rank:DM l.prog w K mg base CX0 2 c_Order "rank" ["self", "word"] (wS c_Order c_FromRight c_Order):=#[_,_,#[fi_order_rank,fn_order_rank,ke_order_rank],xG B TT FM_order_rank,BM_order_rank];have DRk:DR l.prog w K mg base c_Order c_FromRight c_Order:=⟨fun C h=>by rcases h with e | e | e; (rw [e]; exact #[TO.cO,MM_order_rank]); (rw [e]; exact #[TO.cR,#[_,_,#[fiR_rank,fn_order_rank,ke_order_rank],xG B TT FM_order_rank,BM_order_rank]]); (rw [e]; exact #[TO.cO,MM_order_rank])⟩;obtain ⟨_,FM_order_before⟩:=lo_order_before;have ke_order_before:=FM_order_before.kp;have BM_order_before:=FM_order_before.binds (ps:=["self", "one", "other"]) fun _ _ _ _ _ _ us hl=>by obtain ⟨_,_,_,rfl⟩:=Xm hl; rfl
 have MM_order_before:DM l.prog w K mg base CX0 3 c_Order "before" ["self", "one", "other"] (Zz c_Order c_FromRight c_Order):=#[_,_,#[fi_order_before,fn_order_before,ke_order_before],yY B DRk FM_order_before,BM_order_before];have DBk:DB l.prog w K mg base c_Order c_FromRight c_Order:=⟨fun C h=>by rcases h with e | e | e; (rw [e]; exact #[TO.cO,MM_order_before]); (rw [e]; exact #[TO.cR,#[_,_,#[fiR_before,fn_order_before,ke_order_before],yY B DRk FM_order_before,BM_order_before]]); (rw [e]; exact #[TO.cO,MM_order_before])⟩;have D4:=dfm l.prog w base (wY B F4) M4 p4 B4;have D5:=dfm l.prog w base (uI B TWi F5 D4) M5 p5 B5;have O6:=V2 (P:=l.prog) (w:=w) (base:=base) B TF TUd F6 D5 D3;have D6:Df l.prog w K mg base (CXx l.prog w) 4 "gone" ["rules", "word", "most"] [] (xY K c_TooFar):=#[_,_,O6,M6,p6,fun s us hK hl=>by obtain ⟨_,_,_,rfl⟩:=Xm (us:=us) (by simpa using hl); exact BindsTo.of_defaults rfl (hK _ _ dl_gone) rfl rfl rfl];have D6d:Df l.prog w K mg base (CXx l.prog w) 4 "gone" ["rules", "word", "most"] [.int 4000 dt_gone] (xY K c_TooFar):=#[_,_,O6,M6,p6,fun s us hK hl=>by obtain ⟨_,_,rfl⟩:=vP (us:=us) (by simpa using hl); exact BindsTo.of_defaults rfl (hK _ _ dl_gone) rfl rfl rfl];have D7:=dfm l.prog w base (UR B F7) M7 p7 B7;have D8:=dfm l.prog w base (Xv B F8) M8 p8 B8;have D9:=dfm l.prog w base (qQ B F9 D8 D7) M9 p9 B9;have D10:=dfm l.prog w base (qT B F10) M10 p10 B10;have D11:=dfm l.prog w base (kG B DBk F11 D7) M11 p11 B11;have D12:=dfm l.prog w base (jm B DRk (PySem.W.mg_none_of X G nsorted) HCH HBT hgT F12 HCC D11) M12 p12 B12;have D13:=dfm l.prog w base (wZ B TMk F13 D10 D6 D6d D9 D7) M13 p13 B13;have D14:=dfm l.prog w base (wq B TF TMk F14) M14 p14 B14;have D15:=dfm l.prog w base (uU B F15 D13 D14 D11) M15 p15 B15;have D16:=dfm l.prog w base (kE B TF TMk F16 D12 D15 D10) M16 p16 B16;have D17:=dfm l.prog w base (Vy B F17) M17 p17 B17;have D18:=dfm l.prog w base (Wn B F18) M18 p18 B18;have D19:=dfm l.prog w base (kK B F19 D18) M19 p19 B19;have D20:=dfm l.prog w base (VO B F20) M20 p20 B20;have D21:=dfm l.prog w base (X7 B #[ki,kb] F21) M21 p21 B21;have D22:=dfm l.prog w base (X9 B #[kl,kt,kbb] F22 D21) M22 p22 B22;have D23:=dfm l.prog w base (kH B #[kl,kt,kbb] ⟨ks⟩ F23 D22) M23 p23 B23;have D24:=dfm l.prog w base (X1 B F24) M24 p24 B24;have D25:=dfm l.prog w base (Vq B F25) M25 p25 B25;have D26:=dfm l.prog w base (VT B F26 D17 D24 D18 D20) M26 p26 B26;have D27:=dfm l.prog w base (QM B (PySem.W.mg_none_of X G nsorted) HCH2 HBT2 hgT2 F27 HCC2 D25) M27 p27 B27;exact QN B TT F28 D17 D19 D26 D16 D27 D23
theorem walk {l:PySem.W.OpenLaw} {q:Program} {loose:List Str} {XP:(Str -> Option Value) -> Heap -> Prop} {YP:World -> Heap -> Prop} {d:DefRec} {K:Params -> PySem.W.Frag} (hn:l.most = some 63) (hdf:d.params.defaults = [])
  (hY:∀ (w:World) (h:Heap),YP w h -> (K w.params).In h) (hj:((PyProof.Rows.recsOf q).find? fun r=>r.name ==("in_order" : Str)).isSome = true) (hj':((PyProof.Rows.recsOf q).find? fun r=>r.name ==("_law_due" : Str)).isSome = true) (hno:∀ w:World,Vu (K w.params) = true)
  (F:∀ (w:World) (mg:Str -> Option Value) (fa:Addr) (h:Heap) (cc T cc' T':Addr),(K w.params).In h -> h.Ns mainGlobals mg -> mg d.name = some (.ref fa) -> (∃ a o fd,mg "in_order" = some (.ref a) /\ h.get? a = some o /\ o.data = .func fd /\ fd.code = .ref cc) -> mainGlobals ≠ T -> (∃ a o fd,mg "_law_due" = some (.ref a) /\ h.get? a = some o /\ o.data = .func fd /\ fd.code = .ref cc') -> mainGlobals ≠ T' ->
   ∃ fd:FuncData,(∀ (s:Shared) (u:Value),BindsTo s fd #[[u],[]] [("_law_script",u)]) /\ ∀ base:Heap,(K w.params).In base -> base.Ns mainGlobals mg -> base.BuiltinsAt mg T -> PySem.W.CodeHd base cc T -> base.BuiltinsAt mg T' -> PySem.W.CodeHd base cc' T' -> FnOk l.prog w (K w.params) mg base CX0 8 fa fd ["_law_script"] (jV (K w.params) T T')) :
  PySem.W.WalkO q loose XP YP l.row.toRowW d [] (fun f vs=>PySem.call f vs):=by
 obtain ⟨din,hd⟩:=ao.mp hj;obtain ⟨din',hd'⟩:=ao.mp hj';have hnm:din.name = "in_order":=by simpa using List.find?_some hd
 have hnm':din'.name = "_law_due":=by simpa using List.find?_some hd'
 exact L3.walk_ofT2 (n:=63) (k:=8) (x:="_law_script") (CX:=fun _=>CX0) (din:=din) (din':=din') (sp:=fun w T T'=>jV (K w.params) T T') hn ∅ hdf #[rfl,∅,∅] (List.mem_of_find?_eq_some hd) (List.mem_of_find?_eq_some hd') hY hno (fun w mg fa h cc T cc' T' a b c e g e' g'=>F w mg fa h cc T cc' T' a b c (by rw [hnm]at e; exact e) g (by rw [hnm']at e'; exact e') g') (fun _ _ a ns T T' hl hB hT hT2 hS=>#[a,ns,rfl,hS,hB,hT,hT2,fun _=>rfl]) fun _ _ _ _ _ z=>z
end LL
noncomputable def PySem.W.Fast.tw10598768647644097174:Nat:=0
noncomputable def PySem.W.Fast.tw8843265372683854546:Nat:=0
noncomputable def PySem.W.Fast.tw8465010541026367446:Nat:=0
noncomputable def PySem.W.Fast.tw16959138538071639354:Nat:=0
noncomputable def PySem.W.Fast.tw5174389659925603671:Nat:=0
noncomputable def PySem.W.Fast.tw15922446941575468709:Nat:=0
noncomputable def PySem.W.Fast.tw17517549328978307192:Nat:=0
noncomputable def PySem.W.Fast.tw18039678412075622516:Nat:=0
noncomputable def PySem.W.Fast.tw9041235524561309738:Nat:=0
noncomputable def PySem.W.Fast.tw1934869435876395055:Nat:=0
noncomputable def PySem.W.Fast.tw4148848557831465300:Nat:=0
noncomputable def PySem.W.Fast.tw4759036132340176194:Nat:=0
noncomputable def PySem.W.Fast.tw10657079197692264182:Nat:=0
noncomputable def PySem.W.Fast.tw4265370956055290456:Nat:=0
noncomputable def PySem.W.Fast.tw15611754023691061823:Nat:=0
noncomputable def PySem.W.Fast.tw49998300810178916:Nat:=0
noncomputable def PySem.W.Fast.tw7222015503680445963:Nat:=0
noncomputable def PySem.W.Fast.tw4213264230188294042:Nat:=0
noncomputable def PySem.W.Fast.tw4339556287590978085:Nat:=0
noncomputable def PySem.W.Fast.tw3844895043573243772:Nat:=0
noncomputable def PySem.W.Fast.tw15032805027295368111:Nat:=0
noncomputable def PySem.W.Fast.tw8041173724558792464:Nat:=0
noncomputable def PySem.W.Fast.tw4796042862850409174:Nat:=0
noncomputable def PySem.W.Fast.tw8767218192483615632:Nat:=0
noncomputable def PySem.W.Fast.tw17413873108283072777:Nat:=0
noncomputable def PySem.W.Fast.tw10998527442971842322:Nat:=0
noncomputable def PySem.W.Fast.tw11994839600743504048:Nat:=0
noncomputable def PySem.W.Fast.tw12850810801532578694:Nat:=0
noncomputable def PySem.W.Fast.tw9810547626709440517:Nat:=0
noncomputable def PySem.W.Fast.tw3145322234067779397:Nat:=0
noncomputable def PySem.W.Fast.tw16752677543140434997:Nat:=0
noncomputable def PySem.W.Fast.tw13669909003638456199:Nat:=0
noncomputable def PySem.W.Fast.tw2721366898081575282:Nat:=0
noncomputable def PySem.W.Fast.tw10306950993591517879:Nat:=0
noncomputable def PySem.W.Fast.tw3588501809651495525:Nat:=0
noncomputable def PySem.W.Fast.tw8627374741827769340:Nat:=0
noncomputable def PySem.W.Fast.tw5969278587167072846:Nat:=0
noncomputable def PySem.W.Fast.tw1574623235682368839:Nat:=0
noncomputable def PySem.W.Fast.tw10574900605110609428:Nat:=0
noncomputable def PySem.W.Fast.tw17242796550682687785:Nat:=0
noncomputable def PySem.W.Fast.tw8390136065646909422:Nat:=0
noncomputable def PySem.W.Fast.tw1175470783284993275:Nat:=0
noncomputable def PySem.W.Fast.tw16762900674207123655:Nat:=0
noncomputable def PySem.W.Fast.tw5256663799630957110:Nat:=0
noncomputable def PySem.W.Fast.tw5405448656429239860:Nat:=0
noncomputable def PySem.W.Fast.tw454501707694679359:Nat:=0
noncomputable def PySem.W.Fast.tw8067716708068861077:Nat:=0
noncomputable def PySem.W.Fast.tw15017211254249913165:Nat:=0
noncomputable def PySem.W.Fast.tw14393259055980161882:Nat:=0
noncomputable def PySem.W.Fast.tw9330620252927322949:Nat:=0
noncomputable def PySem.W.Fast.tw13636387988305115723:Nat:=0
noncomputable def PySem.W.Fast.tw13412761392621797925:Nat:=0
noncomputable def PySem.W.Fast.tw790801992296404313:Nat:=0
noncomputable def PySem.W.Fast.tw10252158886226834299:Nat:=0
noncomputable def PySem.W.Fast.tw8053289211095859377:Nat:=0
noncomputable def PySem.W.Fast.tw16474848722673607559:Nat:=0
noncomputable def PySem.W.Fast.tw1587601832637327346:Nat:=0
noncomputable def PySem.W.Fast.tw15114583004438297977:Nat:=0
noncomputable def PySem.W.Fast.tw6520937076300439752:Nat:=0
noncomputable def PySem.W.Fast.tw10355260579323516695:Nat:=0
noncomputable def PySem.W.Fast.tw2804957385923068237:Nat:=0
noncomputable def PySem.W.Fast.tw7197929989354649159:Nat:=0
noncomputable def PySem.W.Fast.tw16352745759415431310:Nat:=0
noncomputable def PySem.W.Fast.tw12359839066164527355:Nat:=0
noncomputable def PySem.W.Fast.tw2228454374011347686:Nat:=0
noncomputable def PySem.W.Fast.tw13998577910298593111:Nat:=0
noncomputable def PySem.W.Fast.tw417035930663723879:Nat:=0
noncomputable def PySem.W.Fast.tw10361530497485818830:Nat:=0
noncomputable def PySem.W.Fast.tw16688360565475233351:Nat:=0
noncomputable def PySem.W.Fast.tw762932178069648374:Nat:=0
noncomputable def PySem.W.Fast.tw14603617626971569389:Nat:=0
noncomputable def PySem.W.Fast.tw2106022722419546862:Nat:=0
noncomputable def PySem.W.Fast.tw15058205759736392390:Nat:=0
noncomputable def PySem.W.Fast.tw10609732205935879985:Nat:=0
noncomputable def PySem.W.Fast.tw12855951360041165692:Nat:=0
noncomputable def PySem.W.Fast.tw18441191330440289551:Nat:=0
noncomputable def PySem.W.Fast.tw6160646244195832571:Nat:=0
noncomputable def PySem.W.Fast.tw8190300124042096525:Nat:=0
noncomputable def PySem.W.Fast.tw16145052998497786909:Nat:=0
noncomputable def PySem.W.Fast.tw2101740642187707722:Nat:=0
noncomputable def PySem.W.Fast.tw1448149365855703556:Nat:=0
noncomputable def PySem.W.Fast.tw17613882895275340927:Nat:=0
noncomputable def PySem.W.Fast.tw5953646666839362947:Nat:=0
noncomputable def PySem.W.Fast.tw784204143203574538:Nat:=0
noncomputable def PySem.W.Fast.tw14205755865982828146:Nat:=0
noncomputable def PySem.W.Fast.tw9372914004116389295:Nat:=0
noncomputable def PySem.W.Fast.tw12933726126004000449:Nat:=0
noncomputable def PySem.W.Fast.tw2448775453553809542:Nat:=0
noncomputable def PySem.W.Fast.tw3631301304510356341:Nat:=0
noncomputable def PySem.W.Fast.tw7512002861761215140:Nat:=0
noncomputable def PySem.W.Fast.tw12659923433456522886:Nat:=0
noncomputable def PySem.W.Fast.tw11432222150981681084:Nat:=0
noncomputable def PySem.W.Fast.tw13218948669008694368:Nat:=0
noncomputable def PySem.W.Fast.tw10270069673522054841:Nat:=0
noncomputable def PySem.W.Fast.tw4035991141852036950:Nat:=0
noncomputable def PySem.W.Fast.tw10843540824449501665:Nat:=0
noncomputable def PySem.W.Fast.tw4657823845591583177:Nat:=0
noncomputable def PySem.W.Fast.tw15671018817428607500:Nat:=0
noncomputable def PySem.W.Fast.tw11456140221932759614:Nat:=0
noncomputable def PySem.W.Fast.tw5485194135157243324:Nat:=0
noncomputable def PySem.W.Fast.tw6315025331002374558:Nat:=0
noncomputable def PySem.W.Fast.tw2997383240515659844:Nat:=0
noncomputable def PySem.W.Fast.tw1953912126612206011:Nat:=0
noncomputable def PySem.W.Fast.tw4036382219457061268:Nat:=0
noncomputable def PySem.W.Fast.tw13790112881771550135:Nat:=0
noncomputable def PySem.W.Fast.tw8649554828738032081:Nat:=0
noncomputable def PySem.W.Fast.tw1236611555183458262:Nat:=0
noncomputable def PySem.W.Fast.tw14917104501764524299:Nat:=0
noncomputable def PySem.W.Fast.tw2449590953780100080:Nat:=0
noncomputable def PySem.W.Fast.tw704671283389346598:Nat:=0
noncomputable def PySem.W.Fast.tw17010654736397318556:Nat:=0
noncomputable def PySem.W.Fast.tw15909974719695091291:Nat:=0
noncomputable def PySem.W.Fast.tw4387692909267580312:Nat:=0
noncomputable def PySem.W.Fast.tw16082299866789998866:Nat:=0
noncomputable def PySem.W.Fast.tw6286629640980300140:Nat:=0
noncomputable def PySem.W.Fast.tw7841744631370915198:Nat:=0
noncomputable def PySem.W.Fast.tw1488177248873777969:Nat:=0
noncomputable def PySem.W.Fast.tw17569094603785654623:Nat:=0
noncomputable def PySem.W.Fast.tw9478971526066713599:Nat:=0
noncomputable def PySem.W.Fast.tw18182519793696334407:Nat:=0
noncomputable def PySem.W.Fast.tw12474070826310727694:Nat:=0
noncomputable def PySem.W.Fast.tw13784733202978157083:Nat:=0
noncomputable def PySem.W.Fast.tw16455230139171431079:Nat:=0
noncomputable def PySem.W.Fast.tw16418214278317695660:Nat:=0
noncomputable def PySem.W.Fast.tw15541153873756609344:Nat:=0
noncomputable def PySem.W.Fast.tw319917464643217030:Nat:=0
noncomputable def PySem.W.Fast.tw1519642655437322302:Nat:=0
noncomputable def PySem.W.Fast.tw17602082947460237409:Nat:=0
noncomputable def PySem.W.Fast.tw4931758560491178901:Nat:=0
noncomputable def PySem.W.Fast.tw14712373137263358710:Nat:=0
noncomputable def PySem.W.Fast.tw3707794578148225080:Nat:=0
noncomputable def PySem.W.Fast.tw4996110394000564431:Nat:=0
noncomputable def PySem.W.Fast.tw7881739591536423779:Nat:=0
noncomputable def PySem.W.Fast.tw17653517689953129620:Nat:=0
noncomputable def PySem.W.Fast.tw14985692054393453304:Nat:=0
noncomputable def PySem.W.Fast.tw7855545768022591572:Nat:=0
noncomputable def PySem.W.Fast.tw188581429670775399:Nat:=0
noncomputable def PySem.W.Fast.tw6931737904585299694:Nat:=0
noncomputable def PySem.W.Fast.tw18066458428214528803:Nat:=0
noncomputable def PySem.W.Fast.tw8358301679087924918:Nat:=0
noncomputable def PySem.W.Fast.tw4266227787304462343:Nat:=0
noncomputable def PySem.W.Fast.tw16085587168673900142:Nat:=0
noncomputable def PySem.W.Fast.tw8866001513243905767:Nat:=0
noncomputable def PySem.W.Fast.tw16265369038834492486:Nat:=0
noncomputable def PySem.W.Fast.tw798720073260790545:Nat:=0
noncomputable def PySem.W.Fast.tw18286985230109171171:Nat:=0
noncomputable def PySem.W.Fast.tw16456339352524350307:Nat:=0
noncomputable def PySem.W.Fast.tw6834378176265544472:Nat:=0
noncomputable def PySem.W.Fast.tw6445837478460887520:Nat:=0
noncomputable def PySem.W.Fast.tw1161909215969424750:Nat:=0
noncomputable def PySem.W.Fast.tw9527029051868359106:Nat:=0
noncomputable def PySem.W.Fast.tw3302195981627400700:Nat:=0
noncomputable def PySem.W.Fast.tw15375767748854336394:Nat:=0
noncomputable def PySem.W.Fast.tw16613570652518436091:Nat:=0
noncomputable def PySem.W.Fast.tw13924384054926471470:Nat:=0
noncomputable def PySem.W.Fast.tw6924327776893543489:Nat:=0
noncomputable def PySem.W.Fast.tw5981269339250084133:Nat:=0
noncomputable def PySem.W.Fast.tw4559052975896557595:Nat:=0
noncomputable def PySem.W.Fast.tw1856831371454670832:Nat:=0
noncomputable def PySem.W.Fast.tw934424630726743533:Nat:=0
noncomputable def PySem.W.Fast.tw330068981055910078:Nat:=0
noncomputable def PySem.W.Fast.tw12780999887529097502:Nat:=0
noncomputable def PySem.W.Fast.tw5353221871176469212:Nat:=0
noncomputable def PySem.W.Fast.tw16493233940599494442:Nat:=0
noncomputable def PySem.W.Fast.tw11080782703212461290:Nat:=0
noncomputable def PySem.W.Fast.tw12142902950469711350:Nat:=0
noncomputable def PySem.W.Fast.tw14960621632515578409:Nat:=0
noncomputable def PySem.W.Fast.tw8644017088924431521:Nat:=0
noncomputable def PySem.W.Fast.tw7818439809983193979:Nat:=0
noncomputable def PySem.W.Fast.tw12000932784750212974:Nat:=0
noncomputable def PySem.W.Fast.tw9681041290395339582:Nat:=0
noncomputable def PySem.W.Fast.tw1884324382058513157:Nat:=0
noncomputable def PySem.W.Fast.tw3112345581866441761:Nat:=0
noncomputable def PySem.W.Fast.tw4514192439909206712:Nat:=0
noncomputable def PySem.W.Fast.tw8221639729913863679:Nat:=0
noncomputable def PySem.W.Fast.tw8532750506414018964:Nat:=0
noncomputable def PySem.W.Fast.tw3889965584457415226:Nat:=0
noncomputable def PySem.W.Fast.tw15695655186336012037:Nat:=0
noncomputable def PySem.W.Fast.tw15911392651198784832:Nat:=0
noncomputable def PySem.W.Fast.tw5163912038611090634:Nat:=0
noncomputable def PySem.W.Fast.tw11001555680931008018:Nat:=0
noncomputable def PySem.W.Fast.tw18271347599842576703:Nat:=0
noncomputable def PySem.W.Fast.tw10324078993078525253:Nat:=0
noncomputable def PySem.W.Fast.tw8221613217757072966:Nat:=0
noncomputable def PySem.W.Fast.tw13013810648786498811:Nat:=0
noncomputable def PySem.W.Fast.tw5294513823651587458:Nat:=0
noncomputable def PySem.W.Fast.tw2991528144587564733:Nat:=0
noncomputable def PySem.W.Fast.tw9927679417555283562:Nat:=0
noncomputable def PySem.W.Fast.tw11297270545228749536:Nat:=0
noncomputable def PySem.W.Fast.tw12928386027172092581:Nat:=0
noncomputable def PySem.W.Fast.tw7528824760920265378:Nat:=0
noncomputable def PySem.W.Fast.tw8780392851465305786:Nat:=0
noncomputable def PySem.W.Fast.tw4568492018212056312:Nat:=0
noncomputable def PySem.W.Fast.tw289402733642678115:Nat:=0
noncomputable def PySem.W.Fast.tw16225475939980807004:Nat:=0
noncomputable def PySem.W.Fast.tw4023661632990312801:Nat:=0
open PySem PySem.W PyProof.Rows
set_option maxRecDepth 100000 in
set_option maxHeartbeats 0 in
theorem PySem.Challenge.cw_letterlaw_k52_thin_lists_stay_holds : PySem.Challenge.rw_letterlaw_k52_thin_lists_stay.Holds := by
 w_on; o_law; k_head; (case hw=>w_witness2)
 k_fill
 refine LL.walk (l:=PySem.Challenge.rw_letterlaw_k52_thin_lists_stay) rfl rfl (fun w h Y=>PySem.W.km_in_of Y) ?hJJ ?hJK ?hNN ?hFF
 case hJJ=>first | kernel_rfl | rfl | decide +kernel
 case hJK=>first | kernel_rfl | rfl | decide +kernel
 case hNN=>intro w; first | kernel_rfl | rfl
 case hFF =>
  intro w mg fa h cc T cc2 T2 KX G hmg hlam hgT hlam2 hgT2
  refine' LL.all_mk KX G hmg hlam hgT hlam2 hgT2 ?a0 ?a1 ?a2 ?a3 ?a4 ?a5 ?a6 ?l6 ?k6 ?p6 ?a7 ?a8 ?a9 ?a10 ?a11 ?a12 ?l12 ?k12 ?p12 ?a13 ?a14 ?a15 ?a16 ?a17 ?a18 ?a19 ?a20 ?a21 ?a22 ?a23 ?a24 ?a25 ?a26 ?a27 ?l27 ?k27 ?p27 ?a28 ?l28 ?k28 ?p28 ?g_LetterError ?g_NoLetters ?g_Order ?g_FromRight ?g_NoUse ?g_TooFar ?kbb ?kt ?ki ?kb ?kl ?XIl ?xi ?most ?pg_Order ?hd_Order ?po_Order ?sa_Order ?mk_Order ?kc_Order ?nl_Order ?ka_Order ?cl_Order ?mr_Order ?pg_FromRight ?hd_FromRight ?po_FromRight ?sa_FromRight ?mk_FromRight ?kc_FromRight ?nl_FromRight ?ka_FromRight ?cl_FromRight ?mr_FromRight ?win ?XIu ?ua ?iniU ?lU ?kU ?pU ?fnU ?XIf ?vi ?sFF ?ks ?nsorted ?mou ?mos ?mod_ ?mop ?fi_order_init ?lo_order_init ?fn_order_init ?fi_order_weight ?lo_order_weight ?fn_order_weight ?fi_order_seen ?lo_order_seen ?fn_order_seen ?fi_fromright_seen ?lo_fromright_seen ?fn_fromright_seen ?fi_order_rank ?lo_order_rank ?fn_order_rank ?fi_order_before ?lo_order_before ?fn_order_before ?dl_gone ?fiR_init ?fiR_weight ?fiR_rank ?fiR_before ?b0 ?b1 ?b2 ?b3 ?b4 ?b5 ?b6 ?b7 ?b8 ?b9 ?b10 ?b11 ?b12 ?b13 ?b14 ?b15
  (case a0|a1|a2|a3|a4|a5=>exact #[by k_is,_,L2.fun_mk (by k_is) (by k_is) (by k_is)])
  case a6|l6|k6|p6=>k_is
  (case a7|a8|a9|a10|a11=>exact #[by k_is,_,L2.fun_mk (by k_is) (by k_is) (by k_is)])
  case a12|l12|k12|p12=>k_is
  (case a13|a14|a15|a16|a17|a18|a19|a20|a21|a22|a23|a24|a25|a26=>exact #[by k_is,_,L2.fun_mk (by k_is) (by k_is) (by k_is)])
  case a27|l27|k27|p27|a28|l28|k28|p28|g_LetterError|g_NoLetters|g_Order|g_FromRight|g_NoUse|g_TooFar|xi|most|sa_Order|kc_Order|nl_Order|cl_Order|mr_Order|sa_FromRight|kc_FromRight|nl_FromRight|cl_FromRight|mr_FromRight|win|ua|iniU|lU|kU|pU|vi|sFF|nsorted|mou|mos|mod_|mop|fi_order_init=>k_is
  (case lo_order_init=>exact #[_,L2.fun_mk (by k_is) (by k_is) (by k_is)])
  case fi_order_weight=>k_is
  (case lo_order_weight=>exact #[_,L2.fun_mk (by k_is) (by k_is) (by k_is)])
  case fi_order_seen=>k_is
  (case lo_order_seen=>exact #[_,L2.fun_mk (by k_is) (by k_is) (by k_is)])
  case fi_fromright_seen=>k_is
  (case lo_fromright_seen=>exact #[_,L2.fun_mk (by k_is) (by k_is) (by k_is)])
  case fi_order_rank=>k_is
  (case lo_order_rank=>exact #[_,L2.fun_mk (by k_is) (by k_is) (by k_is)])
  case fi_order_before=>k_is
  (case lo_order_before=>exact #[_,L2.fun_mk (by k_is) (by k_is) (by k_is)])
  case dl_gone|fiR_init|fiR_weight|fiR_rank|fiR_before|b0|b1|b2|b3|b4|b5|b6|b7|b8|b9|b10|b11|b12|b13|b14|b15=>k_is
  (case XIl|XIu|XIf=>exact#[#[by first | kernel_rfl | rfl | k_is | decide +kernel,by k_is,by k_is,by k_is,by k_is],by k_is,by k_is,by k_is,by k_is])
  (case kbb|kt|ki|kb|kl|ka_Order|ka_FromRight|ks=>first | kernel_rfl | rfl)
  (case pg_Order|po_Order|mk_Order|pg_FromRight|po_FromRight|mk_FromRight=>first | kernel_rfl | rfl | k_is | decide +kernel)
  (case hd_Order|hd_FromRight|fnU|fn_order_init|fn_order_weight|fn_order_seen|fn_fromright_seen|fn_order_rank|fn_order_before=>first | kernel_rfl | rfl | k_is)
#print axioms PySem.Challenge.cw_letterlaw_k52_thin_lists_stay_holds
